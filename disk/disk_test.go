package disk_test

import (
	"fmt"
	"math"
	"math/rand/v2"
	"slices"
	"strings"
	"testing"

	"afterglow/api"
	"afterglow/disk"
)

const (
	twenty    = "abcdefghij0123456789"
	twentyOne = twenty + "z"
	most      = 1 << 30 // bytes of a limit
	all       = math.MaxInt
)

// fuseSeen is how many ops fuseLeft tries.
const fuseSeen = 12

// fuseLeft is how many ops are done ahead of the one that lets an up disk be down, up to fuseSeen.
func fuseLeft(d *disk.Disk) int {
	c := d.Copy()
	n := 0
	for n < fuseSeen && c.Create(fmt.Sprintf("fuse%d", n)) == api.OK {
		n++
	}
	return n
}

// whole is all bytes of a file of an up disk, read from d itself.
func whole(t *testing.T, d *disk.Disk, file string) string {
	t.Helper()
	n, _ := d.Size(file)
	s := ""
	for at := 0; at <= n; at += 64 {
		part, e := d.Read(file, at)
		if e != api.OK {
			t.Errorf("P5.3: Read %s at %d of %d bytes: %d", file, at, n, e)
		}
		s += part
	}
	return s
}

// picture is all that can be told of a disk, without a change to it.
func picture(t *testing.T, d *disk.Disk) string {
	t.Helper()
	s := fmt.Sprintf("limit %d, used %d, ops %d, reads %d, down %v, fuse %d", d.Limit(), d.Used(), d.Ops(), d.Reads(), d.Down(), fuseLeft(d))
	up := d.Copy()
	up.Crash(slices.Repeat([]int{all}, len(d.Files()))...)
	for _, file := range d.Files() {
		n, is := d.Size(file)
		s += fmt.Sprintf("; %s: %d %v, loose %d, %q", file, n, is, d.Loose(file), whole(t, up, file))
	}
	return s
}

// stays holds a disk against an earlier picture of it.
func stays(t *testing.T, what string, d *disk.Disk, before string) {
	t.Helper()
	if now := picture(t, d); now != before {
		t.Errorf("%s: was\n%s\nis\n%s", what, before, now)
	}
}

// tells holds an error against the one that is asked.
func tells(t *testing.T, what string, got, want api.Errno) {
	t.Helper()
	if got != want {
		t.Errorf("%s: told %d, not %d", what, got, want)
	}
}

// made is a disk with these files: what is ahead of a bar is synced, what is behind it is loose.
func made(t *testing.T, limit int, files ...string) *disk.Disk {
	t.Helper()
	d := disk.New(limit)
	for _, f := range files {
		file, text, _ := strings.Cut(f, ":")
		safe, loose, _ := strings.Cut(text, "|")
		tells(t, "Create "+file, d.Create(file), api.OK)
		tells(t, "Append "+file, d.Append(file, safe), api.OK)
		tells(t, "Sync "+file, d.Sync(file), api.OK)
		if loose != "" {
			tells(t, "Append "+file, d.Append(file, loose), api.OK)
		}
	}
	return d
}

// has holds the files of an up disk against what made would be given for them.
func has(t *testing.T, what string, d *disk.Disk, files ...string) {
	t.Helper()
	var got []string
	used := 0
	for _, file := range d.Files() {
		s := whole(t, d, file)
		at := len(s) - d.Loose(file)
		got = append(got, file+":"+s[:at]+"|"+s[at:])
		used += len(s)
	}
	if !slices.Equal(got, files) || d.Used() != used {
		t.Errorf("%s: %q of %d bytes, not %q", what, got, d.Used(), files)
	}
}

// call is an op, or a Read, by its words.
type call struct {
	what string
	do   func(d *disk.Disk) api.Errno
}

func create(file string) call {
	return call{"Create " + file, func(d *disk.Disk) api.Errno { return d.Create(file) }}
}

func add(file, s string) call {
	return call{"Append " + file + " " + s, func(d *disk.Disk) api.Errno { return d.Append(file, s) }}
}

func sync(file string) call {
	return call{"Sync " + file, func(d *disk.Disk) api.Errno { return d.Sync(file) }}
}

func rename(from, to string) call {
	return call{"Rename " + from + " " + to, func(d *disk.Disk) api.Errno { return d.Rename(from, to) }}
}

func remove(file string) call {
	return call{"Delete " + file, func(d *disk.Disk) api.Errno { return d.Delete(file) }}
}

// opsDone are ops that do all they can of the disk that opened tells.
func opsDone() []call {
	return []call{create("c"), create(twenty), add("a", "x"), add("a", ""), sync("a"), sync("b"), rename("a", "a"), rename("a", "b"), rename("a", "c"), rename("b", twenty), remove("a"), remove("b")}
}

// opened is a disk with room for ten bytes, of which six are used.
func opened(t *testing.T) *disk.Disk {
	t.Helper()
	return made(t, 10, "a:12|345", "b:6|")
}

// refused are ops with an error of their own, on that disk.
func refused() map[api.Errno][]call {
	l := map[api.Errno][]call{
		api.ErrDiskName: {create("a"), create("b"), add("c", "x"), add("c", ""), add("", ""), add("A", "x"), add("c", "12345678901"), sync("c"), sync(""), rename("c", "d"), rename("c", "c"), rename("c", "a"), rename("", "a"), rename("c", "D"), remove("c"), remove(""), remove("A")},
		api.ErrDiskFull: {add("a", "12345"), add("b", "12345"), add("a", strings.Repeat("x", 1000))},
	}
	for _, file := range wrongNames() {
		l[api.ErrDiskName] = append(l[api.ErrDiskName], create(file), rename("a", file))
	}
	return l
}

func rightNames() []string {
	return []string{"a", "z", "0", "9", "m5", "r00000000", twenty[:19], twenty, strings.Repeat("z", 20), strings.Repeat("0", 20)}
}

func wrongNames() []string {
	return []string{"", twentyOne, strings.Repeat("a", 21), strings.Repeat("a", 1000), "A", "Z", "aB", "a b", " ", "a.b", "a/b", "a_", "-a", "`", "{", "/", ":", "a`", "{a", "0/", ":9", "a\x00", "\x00", "\xff", "é", "aé", "٣", "\n", "a\n", "a\x80"}
}

func TestNew(t *testing.T) {
	for _, x := range []struct{ limit, want int }{{math.MinInt, 0}, {-2, 0}, {-1, 0}, {0, 0}, {1, 1}, {5, 5}, {most - 1, most - 1}, {most, most}, {most + 1, most}, {math.MaxInt, most}} {
		d := disk.New(x.limit)
		if d.Limit() != x.want {
			t.Errorf("P5.1: New(%d): the limit is %d", x.limit, d.Limit())
		}
		if d.Used() != 0 || d.Ops() != 0 || d.Reads() != 0 || d.Down() || len(d.Files()) != 0 || fuseLeft(d) != fuseSeen {
			t.Errorf("P5.1: New(%d): %s", x.limit, picture(t, d))
		}
	}
	d, other := disk.New(5), disk.New(5)
	d.Create("a")
	d.SetFuse(0)
	d.Create("b")
	if len(other.Files()) != 0 || other.Ops() != 0 || other.Down() || other.Create("a") != api.OK {
		t.Error("P5.1: two disks are one:", picture(t, other))
	}
}

func TestRight(t *testing.T) {
	for _, file := range rightNames() {
		if !disk.Right(file) || disk.New(0).Create(file) != api.OK {
			t.Errorf("P5.1: Right(%q) is false", file)
		}
	}
	for _, file := range wrongNames() {
		if disk.Right(file) {
			t.Errorf("P5.1: Right(%q) is true", file)
		}
	}
	const may = "abcdefghijklmnopqrstuvwxyz0123456789"
	for c := range 256 {
		one := string([]byte{byte(c)})
		want := strings.Contains(may, one)
		for _, file := range []string{one, "a" + one, one + "0", twenty[:10] + one + twenty[11:]} {
			if disk.Right(file) != want {
				t.Errorf("P5.1: Right(%q) is not %v", file, want)
			}
		}
	}
}

func TestSetFuse(t *testing.T) {
	for _, n := range []int{0, 1, 2, 7} {
		d := disk.New(5)
		d.SetFuse(n)
		for i := range n {
			tells(t, "P5.2: with a fuse", d.Create(fmt.Sprint(i)), api.OK)
			if d.Down() || d.Ops() != i+1 {
				t.Errorf("P5.2: a fuse of %d: down %v behind %d ops", n, d.Down(), d.Ops())
			}
		}
		tells(t, "P5.2: the fuse is 0", d.Create("x"), api.ErrDiskDown)
		if !d.Down() || d.Ops() != n || len(d.Files()) != n {
			t.Errorf("P5.2: a fuse of %d: down %v behind %d ops", n, d.Down(), d.Ops())
		}
	}
	for _, n := range []int{-1, -2, math.MinInt} {
		d := disk.New(5)
		d.SetFuse(1)
		d.SetFuse(n)
		if fuseLeft(d) != fuseSeen {
			t.Errorf("P5.1: a fuse of %d: %d ops", n, fuseLeft(d))
		}
	}
	d := disk.New(5)
	d.SetFuse(2)
	d.SetFuse(4)
	if fuseLeft(d) != 4 {
		t.Errorf("P5.1: a fuse of 4 in place of one of 2: %d ops", fuseLeft(d))
	}
}

func TestSetFuseOfADiskThatIsDown(t *testing.T) {
	for _, n := range []int{-1, 0, 1, 3} {
		d := opened(t)
		d.SetFuse(0)
		d.Delete("a")
		before := picture(t, d)
		d.SetFuse(n)
		tells(t, "P5.2: down", d.Delete("a"), api.ErrDiskDown)
		stays(t, "P5.1: a fuse of a disk that is down", d, before)
		d.Crash()
		if d.Down() || fuseLeft(d) != fuseSeen {
			t.Errorf("P5.4: behind the crash: %s", picture(t, d))
		}
	}
}

func TestReadsAndWhatIsNoOpLeaveTheFuse(t *testing.T) {
	d := opened(t)
	d.SetFuse(1)
	ops := d.Ops()
	for range 3 {
		d.Read("a", 0)
		d.Read("c", 0)
		d.Size("a")
		d.Loose("a")
		d.Files()
		d.Used()
		d.Copy()
		disk.Right("a")
	}
	if d.Down() || fuseLeft(d) != 1 || d.Ops() != ops || d.Reads() != 3 {
		t.Errorf("P5.2: no op: %s", picture(t, d))
	}
}

func TestEachOpWithAFuse(t *testing.T) {
	for _, c := range opsDone() {
		free, one, none := opened(t), opened(t), opened(t)
		ops := free.Ops()
		one.SetFuse(1)
		none.SetFuse(0)
		before := picture(t, none)
		tells(t, "P5.2: "+c.what, c.do(free), api.OK)
		tells(t, "P5.2: a fuse of 1: "+c.what, c.do(one), api.OK)
		if free.Ops() != ops+1 || one.Ops() != ops+1 || one.Down() || fuseLeft(one) != 0 || fuseLeft(free) != fuseSeen {
			t.Errorf("P5.2: %s: %d and %d ops, from %d on", c.what, free.Ops(), one.Ops(), ops)
		}
		one.SetFuse(-1)
		stays(t, "P5.2: a fuse of 1: "+c.what, one, picture(t, free))
		tells(t, "P5.2: a fuse of 0: "+c.what, c.do(none), api.ErrDiskDown)
		if !none.Down() {
			t.Errorf("P5.2: a fuse of 0: %s: not down", c.what)
		}
		stays(t, "P5.2: a fuse of 0: "+c.what, none, strings.Replace(before, "down false", "down true", 1))
	}
}

func TestOwnErrorsChangeNothing(t *testing.T) {
	for want, l := range refused() {
		for _, c := range l {
			for fuse := -1; fuse < 3; fuse++ {
				d := opened(t)
				d.SetFuse(fuse)
				before := picture(t, d)
				tells(t, fmt.Sprintf("P5.2: a fuse of %d: %q", fuse, c.what), c.do(d), want)
				stays(t, fmt.Sprintf("P5.2: a fuse of %d: %q", fuse, c.what), d, before)
			}
		}
	}
}

func TestDownIsToldFirst(t *testing.T) {
	d := opened(t)
	d.SetFuse(0)
	d.Sync("a")
	before := picture(t, d)
	l := opsDone()
	for _, more := range refused() {
		l = append(l, more...)
	}
	for _, c := range l {
		tells(t, fmt.Sprintf("P5.2: down: %q", c.what), c.do(d), api.ErrDiskDown)
		stays(t, fmt.Sprintf("P5.2: down: %q", c.what), d, before)
	}
	for _, file := range []string{"a", "b", "c", ""} {
		for _, at := range []int{-1, 0, 1, 1000} {
			if s, e := d.Read(file, at); s != "" || e != api.ErrDiskDown {
				t.Errorf("P5.3: down: Read %q at %d: %q, %d", file, at, s, e)
			}
		}
	}
	stays(t, "P5.3: down: Read", d, before)
}

func TestCreate(t *testing.T) {
	d := made(t, 10, "b:1|2")
	tells(t, "P5.2: Create a", d.Create("a"), api.OK)
	has(t, "P5.2: Create a", d, "a:|", "b:1|2")
	tells(t, "P5.2: Create a again", d.Create("a"), api.ErrDiskName)
	tells(t, "P5.2: Create b again", d.Create("b"), api.ErrDiskName)
	has(t, "P5.2: Create again", d, "a:|", "b:1|2")
	d.Delete("b")
	tells(t, "P5.2: Create what is no more", d.Create("b"), api.OK)
	has(t, "P5.2: Create what is no more", d, "a:|", "b:|")
	full := made(t, 3, "a:123|")
	tells(t, "P5.2: Create on a full disk", full.Create("b"), api.OK)
	tells(t, "P5.2: Create on a disk without room", disk.New(0).Create("b"), api.OK)
}

func TestAppendUpToTheLimit(t *testing.T) {
	d := made(t, 10, "a:12|3", "b:45|")
	for _, x := range []struct {
		file, s string
		want    api.Errno
		used    int
	}{{"a", "678901", api.ErrDiskFull, 5}, {"b", "678901", api.ErrDiskFull, 5}, {"a", "6789", api.OK, 9}, {"b", "xy", api.ErrDiskFull, 9}, {"b", "", api.OK, 9}, {"b", "x", api.OK, 10}, {"b", "y", api.ErrDiskFull, 10}, {"a", "y", api.ErrDiskFull, 10}, {"a", "", api.OK, 10}, {"c", "", api.ErrDiskName, 10}, {"c", "y", api.ErrDiskName, 10}} {
		tells(t, "P5.2: Append "+x.file+" "+x.s, d.Append(x.file, x.s), x.want)
		if d.Used() != x.used {
			t.Errorf("P5.1: behind Append %s %s: %d bytes are used", x.file, x.s, d.Used())
		}
	}
	has(t, "P5.2: Append", d, "a:12|36789", "b:45|x")
	tells(t, "P5.2: Delete", d.Delete("a"), api.OK)
	tells(t, "P5.2: Append too much behind a Delete", d.Append("b", "12345678"), api.ErrDiskFull)
	tells(t, "P5.2: Append behind a Delete", d.Append("b", "1234567"), api.OK)
	none := made(t, -5, "a:|")
	tells(t, "P5.2: Append no bytes to a disk without room", none.Append("a", ""), api.OK)
	tells(t, "P5.2: Append one to a disk without room", none.Append("a", "x"), api.ErrDiskFull)
	just := made(t, 10, "a:|")
	tells(t, "P5.2: Append one more than the limit", just.Append("a", "12345678901"), api.ErrDiskFull)
	tells(t, "P5.2: Append just the limit", just.Append("a", "1234567890"), api.OK)
}

func TestAppendAnyBytes(t *testing.T) {
	every := ""
	for c := range 256 {
		every += string([]byte{byte(c)})
	}
	d := made(t, 1000, "a:|")
	d.Append("a", every)
	d.Append("a", "é\xff")
	if s := whole(t, d, "a"); s != every+"é\xff" || d.Loose("a") != 259 {
		t.Errorf("P5.2: Append: %q", s)
	}
}

func TestSync(t *testing.T) {
	d := made(t, 20, "a:12|34", "b:5|6", "c:|")
	tells(t, "P5.2: Sync a", d.Sync("a"), api.OK)
	has(t, "P5.2: Sync a", d, "a:1234|", "b:5|6", "c:|")
	tells(t, "P5.2: Sync a again", d.Sync("a"), api.OK)
	tells(t, "P5.2: Sync c", d.Sync("c"), api.OK)
	tells(t, "P5.2: Append", d.Append("a", "7"), api.OK)
	has(t, "P5.2: Append behind a Sync", d, "a:1234|7", "b:5|6", "c:|")
}

func TestRename(t *testing.T) {
	for _, x := range []struct {
		from, to string
		want     []string
	}{
		{"a", "c", []string{"b:6|78", "c:12|345"}},
		{"b", "0", []string{"0:6|78", "a:12|345"}},
		{"a", twenty, []string{twenty + ":12|345", "b:6|78"}},
		{"a", "a", []string{"a:12|345", "b:6|78"}},
		{"b", "b", []string{"a:12|345", "b:6|78"}},
		{"a", "b", []string{"b:12|345"}},
		{"b", "a", []string{"a:6|78"}},
	} {
		d := made(t, 10, "a:12|345", "b:6|78")
		ops := d.Ops()
		tells(t, "P5.2: Rename "+x.from+" "+x.to, d.Rename(x.from, x.to), api.OK)
		has(t, "P5.2: Rename "+x.from+" "+x.to, d, x.want...)
		if d.Ops() != ops+1 {
			t.Errorf("P5.2: Rename %s %s: %d ops more", x.from, x.to, d.Ops()-ops)
		}
		if x.from != x.to {
			if n, is := d.Size(x.from); n != 0 || is || d.Loose(x.from) != 0 {
				t.Errorf("P5.2: Rename %s %s: there is a %s, of %d bytes", x.from, x.to, x.from, n)
			}
			tells(t, "P5.2: Rename what is no more", d.Rename(x.from, x.to), api.ErrDiskName)
		}
	}
}

func TestRenamedFileIsOne(t *testing.T) {
	d := made(t, 10, "a:1|2", "b:3|")
	d.Rename("a", "c")
	d.Create("a")
	d.Append("a", "4")
	d.Append("c", "5")
	d.Append("b", "6")
	has(t, "P5.2: Rename, and go on", d, "a:|4", "b:3|6", "c:1|25")
}

func TestDelete(t *testing.T) {
	d := made(t, 10, "a:12|345", "b:6|78")
	tells(t, "P5.2: Delete a", d.Delete("a"), api.OK)
	has(t, "P5.2: Delete a", d, "b:6|78")
	if _, e := d.Read("a", 0); e != api.ErrDiskName {
		t.Errorf("P5.3: Read of what is no more: %d", e)
	}
	tells(t, "P5.2: Delete a again", d.Delete("a"), api.ErrDiskName)
	tells(t, "P5.2: Delete b", d.Delete("b"), api.OK)
	has(t, "P5.2: Delete b", d)
}

func TestRead(t *testing.T) {
	for _, n := range []int{0, 1, 63, 64, 65, 127, 128, 129, 200} {
		text := strings.Repeat(twenty, 10)[:n]
		for _, synced := range []int{0, n / 2, n} {
			d := made(t, 1000, "a:"+text[:synced]+"|"+text[synced:])
			before := picture(t, d)
			reads := 0
			for at := 0; at <= n; at++ {
				s, e := d.Read("a", at)
				reads++
				if want := text[at:min(at+64, n)]; s != want || e != api.OK {
					t.Errorf("P5.3: Read at %d of %d bytes: %q, %d", at, n, s, e)
				}
			}
			for _, at := range []int{math.MinInt, -64, -1, n + 1, n + 64, math.MaxInt - 63, math.MaxInt} {
				if s, e := d.Read("a", at); s != "" || e != api.ErrArg {
					t.Errorf("P5.3: Read at %d of %d bytes: %q, %d", at, n, s, e)
				}
			}
			for _, file := range append(wrongNames(), "b", "aa", "0") {
				for _, at := range []int{-1, 0, 1} {
					if s, e := d.Read(file, at); s != "" || e != api.ErrDiskName {
						t.Errorf("P5.3: Read %q at %d: %q, %d", file, at, s, e)
					}
				}
			}
			if d.Reads() != reads {
				t.Errorf("P5.1: %d reads, not %d", d.Reads(), reads)
			}
			stays(t, "P5.3: Read", d, strings.Replace(before, "reads 0", fmt.Sprint("reads ", reads), 1))
		}
	}
	if disk.Block != 64 || disk.MaxFile != 20 {
		t.Error("the sizes:", disk.Block, disk.MaxFile)
	}
}

func TestSizeLooseAndFiles(t *testing.T) {
	d := made(t, 100, "b:12|345", "a0:|6", "9:78|", "a:|", "0:9|0")
	d.SetFuse(0)
	for range 2 {
		if l := d.Files(); !slices.Equal(l, []string{"0", "9", "a", "a0", "b"}) {
			t.Errorf("P5.3: Files: %q", l)
		}
		for _, x := range []struct {
			file        string
			size, loose int
			is          bool
		}{{"b", 5, 3, true}, {"a0", 1, 1, true}, {"9", 2, 0, true}, {"a", 0, 0, true}, {"0", 2, 1, true}, {"c", 0, 0, false}, {"", 0, 0, false}, {"B", 0, 0, false}, {twentyOne, 0, 0, false}} {
			if n, is := d.Size(x.file); n != x.size || is != x.is {
				t.Errorf("P5.3: Size of %q: %d, %v", x.file, n, is)
			}
			if n := d.Loose(x.file); n != x.loose {
				t.Errorf("P5.3: Loose of %q: %d", x.file, n)
			}
		}
		if d.Used() != 10 || d.Limit() != 100 || d.Reads() != 0 || d.Ops() != 18 {
			t.Errorf("P5.1: %s", picture(t, d))
		}
		d.Sync("b") // lets the disk be down: it tells the same the next time
	}
	if !d.Down() {
		t.Error("P5.2: a fuse of 0: not down")
	}
}

func TestCrash(t *testing.T) {
	for _, x := range []struct {
		keep []int
		want []string
	}{
		{nil, []string{"0:|", "a:12|", "b:6|", "c:9|"}},
		{[]int{0}, []string{"0:|", "a:12|", "b:6|", "c:9|"}},
		{[]int{1}, []string{"0:x|", "a:12|", "b:6|", "c:9|"}},
		{[]int{0, 1}, []string{"0:|", "a:123|", "b:6|", "c:9|"}},
		{[]int{0, 2, 1}, []string{"0:|", "a:1234|", "b:67|", "c:9|"}},
		{[]int{0, 0, 1}, []string{"0:|", "a:12|", "b:67|", "c:9|"}},
		{[]int{-1, 3, -7}, []string{"0:|", "a:12345|", "b:6|", "c:9|"}},
		{[]int{2, 4, 3}, []string{"0:x|", "a:12345|", "b:678|", "c:9|"}},
		{[]int{1, 1, 1, 1}, []string{"0:x|", "a:123|", "b:67|", "c:9|"}},
		{[]int{0, 0, 0, 5, 5}, []string{"0:|", "a:12|", "b:6|", "c:9|"}},
		{[]int{all, math.MinInt, all}, []string{"0:x|", "a:12|", "b:678|", "c:9|"}},
	} {
		for _, fuse := range []int{-1, 0, 1} {
			d := made(t, 20, "b:6|78", "c:9|", "a:12|345", "0:|x")
			d.Read("a", 0)
			d.SetFuse(fuse)
			if fuse == 0 {
				d.Delete("a")
			}
			ops, reads := d.Ops(), d.Reads()
			d.Crash(x.keep...)
			what := fmt.Sprintf("P5.4: a fuse of %d: Crash %d", fuse, x.keep)
			if d.Down() || fuseLeft(d) != fuseSeen || d.Ops() != ops || d.Reads() != reads || d.Limit() != 20 {
				t.Errorf("%s: %s", what, picture(t, d))
			}
			has(t, what, d, x.want...)
			before := picture(t, d)
			d.Crash(1, 1, 1)
			stays(t, what+", and again", d, before)
		}
	}
}

func TestCrashGoesOn(t *testing.T) {
	d := made(t, 6, "a:1|2345", "b:|")
	tells(t, "P5.2: Append", d.Append("b", "67"), api.ErrDiskFull)
	d.Crash(2)
	tells(t, "P5.4: Append behind a crash", d.Append("b", "4567"), api.ErrDiskFull)
	tells(t, "P5.4: Append behind a crash", d.Append("b", "45"), api.OK)
	tells(t, "P5.4: Append behind a crash", d.Append("a", "6"), api.OK)
	has(t, "P5.4: behind a crash", d, "a:123|6", "b:|45")
	d.Crash(0, 1)
	has(t, "P5.4: behind two crashes", d, "a:123|", "b:4|")
	disk.New(0).Crash(1, 2)
	empty := disk.New(5)
	empty.Crash()
	has(t, "P5.4: an empty disk", empty)
}

func TestCopy(t *testing.T) {
	for _, down := range []bool{false, true} {
		for fuse := -1; fuse < 4; fuse++ {
			d := made(t, 20, "a:12|345", "b:6|")
			d.Read("a", 0)
			if down {
				d.SetFuse(0)
				d.Delete("a")
			}
			d.SetFuse(fuse)
			c := d.Copy()
			if c.Limit() != 20 || c.Used() != 6 || c.Ops() != d.Ops() || c.Reads() != 1 || c.Down() != down || !slices.Equal(c.Files(), []string{"a", "b"}) || c.Loose("a") != 3 || c.Loose("b") != 0 {
				t.Errorf("P5.4: Copy: down %v, a fuse of %d: %s", down, fuse, picture(t, c))
			}
			left := 0
			for left < 10 && c.Sync("a") == api.OK {
				left++
			}
			want := fuse
			if down {
				want = 0
			} else if fuse < 0 {
				want = 10
			}
			if left != want {
				t.Errorf("P5.4: Copy: down %v, a fuse of %d: %d ops", down, fuse, left)
			}
		}
	}
}

// changes are all ways to change a disk, up or down.
func changes() []func(d *disk.Disk) {
	l := []func(d *disk.Disk){
		func(d *disk.Disk) { d.SetFuse(0) },
		func(d *disk.Disk) { d.SetFuse(5) },
		func(d *disk.Disk) { d.SetFuse(-1) },
		func(d *disk.Disk) { d.Read("a", 0) },
		func(d *disk.Disk) { d.Crash() },
		func(d *disk.Disk) { d.Crash(1) },
		func(d *disk.Disk) { d.Crash(); d.Append("a", "zzz") },
		func(d *disk.Disk) { d.Crash(3); d.Append("a", "zzz"); d.Crash(2) },
	}
	for _, c := range opsDone() {
		l = append(l, func(d *disk.Disk) { c.do(d) }, func(d *disk.Disk) { d.Crash(2); c.do(d) })
	}
	return l
}

func TestCopyIsADiskOfItsOwn(t *testing.T) {
	for _, down := range []bool{false, true} {
		for i, change := range changes() {
			d := opened(t)
			d.SetFuse(2)
			if down {
				d.SetFuse(0)
				d.Delete("a")
			}
			c := d.Copy()
			before := picture(t, d)
			stays(t, "P5.4: Copy", c, before)
			change(c)
			stays(t, fmt.Sprintf("P5.4: the disk, its copy changed (%d)", i), d, before)
			c = d.Copy()
			change(d)
			stays(t, fmt.Sprintf("P5.4: the copy, the disk changed (%d)", i), c, before)
		}
	}
}

func TestCopiesGoOnByThemselves(t *testing.T) {
	d := made(t, 1000, "a:12|")
	for range 40 { // at all lengths, so that there is room to write into behind some
		c, e := d.Copy(), d.Copy()
		d.Append("a", "x")
		c.Append("a", "y")
		e.Crash()
		e.Append("a", "z")
		s := whole(t, d, "a")
		if got := whole(t, c, "a"); got != s[:len(s)-1]+"y" {
			t.Errorf("P5.4: Copy: %q beside %q", got, s)
		}
		if got := whole(t, e, "a"); got != "12z" {
			t.Errorf("P5.4: Copy: %q beside %q", got, s)
		}
	}
	if s := whole(t, d, "a"); s != "12"+strings.Repeat("x", 40) {
		t.Errorf("P5.4: Copy: %q", s)
	}
}

func TestExample(t *testing.T) {
	d := disk.New(100)
	tells(t, "the example: Create a", d.Create("a"), api.OK)
	tells(t, "the example: Append ab", d.Append("a", "ab"), api.OK)
	tells(t, "the example: Sync", d.Sync("a"), api.OK)
	tells(t, "the example: Append cd", d.Append("a", "cd"), api.OK)
	d.Crash(1)
	if s, e := d.Read("a", 0); s != "abc" || e != api.OK {
		t.Errorf("P5.4: the example: %q, %d", s, e)
	}
}

// file is what a model has of one.
type file struct{ safe, loose string }

// model is the chapter's disk, by its words.
type model struct {
	limit, ops, reads, fuse int
	down                    bool
	files                   map[string]file
}

func (m *model) used() int {
	n := 0
	for _, f := range m.files {
		n += len(f.safe + f.loose)
	}
	return n
}

// op tells what an op tells, where own is the first of its own errors; if it is OK, it is done.
func (m *model) op(own api.Errno) api.Errno {
	if m.down {
		return api.ErrDiskDown
	}
	if own != api.OK {
		return own
	}
	if m.fuse == 0 {
		m.down = true
		return api.ErrDiskDown
	}
	if m.fuse > 0 {
		m.fuse--
	}
	m.ops++
	return api.OK
}

func (m *model) has(s string) bool {
	for k := range m.files {
		if k == s {
			return true
		}
	}
	return false
}

func right(s string) bool {
	return len(s) > 0 && len(s) < 21 && strings.Trim(s, "abcdefghijklmnopqrstuvwxyz0123456789") == ""
}

// needs is ErrDiskName, but if all of them hold.
func needs(l ...bool) api.Errno {
	if slices.Contains(l, false) {
		return api.ErrDiskName
	}
	return api.OK
}

func (m *model) create(s string) api.Errno {
	e := m.op(needs(right(s), !m.has(s)))
	if e == api.OK {
		m.files[s] = file{}
	}
	return e
}

func (m *model) add(s, text string) api.Errno {
	own := needs(m.has(s))
	if own == api.OK && m.used()+len(text) > m.limit {
		own = api.ErrDiskFull
	}
	e := m.op(own)
	if e == api.OK {
		m.files[s] = file{m.files[s].safe, m.files[s].loose + text}
	}
	return e
}

func (m *model) sync(s string) api.Errno {
	e := m.op(needs(m.has(s)))
	if e == api.OK {
		m.files[s] = file{safe: m.files[s].safe + m.files[s].loose}
	}
	return e
}

func (m *model) rename(from, to string) api.Errno {
	e := m.op(needs(m.has(from), right(to)))
	if e == api.OK && from != to {
		m.files[to] = m.files[from]
		delete(m.files, from)
	}
	return e
}

func (m *model) remove(s string) api.Errno {
	e := m.op(needs(m.has(s)))
	if e == api.OK {
		delete(m.files, s)
	}
	return e
}

func (m *model) read(s string, at int) (string, api.Errno) {
	if m.down {
		return "", api.ErrDiskDown
	}
	if !m.has(s) {
		return "", api.ErrDiskName
	}
	text := m.files[s].safe + m.files[s].loose
	if at < 0 || at > len(text) {
		return "", api.ErrArg
	}
	m.reads++
	text = text[at:]
	if len(text) > 64 {
		text = text[:64]
	}
	return text, api.OK
}

func (m *model) names() []string {
	var l []string
	for k := range m.files {
		l = append(l, k)
	}
	slices.Sort(l)
	return l
}

func (m *model) crash(keep []int) {
	nth := 0
	for _, k := range m.names() {
		f := m.files[k]
		if f.loose == "" {
			continue
		}
		n := 0
		if nth < len(keep) {
			n = keep[nth]
		}
		nth++
		for i := 0; i < n && i < len(f.loose); i++ {
			f.safe += f.loose[i : i+1]
		}
		m.files[k] = file{safe: f.safe}
	}
	m.down, m.fuse = false, -1
}

// picture is what picture of a disk of the model's is.
func (m *model) picture() string {
	left := m.fuse
	if m.down {
		left = 0
	} else if left < 0 || left > fuseSeen {
		left = fuseSeen
	}
	s := fmt.Sprintf("limit %d, used %d, ops %d, reads %d, down %v, fuse %d", m.limit, m.used(), m.ops, m.reads, m.down, left)
	for _, k := range m.names() {
		text := m.files[k].safe + m.files[k].loose
		s += fmt.Sprintf("; %s: %d true, loose %d, %q", k, len(text), len(m.files[k].loose), text)
	}
	return s
}

// both does one call, by chance, to the disk and to the model, and tells its words and what each told.
func both(d *disk.Disk, m *model, r *rand.Rand) (what, got, want string) {
	names := []string{"a", "b", "c", "a0", "0", twenty, twentyOne, "", "A"}
	s, to := names[r.IntN(len(names))], names[r.IntN(len(names))]
	text := strings.Repeat("0123456789", 13)[:[]int{0, 1, 2, 5, 20, 63, 64, 65, 130}[r.IntN(9)]]
	n := r.IntN(80) - 5
	var e, x api.Errno
	var part, whole string
	switch r.IntN(20) {
	case 0, 1, 2:
		what, e, x = "Create "+s, d.Create(s), m.create(s)
	case 3, 4, 5, 6, 7:
		what, e, x = "Append "+s+" "+text, d.Append(s, text), m.add(s, text)
	case 8, 9, 10:
		what, e, x = "Sync "+s, d.Sync(s), m.sync(s)
	case 11, 12:
		what, e, x = "Rename "+s+" "+to, d.Rename(s, to), m.rename(s, to)
	case 13:
		what, e, x = "Delete "+s, d.Delete(s), m.remove(s)
	case 14, 15, 16:
		what = fmt.Sprintf("Read %s %d", s, n)
		part, e = d.Read(s, n)
		whole, x = m.read(s, n)
	case 17:
		what = fmt.Sprint("SetFuse ", n)
		d.SetFuse(n)
		m.fuse = max(n, -1)
	case 18:
		keep := []int{n, r.IntN(9) - 2, 3, 200}[:r.IntN(5)]
		what = fmt.Sprint("Crash ", keep)
		d.Crash(keep...)
		m.crash(keep)
	case 19:
		what = "Copy"
		*d = *d.Copy()
	}
	return what, fmt.Sprint(part, " ", e), fmt.Sprint(whole, " ", x)
}

func TestAgainstTheWords(t *testing.T) {
	for seed := range uint64(300) {
		r := rand.New(rand.NewPCG(seed, 5))
		limit := []int{0, 30, 150, 400, 5000}[seed%5]
		d, m := disk.New(limit), &model{limit: limit, fuse: -1, files: map[string]file{}}
		var calls []string
		for range 120 {
			what, got, want := both(d, m, r)
			calls = append(calls, what)
			if got != want {
				t.Fatalf("P5.2, P5.3: seed %d: told %q, not %q: %q", seed, got, want, calls)
			}
			if got, want := picture(t, d), m.picture(); got != want {
				t.Fatalf("P5.1 to P5.4: seed %d: is\n%s\nnot\n%s\n%q", seed, got, want, calls)
			}
			if d.Used() > d.Limit() {
				t.Fatalf("P5.5: seed %d: %d bytes of %d: %q", seed, d.Used(), d.Limit(), calls)
			}
		}
	}
}

func TestSafeStaysWhateverCrashes(t *testing.T) {
	safe := map[string]string{"a": "12", "b": "", "c": "6"}
	loose := map[string]string{"a": "345", "b": "ef", "c": "78"}
	keeps := []int{math.MinInt, -1, 0, 1, 2, 3, 4, all}
	for _, x := range keeps {
		for _, y := range keeps {
			for _, z := range keeps {
				for n := range 4 {
					for fuse := range 3 {
						d := made(t, 10, "a:12|345", "b:|ef", "c:6|78")
						d.SetFuse(fuse)
						for range fuse + 1 {
							d.Append("a", "")
						}
						d.Crash([]int{x, y, z}[:n]...)
						for _, file := range d.Files() {
							s, _ := d.Read(file, 0)
							if !strings.HasPrefix(s, safe[file]) || !strings.HasPrefix(safe[file]+loose[file], s) || d.Loose(file) != 0 {
								t.Errorf("P5.5: Crash %d %d %d: %s has %q", x, y, z, file, s)
							}
						}
						if len(d.Files()) != 3 || d.Used() > d.Limit() {
							t.Errorf("P5.5: Crash %d %d %d: %s", x, y, z, picture(t, d))
						}
					}
				}
			}
		}
	}
}

func TestNoMoreThanTheLimit(t *testing.T) {
	for limit := range 12 {
		d := disk.New(limit)
		d.Create("a")
		d.Create("b")
		for range 4 {
			for n := range limit + 3 {
				for _, file := range []string{"a", "b"} {
					used := d.Used()
					want := api.OK
					if used+n > limit {
						want = api.ErrDiskFull
					}
					tells(t, "P5.5: Append", d.Append(file, strings.Repeat("x", n)), want)
					if d.Used() > limit || want != api.OK && d.Used() != used {
						t.Errorf("P5.5: %d bytes of %d", d.Used(), limit)
					}
				}
			}
			d.Sync("b")
			d.Crash(limit / 3)
			d.Rename("b", "a")
			d.Create("b")
		}
	}
}

func TestMany(t *testing.T) {
	d := disk.New(most)
	const n = 1 << 15
	for i := range n {
		file := fmt.Sprintf("s%08d", n-1-i)
		tells(t, "Create", d.Create(file), api.OK)
		tells(t, "Append", d.Append(file, "xy"), api.OK)
		tells(t, "Append", d.Append("s00032767", "0123456789"), api.OK)
	}
	l := d.Files()
	if len(l) != n || !slices.IsSorted(l) || d.Used() != 12*n || d.Ops() != 3*n {
		t.Errorf("many: %d files, %d bytes, %d ops", len(l), d.Used(), d.Ops())
	}
	if size, _ := d.Size("s00032767"); size != 10*n+2 {
		t.Errorf("many: %d bytes", size)
	}
	d.Crash(1, 1)
	if d.Used() != 2 || len(d.Files()) != n {
		t.Errorf("many: behind a crash: %d bytes", d.Used())
	}
}

func TestGivenStays(t *testing.T) {
	keep := []int{-3, 1, 9, 4, 5}
	given := slices.Clone(keep)
	d := made(t, 100, "a:12|345", "b:|67", "c:8|90")
	d.Crash(given[:3]...)
	if !slices.Equal(given, keep) {
		t.Errorf("R5: Crash: %d became %d", keep, given)
	}
	has(t, "P5.4: Crash", d, "a:12|", "b:6|", "c:890|")
	given[1] = 7
	has(t, "R6: what was given was written into", d, "a:12|", "b:6|", "c:890|")
	text, name := []byte("xyz"), []byte("q")
	d.Create(string(name))
	d.Append(string(name), string(text))
	clear(text)
	clear(name)
	has(t, "R6: what was given was written into", d, "a:12|", "b:6|", "c:890|", "q:|xyz")
}

func TestToldIsTheCallersOwn(t *testing.T) {
	d := made(t, 100, "a:12|345", "b:|67", "c:8|90")
	first, second := d.Files(), d.Files()
	before := picture(t, d)
	for i := range first {
		first[i] = "written"
	}
	_ = append(first[:0], "x")
	stays(t, "R6: written into Files", d, before)
	if want := []string{"a", "b", "c"}; !slices.Equal(second, want) || !slices.Equal(d.Files(), want) {
		t.Errorf("R6: written into Files: %q", second)
	}
	d.Append("a", "6")
	s, _ := d.Read("a", 0)
	d.Crash(0)
	d.Append("a", "xyzw")
	if s != "123456" || !slices.Equal(second, []string{"a", "b", "c"}) {
		t.Errorf("R6: what was told became %q", s)
	}
}

func TestSameCallsTellTheSame(t *testing.T) {
	run := func() string {
		d := disk.New(500)
		for i := range 30 {
			file := fmt.Sprintf("f%d", i*7%30)
			d.Create(file)
			d.Append(file, twenty[:i%10])
		}
		d.Crash(1, 2, 3, 0, 5, 1, 1, 1, 4, 9)
		return picture(t, d)
	}
	first := run()
	for range 20 {
		if again := run(); again != first {
			t.Errorf("R7: %s, then %s", first, again)
		}
	}
}
