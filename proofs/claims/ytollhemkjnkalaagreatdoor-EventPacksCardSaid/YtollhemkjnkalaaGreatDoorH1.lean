/- Layer 4, plain mathematics: the text of a frame, and the frame with which a text begins. -/
import Derived.Test.YtollhemkjnkalaaGreatDoorDA
import Derived.Test.YtollhemkjnkalaaGreatDoorCA
namespace Go.Proofs.YtollhemkjnkalaaGreatDoor
set_option linter.unusedVariables false
set_option maxRecDepth 100000

def isMarkB (c : UInt8) : Bool := decide (c.toNat = 254)
def isKindB (c : UInt8) : Bool := decide (97 ≤ c.toNat) && decide (c.toNat ≤ 122)
def isDigB (c : UInt8) : Bool := (decide (48 ≤ c.toNat) && decide (c.toNat ≤ 57)) || (decide (97 ≤ c.toNat) && decide (c.toNat ≤ 102))
def inBodyB (c : UInt8) : Bool := decide (32 ≤ c.toNat) && decide (c.toNat ≤ 126)
/-- may that byte stand at that place of a frame with a body so long? -/
def okAt (long i : Nat) (c : UInt8) : Bool := if i = 0 then isMarkB c else if i = 1 then isKindB c else if i < 6 ∨ 6 + long ≤ i then isDigB c else inBodyB c
def goodF (long : Nat) : Nat → List UInt8 → Bool
  | _, [] => true
  | i, c :: r => okAt long i c && goodF long (i + 1) r
theorem goodF_append (long : Nat) : ∀ (a b : List UInt8) (i : Nat), goodF long i (a ++ b) = (goodF long i a && goodF long (i + a.length) b)
  | [], b, i => by simp [goodF]
  | c :: a, b, i => by
    rw [List.cons_append, goodF, goodF, goodF_append long a b (i + 1), Bool.and_assoc]
    congr 3
    rw [List.length_cons]; omega
theorem goodF_all (long : Nat) (p : UInt8 → Bool) : ∀ (l : List UInt8) (i : Nat), (∀ j, i ≤ j → j < i + l.length → ∀ c, okAt long j c = p c) → goodF long i l = l.all p
  | [], i, _ => rfl
  | c :: l, i, h => by
    rw [goodF, List.all_cons, h i (Nat.le_refl _) (by rw [List.length_cons]; omega) c, goodF_all long p l (i + 1) (fun j h1 h2 => h j (by omega) (by rw [List.length_cons]; omega))]
theorem okAt_low (a b i : Nat) (h : i < 6) (c : UInt8) : okAt a i c = okAt b i c := by
  unfold okAt
  by_cases h0 : i = 0
  · rw [if_pos h0, if_pos h0]
  · by_cases h1 : i = 1
    · rw [if_neg h0, if_pos h1, if_neg h0, if_pos h1]
    · rw [if_neg h0, if_neg h1, if_pos (.inl h), if_neg h0, if_neg h1, if_pos (.inl h)]
theorem goodF_low (a b : Nat) : ∀ (l : List UInt8) (i : Nat), i + l.length ≤ 6 → goodF a i l = goodF b i l
  | [], _, _ => rfl
  | c :: l, i, h => by
    rw [List.length_cons] at h
    rw [goodF, goodF, okAt_low a b i (by omega), goodF_low a b l (i + 1) (by omega)]

/-- how the first n bytes of s, at the places from i on, are: 44, 43, or 0 -/
def G (long i n : Nat) (s : List UInt8) : Nat := if goodF long i (s.take n) = true then (if s.length < n then 43 else 0) else 44
theorem take_add' (s : List UInt8) (n m : Nat) : s.take (n + m) = s.take n ++ (s.drop n).take m := by
  rw [List.take_add]
theorem G_add (long i n m : Nat) (s : List UInt8) : G long i (n + m) s = if G long i n s ≠ 0 then G long i n s else G long (i + n) m (s.drop n) := by
  unfold G
  rw [take_add', goodF_append, List.length_drop]
  by_cases h1 : goodF long i (s.take n) = true
  · by_cases h2 : s.length < n
    · have e : s.drop n = [] := List.drop_eq_nil_of_le (by omega)
      have h3 : s.length < n + m := by omega
      simp [h1, h2, h3, e, goodF]
    · have e : (s.take n).length = n := by rw [List.length_take]; omega
      have h3 : (s.length < n + m) = (s.length - n < m) := by apply propext; omega
      rw [e, h1, Bool.true_and, if_pos (show true = true from rfl), if_neg h2, if_neg (show ¬ (0 ≠ 0) by simp)]
      simp only [h3]
  · have h1' : goodF long i (s.take n) = false := by simpa using h1
    simp [h1']
/-- the same by one function for all places -/
def readC (n : Nat) (p : UInt8 → Bool) (s : List UInt8) : Nat := if (s.take n).all p = true then (if s.length < n then 43 else 0) else 44
theorem readC_G (long i n : Nat) (p : UInt8 → Bool) (s : List UInt8) (h : ∀ j, i ≤ j → j < i + n → ∀ c, okAt long j c = p c) : readC n p s = G long i n s := by
  unfold readC G
  rw [goodF_all long p (s.take n) i (fun j h1 h2 => h j h1 (by rw [List.length_take] at h2; omega))]
def readPs : List (Nat × (UInt8 → Bool)) → List UInt8 → Nat
  | [], _ => 0
  | x :: r, s => if readC x.1 x.2 s ≠ 0 then readC x.1 x.2 s else readPs r (s.drop x.1)
theorem G_zero (long i : Nat) (s : List UInt8) : G long i 0 s = 0 := by simp [G, goodF]
theorem readPs_cons (long i n m : Nat) (p : UInt8 → Bool) (r : List (Nat × (UInt8 → Bool))) (s : List UInt8) (h : ∀ j, i ≤ j → j < i + n → ∀ c, okAt long j c = p c)
    (hr : ∀ t, readPs r t = G long (i + n) m t) : readPs ((n, p) :: r) s = G long i (n + m) s := by
  rw [G_add, readPs, hr]
  simp only [readC_G long i n p s h]
theorem read_head (s : List UInt8) : readPs [(1, isMarkB), (1, isKindB), (4, isDigB)] s = G 0 0 6 s := by
  refine readPs_cons 0 0 1 5 isMarkB _ s (fun j h1 h2 c => ?_) (fun t => readPs_cons 0 1 1 4 isKindB _ t (fun j h1 h2 c => ?_) (fun t => readPs_cons 0 2 4 0 isDigB _ t (fun j h1 h2 c => ?_) (fun t => ?_)))
  · unfold okAt; rw [if_pos (by omega)]
  · unfold okAt; rw [if_neg (by omega), if_pos (by omega)]
  · unfold okAt; rw [if_neg (by omega), if_neg (by omega), if_pos (.inl (by omega))]
  · rw [G_zero]; rfl
theorem read_rest (long : Nat) (s : List UInt8) : readPs [(long, inBodyB), (8, isDigB)] s = G long 6 (long + 8) s := by
  refine readPs_cons long 6 long 8 inBodyB _ s (fun j h1 h2 c => ?_) (fun t => readPs_cons long (6 + long) 8 0 isDigB _ t (fun j h1 h2 c => ?_) (fun t => ?_))
  · unfold okAt; rw [if_neg (by omega), if_neg (by omega), if_neg (by omega)]
  · unfold okAt; rw [if_neg (by omega), if_neg (by omega), if_pos (.inr (by omega))]
  · rw [G_zero]; rfl

/-- how long the body is to be, by the head -/
def longI (s : List UInt8) : Int := (unhexL ((s.drop 2).take 4)).getD 0
def longOf (s : List UInt8) : Nat := (longI s).toNat
theorem longI_nonneg (s : List UInt8) : 0 ≤ longI s := by
  unfold longI unhexL
  split
  · cases h : numF hexV 16 most48 ((s.drop 2).take 4) 0 with
    | none => simp
    | some m => exact (numF_range hexV 16 most48 (by decide) _ 0 m (by omega) (by decide) h).1
  · simp
theorem longI_eq (s : List UInt8) : longI s = (longOf s : Int) := by have := longI_nonneg s; unfold longOf; omega

/-- the eight digits of a sum -/
def sumT (l : List UInt8) : List UInt8 := hexOf (sumN l : Int) 8
theorem sumT_eq (l : List UInt8) : sumT l = hexL (sumN l) 8 := hexOf_nat _ 8 (by decide) (by decide) (sumN_lt l)
theorem sumT_len (l : List UInt8) : (sumT l).length = 8 := by rw [sumT_eq, hexL_length]

/-- the frame with which a text begins; or an error -/
inductive NR where
  | err (e : Nat)
  | ok (k : UInt8) (b : List UInt8)
def nextL (s : List UInt8) : NR :=
  if G 0 0 6 s ≠ 0 then .err (G 0 0 6 s) else if 2000 < longOf s then .err 44 else
  if G (longOf s) 6 (longOf s + 8) (s.drop 6) ≠ 0 then .err (G (longOf s) 6 (longOf s + 8) (s.drop 6)) else
  if sumT ((s.take (6 + longOf s)).drop 1) ≠ (s.take (6 + longOf s + 8)).drop (6 + longOf s) then .err 45 else .ok (s.getD 1 0) ((s.take (6 + longOf s)).drop 6)
def NR.kind : NR → UInt8 | .err _ => 0 | .ok k _ => k
def NR.body : NR → List UInt8 | .err _ => [] | .ok _ b => b
def NR.long : NR → Nat | .err _ => 0 | .ok _ b => 14 + b.length
def NR.code : NR → Nat | .err e => e | .ok _ _ => 0

def packE (k : UInt8) (b : List UInt8) : Nat := if isKindB k = false then 40 else if 2000 < b.length then 41 else if b.all inBodyB = false then 42 else 0
/-- what is summed of a frame -/
def midT (k : UInt8) (b : List UInt8) : List UInt8 := k :: (hexL b.length 4 ++ b)
def packT (k : UInt8) (b : List UInt8) : List UInt8 := 254 :: (midT k b ++ sumT (midT k b))
def packS (k : UInt8) (b : List UInt8) : List UInt8 := if packE k b = 0 then packT k b else []
theorem midT_len (k : UInt8) (b : List UInt8) : (midT k b).length = 5 + b.length := by simp [midT, hexL_length]; omega
theorem packT_len (k : UInt8) (b : List UInt8) : (packT k b).length = 14 + b.length := by
  simp [packT, midT_len, sumT_len]; omega
theorem packE_zero {k : UInt8} {b : List UInt8} (h : packE k b = 0) : isKindB k = true ∧ b.length ≤ 2000 ∧ b.all inBodyB = true := by
  unfold packE at h
  split at h
  · cases h
  · split at h
    · cases h
    · split at h
      · cases h
      · exact ⟨by simpa using ‹¬ isKindB k = false›, by omega, by simpa using ‹¬ b.all inBodyB = false›⟩
theorem packE_ok {k : UInt8} {b : List UInt8} (h1 : isKindB k = true) (h2 : b.length ≤ 2000) (h3 : b.all inBodyB = true) : packE k b = 0 := by
  unfold packE
  rw [if_neg (by simp [h1]), if_neg (by omega), if_neg (by simp [h3])]
theorem dgB_dig : ∀ d, d < 16 → isDigB (dgB d) = true := by decide +kernel
theorem hexL_dig (n : Nat) : ∀ k, (hexL n k).all isDigB = true
  | 0 => rfl
  | k + 1 => by
    show ((dgB (n / 16 ^ k % 16)) :: hexL n k).all isDigB = true
    rw [List.all_cons, dgB_dig _ (Nat.mod_lt _ (by decide)), hexL_dig n k]; rfl
theorem sumT_dig (l : List UInt8) : (sumT l).all isDigB = true := by rw [sumT_eq]; exact hexL_dig _ _
/-- a frame's text is good at all places -/
theorem packT_good {k : UInt8} {b : List UInt8} (h : packE k b = 0) : goodF b.length 0 (packT k b) = true := by
  obtain ⟨h1, h2, h3⟩ := packE_zero h
  have e : packT k b = [254] ++ ([k] ++ (hexL b.length 4 ++ (b ++ sumT (midT k b)))) := by simp [packT, midT]
  rw [e, goodF_append, goodF_append, goodF_append, goodF_append]
  simp only [List.length_cons, List.length_nil, hexL_length]
  rw [goodF_all b.length isDigB (hexL b.length 4) _ (fun j a1 a2 c => by rw [hexL_length] at a2; unfold okAt; rw [if_neg (by omega), if_neg (by omega), if_pos (.inl (by omega))]), hexL_dig,
    goodF_all b.length inBodyB b _ (fun j a1 a2 c => by unfold okAt; rw [if_neg (by omega), if_neg (by omega), if_neg (by omega)]), h3,
    goodF_all b.length isDigB (sumT _) _ (fun j a1 a2 c => by unfold okAt; rw [if_neg (by omega), if_neg (by omega), if_pos (.inr (by omega))]), sumT_dig]
  simp only [goodF, okAt, Bool.and_true]
  rw [if_pos trivial, if_neg (by decide), if_pos trivial, h1]; rfl
end Go.Proofs.YtollhemkjnkalaaGreatDoor
