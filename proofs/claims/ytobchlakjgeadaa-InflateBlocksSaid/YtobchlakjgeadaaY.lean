/-
  What deflated bytes stand for: mathematics, nothing of the program. Conditions: each theorem names its own.
-/
import Derived.Test.YtobchlakjgeadaaG
namespace Go.Proofs.Ytobchlakjgeadaa

/-- An answer: an error's number, or what is told. -/
inductive Rs (α : Type) where
  | er (e : Nat)
  | ok (x : α)

/-- A step of a walk: an error, the end, or on. -/
inductive Step (σ : Type) where
  | er (e : Nat)
  | fin (s : σ)
  | go (s : σ)

/-- Where a walk from s ends. -/
inductive Runs {σ : Type} (f : σ → Step σ) : σ → Rs σ → Prop
  | er {s : σ} {e : Nat} : f s = .er e → Runs f s (.er e)
  | fin {s t : σ} : f s = .fin t → Runs f s (.ok t)
  | go {s t : σ} {r : Rs σ} : f s = .go t → Runs f t r → Runs f s r

theorem Runs.det {σ : Type} {f : σ → Step σ} {s : σ} {r r' : Rs σ} (h : Runs f s r) (h' : Runs f s r') : r = r' := by
  induction h with
  | er h1 =>
    cases h' with
    | er h2 => rw [h1] at h2; injection h2 with h2; rw [h2]
    | fin h2 => rw [h1] at h2; cases h2
    | go h2 _ => rw [h1] at h2; cases h2
  | fin h1 =>
    cases h' with
    | er h2 => rw [h1] at h2; cases h2
    | fin h2 => rw [h1] at h2; injection h2 with h2; rw [h2]
    | go h2 _ => rw [h1] at h2; cases h2
  | go h1 _ ih =>
    cases h' with
    | er h2 => rw [h1] at h2; cases h2
    | fin h2 => rw [h1] at h2; cases h2
    | go h2 h3 => rw [h1] at h2; injection h2 with h2; subst h2; exact ih h3

open Classical in
/-- Where a walk ends, as a function. -/
noncomputable def runF {σ : Type} (f : σ → Step σ) (s : σ) : Rs σ := if h : ∃ r, Runs f s r then h.choose else .er 0
theorem runF_eq {σ : Type} {f : σ → Step σ} {s : σ} {r : Rs σ} (h : Runs f s r) : runF f s = r := by
  unfold runF
  have hx : ∃ r, Runs f s r := ⟨r, h⟩
  rw [dif_pos hx]
  exact hx.choose_spec.det h

/-- So many bits, as a number. -/
def bitsAt (L : List Bool) (a n : Nat) : Rs Nat := if a + n ≤ L.length then .ok (num ((L.drop a).take n)) else .er 6

/-- A sign by a code, and the place behind it. -/
def signAt (l : List Int) (L : List Bool) (a : Nat) : Rs (Nat × Nat) :=
  match lookup l (L.drop a) with
  | .found n v => .ok (sg l l.length (bas l n + (v - fst l n)), a + n)
  | .code => .er 12
  | .fin => .er 6

/-- The least length of a sign, and the bits that are added. -/
def lenOf (s : Nat) : Option (Nat × Nat) :=
  if s < 257 ∨ 285 < s then none else if s = 285 then some (258, 0) else if s < 265 then some (s - 254, 0)
  else some ((4 + (s - 257) % 4) * 2 ^ ((s - 257) / 4 - 1) + 3, (s - 257) / 4 - 1)
/-- The least distance of a sign, and the bits that are added. -/
def dstOf (s : Nat) : Option (Nat × Nat) :=
  if 29 < s then none else if s < 4 then some (s + 1, 0) else some ((2 + s % 2) * 2 ^ (s / 2 - 1) + 1, s / 2 - 1)

/-- A least number, and what is added. -/
def addAt (o : Option (Nat × Nat)) (L : List Bool) (a : Nat) : Rs (Nat × Nat) :=
  match o with
  | none => .er 5
  | some (b, n) =>
    match bitsAt L a n with
    | .er e => .er e
    | .ok v => .ok (b + v, a + n)

/-- A copy, byte by byte. -/
def copyN (d : Nat) : Nat → List Nat → List Nat
  | 0, o => o
  | n + 1, o => copyN d n (o ++ [o.getD (o.length - d) 0])

def copyAt (y : List Int) (L : List Bool) (most s a : Nat) (o : List Nat) : Rs (Nat × List Nat) :=
  match addAt (lenOf s) L a with
  | .er e => .er e
  | .ok (n, a1) =>
    match signAt y L a1 with
    | .er e => .er e
    | .ok (d, a2) =>
      match addAt (dstOf d) L a2 with
      | .er e => .er e
      | .ok (k, a3) => if o.length < k then .er 13 else if most < o.length + n then .er 3 else .ok (a3, copyN k n o)

/-- One sign of a block. -/
def signStep (x y : List Int) (L : List Bool) (most : Nat) (s : Nat × List Nat) : Step (Nat × List Nat) :=
  match signAt x L s.1 with
  | .er e => .er e
  | .ok (j, a) =>
    if j = 256 then .fin (a, s.2)
    else if j < 256 then (if most ≤ s.2.length then .er 3 else .go (a, s.2 ++ [j]))
    else
      match copyAt y L most j a s.2 with
      | .er e => .er e
      | .ok t => .go t

def storedAt (L : List Bool) (most a : Nat) (o : List Nat) : Rs (Nat × List Nat) :=
  match bitsAt L ((a + 7) / 8 * 8) 32 with
  | .er e => .er e
  | .ok v =>
    if v / 65536 + v % 65536 ≠ 65535 then .er 2
    else if most < o.length + v % 65536 then .er 3
    else if L.length < (a + 7) / 8 * 8 + 32 + 8 * (v % 65536) then .er 6
    else .ok ((a + 7) / 8 * 8 + 32 + 8 * (v % 65536), o ++ pack ((L.drop ((a + 7) / 8 * 8 + 32)).take (8 * (v % 65536))))

/-- The fixed lengths. -/
def fixL : List Int := List.replicate 144 8 ++ List.replicate 112 9 ++ List.replicate 24 7 ++ List.replicate 8 8
def fixD : List Int := List.replicate 32 5

/-- The order of lengths of lengths. -/
def ordL : List Nat := [16, 17, 18, 0, 8, 7, 9, 6, 10, 5, 11, 4, 12, 3, 13, 2, 14, 1, 15]
def llF (L : List Bool) (a : Nat) : Nat → List Int
  | 0 => List.replicate 19 0
  | k + 1 => (llF L a k).set (ordL.getD k 0) (num ((L.drop (a + 3 * k)).take 3) : Nat)
@[simp] theorem llF_length (L : List Bool) (a k : Nat) : (llF L a k).length = 19 := by
  induction k with
  | zero => rfl
  | succ k ih => simp [llF, ih]

def runBits (s : Nat) : Nat := if s = 16 then 2 else if s = 17 then 3 else 7
def runLeast (s : Nat) : Nat := if s = 18 then 11 else 3
/-- A run: a length, how many times, the place behind it. -/
def runAt (c : List Int) (L : List Bool) (a : Nat) (l : List Int) : Rs (Int × Nat × Nat) :=
  match signAt c L a with
  | .er e => .er e
  | .ok (s, a1) =>
    if s < 16 then .ok (s, 1, a1)
    else
      match bitsAt L a1 (runBits s) with
      | .er e => .er e
      | .ok v => if 16 < s then .ok (0, runLeast s + v, a1 + runBits s) else if l = [] then .er 2 else .ok (l.getD (l.length - 1) 0, runLeast s + v, a1 + runBits s)
def lensStep (c : List Int) (L : List Bool) (n : Nat) (s : Nat × List Int) : Step (Nat × List Int) :=
  if n ≤ s.2.length then .fin s
  else
    match runAt c L s.1 s.2 with
    | .er e => .er e
    | .ok (x, t, a) => if n - s.2.length < t then .er 2 else .go (a, s.2 ++ List.replicate t x)

noncomputable def dynAt (L : List Bool) (a : Nat) : Rs (Nat × List Int × List Int) :=
  match bitsAt L a 14 with
  | .er e => .er e
  | .ok v =>
    if 286 < v % 32 + 257 ∨ 30 < v / 32 % 32 + 1 then .er 4
    else if L.length < a + 14 + 3 * (v / 1024 + 4) then .er 6
    else if kindOf (llF L (a + 14) (v / 1024 + 4)) = 0 then .er 12
    else
      match runF (lensStep (llF L (a + 14) (v / 1024 + 4)) L (v % 32 + 257 + (v / 32 % 32 + 1))) (a + 14 + 3 * (v / 1024 + 4), []) with
      | .er e => .er e
      | .ok (a1, l) => if l.getD 256 0 = 0 ∨ kindOf (l.take (v % 32 + 257)) = 0 ∨ kindOf (l.drop (v % 32 + 257)) = 0 then .er 12 else .ok (a1, l.take (v % 32 + 257), l.drop (v % 32 + 257))

/-- What stands behind a block's head. -/
noncomputable def kindAt (L : List Bool) (most : Nat) : Nat → Nat → List Nat → Rs (Nat × List Nat)
  | 0, a, o => storedAt L most a o
  | 1, a, o => runF (signStep fixL fixD L most) (a, o)
  | 2, a, o =>
    match dynAt L a with
    | .er e => .er e
    | .ok (a1, x, y) => runF (signStep x y L most) (a1, o)
  | _ + 3, _, _ => .er 2

noncomputable def blockStep (L : List Bool) (most : Nat) (s : Nat × List Nat) : Step (Nat × List Nat) :=
  match bitsAt L s.1 3 with
  | .er e => .er e
  | .ok h =>
    match kindAt L most (h / 2) (s.1 + 3) s.2 with
    | .er e => .er e
    | .ok t => if h % 2 = 1 then .fin t else .go t

/-! What holds of these. -/

theorem copyN_length (d : Nat) : ∀ n o, (copyN d n o).length = o.length + n
  | 0, o => rfl
  | n + 1, o => by rw [copyN, copyN_length]; simp; omega
theorem copyN_succ (d : Nat) : ∀ n o, copyN d (n + 1) o = copyN d n o ++ [(copyN d n o).getD ((copyN d n o).length - d) 0]
  | 0, _ => rfl
  | n + 1, o => by
    rw [copyN, copyN_succ d n]
    rfl

theorem pos_wv (l : List Int) (j n v : Nat) (h1 : len l j = n) (h2 : wv l j = v) : bas l n + (v - fst l n) = pos l j := by
  subst h1 h2
  unfold pos wv
  omega

theorem signAt_found {l : List Int} {L : List Bool} {a j n v : Nat} (hr : kindOf l ≠ 0) (h : lookup l (L.drop a) = .found n v) (hj : j < l.length) (h1 : len l j = n) (h2 : wv l j = v) :
    signAt l L a = .ok (j, a + n) ∧ 0 < n ∧ n ≤ (L.drop a).length := by
  obtain ⟨l1, l2, l3, l4⟩ := lookup_found h
  have hn : 0 < n := by
    rcases Nat.eq_zero_or_pos n with h0 | h0
    · rw [h0, upTo_zero] at l3; omega
    · exact h0
  refine ⟨?_, hn, l1⟩
  unfold signAt
  rw [h]
  simp only
  rw [pos_wv l j n v h1 h2, sg_at (right_ok hr) l.length (Nat.le_refl _) j hj (by omega)]

end Go.Proofs.Ytobchlakjgeadaa
