/-
  What deflated bytes stand for: mathematics. Conditions: each theorem names its own.
  The document's state. Conditions: each theorem names its own.
-/
import Derived.Test.YtkjhefjjacokjaaGreatIB
import Derived.StillTail
import Derived.Deep.RegionHeld3
namespace Go.Proofs.YtkjhefjjacokjaaGreat
open Go.RowKit
set_option maxRecDepth 100000
/-- An answer: an error's number, or what is told. -/
inductive Rs (α : Type) where
  | er (e : Nat)
  | ok (x : α)
/-- A step of a walk: an error, the end, or on. -/
inductive Step (σ : Type) where
  | er (e : Nat)
  | fin (s : σ)
  | go (s : σ)
/-- Where a walk from s ends. -/
inductive Runs {σ : Type} (f : σ → Step σ) : σ → Rs σ → Prop
  | er {s : σ} {e : Nat} : f s = .er e → Runs f s (.er e)
  | fin {s t : σ} : f s = .fin t → Runs f s (.ok t)
  | go {s t : σ} {r : Rs σ} : f s = .go t → Runs f t r → Runs f s r
theorem Runs.det {σ : Type} {f : σ → Step σ} {s : σ} {r r' : Rs σ} (h : Runs f s r) (h' : Runs f s r') : r = r' := by
  induction h with
  | er h1 =>
    cases h' with
    | er h2 => rw [h1] at h2; injection h2 with h2; rw [h2]
    | fin h2 => rw [h1] at h2; cases h2
    | go h2 _ => rw [h1] at h2; cases h2
  | fin h1 =>
    cases h' with
    | er h2 => rw [h1] at h2; cases h2
    | fin h2 => rw [h1] at h2; injection h2 with h2; rw [h2]
    | go h2 _ => rw [h1] at h2; cases h2
  | go h1 _ ih =>
    cases h' with
    | er h2 => rw [h1] at h2; cases h2
    | fin h2 => rw [h1] at h2; cases h2
    | go h2 h3 => rw [h1] at h2; injection h2 with h2; subst h2; exact ih h3
open Classical in
/-- Where a walk ends, as a function. -/
noncomputable def runF {σ : Type} (f : σ → Step σ) (s : σ) : Rs σ := if h : ∃ r, Runs f s r then h.choose else .er 0
theorem runF_eq {σ : Type} {f : σ → Step σ} {s : σ} {r : Rs σ} (h : Runs f s r) : runF f s = r := by
  unfold runF
  have hx : ∃ r, Runs f s r := ⟨r, h⟩
  rw [dif_pos hx]
  exact hx.choose_spec.det h
/-- So many bits, as a number. -/
def bitsAt (L : List Bool) (a n : Nat) : Rs Nat := if a + n ≤ L.length then .ok (num ((L.drop a).take n)) else .er 6
/-- A sign by a code, and the place behind it. -/
def signAt (l : List Int) (L : List Bool) (a : Nat) : Rs (Nat × Nat) :=
  match lookup l (L.drop a) with
  | .found n v => .ok (sg l l.length (bas l n + (v - fst l n)), a + n)
  | .code => .er 12
  | .fin => .er 6
/-- A least number, and what is added. -/
def addAt (o : Option (Nat × Nat)) (L : List Bool) (a : Nat) : Rs (Nat × Nat) :=
  match o with
  | none => .er 5
  | some (b, n) =>
    match bitsAt L a n with
    | .er e => .er e
    | .ok v => .ok (b + v, a + n)
/-- A copy, byte by byte. -/
def copyM (d : Nat) : Nat → List Nat → List Nat
  | 0, o => o
  | n + 1, o => copyM d n (o ++ [o.getD (o.length - d) 0])
def copyAt (y : List Int) (L : List Bool) (most s a : Nat) (o : List Nat) : Rs (Nat × List Nat) :=
  match addAt (lenOf s) L a with
  | .er e => .er e
  | .ok (n, a1) =>
    match signAt y L a1 with
    | .er e => .er e
    | .ok (d, a2) =>
      match addAt (dstOf d) L a2 with
      | .er e => .er e
      | .ok (k, a3) => if o.length < k then .er 13 else if most < o.length + n then .er 3 else .ok (a3, copyM k n o)
/-- One sign of a block. -/
def signStep (x y : List Int) (L : List Bool) (most : Nat) (s : Nat × List Nat) : Step (Nat × List Nat) :=
  match signAt x L s.1 with
  | .er e => .er e
  | .ok (j, a) =>
    if j = 256 then .fin (a, s.2)
    else if j < 256 then (if most ≤ s.2.length then .er 3 else .go (a, s.2 ++ [j]))
    else
      match copyAt y L most j a s.2 with
      | .er e => .er e
      | .ok t => .go t
def storedAt (L : List Bool) (most a : Nat) (o : List Nat) : Rs (Nat × List Nat) :=
  match bitsAt L ((a + 7) / 8 * 8) 32 with
  | .er e => .er e
  | .ok v =>
    if v / 65536 + v % 65536 ≠ 65535 then .er 2
    else if most < o.length + v % 65536 then .er 3
    else if L.length < (a + 7) / 8 * 8 + 32 + 8 * (v % 65536) then .er 6
    else .ok ((a + 7) / 8 * 8 + 32 + 8 * (v % 65536), o ++ pack ((L.drop ((a + 7) / 8 * 8 + 32)).take (8 * (v % 65536))))
/-- The fixed lengths. -/
def fixL : List Int := List.replicate 144 8 ++ List.replicate 112 9 ++ List.replicate 24 7 ++ List.replicate 8 8
def fixD : List Int := List.replicate 32 5
/-- The order of lengths of lengths. -/
def ordM : List Nat := [16, 17, 18, 0, 8, 7, 9, 6, 10, 5, 11, 4, 12, 3, 13, 2, 14, 1, 15]
def llF (L : List Bool) (a : Nat) : Nat → List Int
  | 0 => List.replicate 19 0
  | k + 1 => (llF L a k).set (ordM.getD k 0) (num ((L.drop (a + 3 * k)).take 3) : Nat)
@[simp] theorem llF_length (L : List Bool) (a k : Nat) : (llF L a k).length = 19 := by
  induction k with
  | zero => rfl
  | succ k ih => simp [llF, ih]

def runBits (s : Nat) : Nat := if s = 16 then 2 else if s = 17 then 3 else 7
def runLeast (s : Nat) : Nat := if s = 18 then 11 else 3
/-- A run: a length, how many times, the place behind it. -/
def runAt (c : List Int) (L : List Bool) (a : Nat) (l : List Int) : Rs (Int × Nat × Nat) :=
  match signAt c L a with
  | .er e => .er e
  | .ok (s, a1) =>
    if s < 16 then .ok (s, 1, a1)
    else
      match bitsAt L a1 (runBits s) with
      | .er e => .er e
      | .ok v => if 16 < s then .ok (0, runLeast s + v, a1 + runBits s) else if l = [] then .er 2 else .ok (l.getD (l.length - 1) 0, runLeast s + v, a1 + runBits s)
def lensStep (c : List Int) (L : List Bool) (n : Nat) (s : Nat × List Int) : Step (Nat × List Int) :=
  if n ≤ s.2.length then .fin s
  else
    match runAt c L s.1 s.2 with
    | .er e => .er e
    | .ok (x, t, a) => if n - s.2.length < t then .er 2 else .go (a, s.2 ++ List.replicate t x)
noncomputable def dynAt (L : List Bool) (a : Nat) : Rs (Nat × List Int × List Int) :=
  match bitsAt L a 14 with
  | .er e => .er e
  | .ok v =>
    if 286 < v % 32 + 257 ∨ 30 < v / 32 % 32 + 1 then .er 4
    else if L.length < a + 14 + 3 * (v / 1024 + 4) then .er 6
    else if kindOf (llF L (a + 14) (v / 1024 + 4)) = 0 then .er 12
    else
      match runF (lensStep (llF L (a + 14) (v / 1024 + 4)) L (v % 32 + 257 + (v / 32 % 32 + 1))) (a + 14 + 3 * (v / 1024 + 4), []) with
      | .er e => .er e
      | .ok (a1, l) => if l.getD 256 0 = 0 ∨ kindOf (l.take (v % 32 + 257)) = 0 ∨ kindOf (l.drop (v % 32 + 257)) = 0 then .er 12 else .ok (a1, l.take (v % 32 + 257), l.drop (v % 32 + 257))
/-- What stands behind a block's head. -/
noncomputable def kindAt (L : List Bool) (most : Nat) : Nat → Nat → List Nat → Rs (Nat × List Nat)
  | 0, a, o => storedAt L most a o
  | 1, a, o => runF (signStep fixL fixD L most) (a, o)
  | 2, a, o =>
    match dynAt L a with
    | .er e => .er e
    | .ok (a1, x, y) => runF (signStep x y L most) (a1, o)
  | _ + 3, _, _ => .er 2
noncomputable def blockStep (L : List Bool) (most : Nat) (s : Nat × List Nat) : Step (Nat × List Nat) :=
  match bitsAt L s.1 3 with
  | .er e => .er e
  | .ok h =>
    match kindAt L most (h / 2) (s.1 + 3) s.2 with
    | .er e => .er e
    | .ok t => if h % 2 = 1 then .fin t else .go t
theorem copyM_length (d : Nat) : ∀ n o, (copyM d n o).length = o.length + n
  | 0, o => rfl
  | n + 1, o => by rw [copyM, copyM_length]; simp; omega
theorem copyM_succ (d : Nat) : ∀ n o, copyM d (n + 1) o = copyM d n o ++ [(copyM d n o).getD ((copyM d n o).length - d) 0]
  | 0, _ => rfl
  | n + 1, o => by
    rw [copyM, copyM_succ d n]
    rfl
theorem pos_wv (l : List Int) (j n v : Nat) (h1 : len l j = n) (h2 : wv l j = v) : bas l n + (v - fst l n) = pos l j := by
  subst h1 h2
  unfold pos wv
  omega
theorem signAt_found {l : List Int} {L : List Bool} {a j n v : Nat} (hr : kindOf l ≠ 0) (h : lookup l (L.drop a) = .found n v) (hj : j < l.length) (h1 : len l j = n) (h2 : wv l j = v) :
    signAt l L a = .ok (j, a + n) ∧ 0 < n ∧ n ≤ (L.drop a).length := by
  obtain ⟨l1, l2, l3, l4⟩ := lookup_found h
  have hn : 0 < n := by
    rcases Nat.eq_zero_or_pos n with h0 | h0
    · rw [h0, upTo_zero] at l3; omega
    · exact h0
  refine ⟨?_, hn, l1⟩
  unfold signAt
  rw [h]
  simp only
  rw [pos_wv l j n v h1 h2, sg_at (right_ok hr) l.length (Nat.le_refl _) j hj (by omega)]
theorem step_er {x y : List Int} {L : List Bool} {most b : Nat} {u : List Nat} {er : Nat} (h : signAt x L b = .er er) : signStep x y L most (b, u) = .er er := by
  simp [signStep, h]
theorem step_fin {x y : List Int} {L : List Bool} {most b b' : Nat} {u : List Nat} (h : signAt x L b = .ok (256, b')) : signStep x y L most (b, u) = .fin (b', u) := by
  simp [signStep, h]
theorem step_long {x y : List Int} {L : List Bool} {most b b' j : Nat} {u : List Nat} (h : signAt x L b = .ok (j, b')) (hj : j < 256) (hm : most ≤ u.length) : signStep x y L most (b, u) = .er 3 := by
  simp only [signStep, h]
  rw [if_neg (by omega), if_pos hj, if_pos hm]
theorem step_lone {x y : List Int} {L : List Bool} {most b b' j : Nat} {u : List Nat} (h : signAt x L b = .ok (j, b')) (hj : j < 256) (hm : u.length < most) : signStep x y L most (b, u) = .go (b', u ++ [j]) := by
  simp only [signStep, h]
  rw [if_neg (by omega), if_pos hj, if_neg (by omega)]
theorem step_copy {x y : List Int} {L : List Bool} {most b b' j : Nat} {u : List Nat} {t : Nat × List Nat} (h : signAt x L b = .ok (j, b')) (hj : 256 < j) (hc : copyAt y L most j b' u = .ok t) : signStep x y L most (b, u) = .go t := by
  simp only [signStep, h]
  rw [if_neg (by omega), if_neg (by omega), hc]
theorem step_copy_er {x y : List Int} {L : List Bool} {most b b' j er : Nat} {u : List Nat} (h : signAt x L b = .ok (j, b')) (hj : 256 < j) (hc : copyAt y L most j b' u = .er er) : signStep x y L most (b, u) = .er er := by
  simp only [signStep, h]
  rw [if_neg (by omega), if_neg (by omega), hc]
/-- The fixed lengths, sign by sign. -/
def fl (i : Nat) : Int := if i ≤ 143 then 8 else if i ≤ 255 then 9 else if i ≤ 279 then 7 else 8
theorem fl_fix : ∀ i, i < 288 → fl i = fixL.getD i 0 := by decide +kernel
theorem fd_fix : ∀ i, i < 32 → (5 : Int) = fixD.getD i 0 := by decide +kernel
theorem fixL_kind : kindOf fixL ≠ 0 := by decide +kernel
theorem fixD_kind : kindOf fixD ≠ 0 := by decide +kernel
theorem stored_er {L : List Bool} {most a a0 : Nat} {o : List Nat} {e : Nat} (h0 : (a + 7) / 8 * 8 = a0) (h : bitsAt L a0 32 = .er e) : storedAt L most a o = .er e := by
  subst h0
  simp [storedAt, h]
theorem stored_eq {L : List Bool} {most a a0 v cnt trn : Nat} {o : List Nat} (h0 : (a + 7) / 8 * 8 = a0) (h : bitsAt L a0 32 = .ok v) (hc : v % 65536 = cnt) (ht : v / 65536 = trn) :
    storedAt L most a o = if trn + cnt ≠ 65535 then .er 2 else if most < o.length + cnt then .er 3 else if L.length < a0 + 32 + 8 * cnt then .er 6 else .ok (a0 + 32 + 8 * cnt, o ++ pack ((L.drop (a0 + 32)).take (8 * cnt))) := by
  subst h0 hc ht
  simp only [storedAt, h]
theorem run_er {cl : List Int} {L : List Bool} {a er : Nat} {l : List Int} (h : signAt cl L a = .er er) : runAt cl L a l = .er er := by simp [runAt, h]
theorem run_len {cl : List Int} {L : List Bool} {a s a1 : Nat} {l : List Int} (h : signAt cl L a = .ok (s, a1)) (hs : s < 16) : runAt cl L a l = .ok (s, 1, a1) := by
  simp only [runAt, h]
  rw [if_pos hs]
theorem run_bits_er {cl : List Int} {L : List Bool} {a s a1 e : Nat} {l : List Int} (h : signAt cl L a = .ok (s, a1)) (hs : ¬ s < 16) (hb : bitsAt L a1 (runBits s) = .er e) : runAt cl L a l = .er e := by
  simp only [runAt, h]
  rw [if_neg hs, hb]
theorem run_noughts {cl : List Int} {L : List Bool} {a s a1 v : Nat} {l : List Int} (h : signAt cl L a = .ok (s, a1)) (hs : 16 < s) (hb : bitsAt L a1 (runBits s) = .ok v) : runAt cl L a l = .ok (0, runLeast s + v, a1 + runBits s) := by
  simp only [runAt, h]
  rw [if_neg (by omega), hb]
  simp only
  rw [if_pos hs]
theorem run_none {cl : List Int} {L : List Bool} {a a1 v : Nat} {l : List Int} (h : signAt cl L a = .ok (16, a1)) (hb : bitsAt L a1 2 = .ok v) (hl : l.length = 0) : runAt cl L a l = .er 2 := by
  simp only [runAt, h]
  rw [if_neg (by omega)]
  show (match bitsAt L a1 2 with | .er e => _ | .ok v => _) = _
  rw [hb]
  simp only
  rw [if_neg (by omega), if_pos (List.eq_nil_of_length_eq_zero hl)]
theorem run_last {cl : List Int} {L : List Bool} {a a1 v : Nat} {l : List Int} (h : signAt cl L a = .ok (16, a1)) (hb : bitsAt L a1 2 = .ok v) (hl : l.length ≠ 0) : runAt cl L a l = .ok (l.getD (l.length - 1) 0, 3 + v, a1 + 2) := by
  simp only [runAt, h]
  rw [if_neg (by omega)]
  show (match bitsAt L a1 2 with | .er e => _ | .ok v => _) = _
  rw [hb]
  simp only
  rw [if_neg (by omega), if_neg (by rintro rfl; simp at hl)]
  rfl
theorem lens_fin {cl : List Int} {L : List Bool} {n b : Nat} {l : List Int} (h : n ≤ l.length) : lensStep cl L n (b, l) = .fin (b, l) := by
  unfold lensStep; rw [if_pos h]
theorem lens_er {cl : List Int} {L : List Bool} {n b er : Nat} {l : List Int} (h : ¬ n ≤ l.length) (hr : runAt cl L b l = .er er) : lensStep cl L n (b, l) = .er er := by
  unfold lensStep; rw [if_neg h, hr]
theorem lens_form {cl : List Int} {L : List Bool} {n b t b' : Nat} {l : List Int} {x : Int} (h : ¬ n ≤ l.length) (hr : runAt cl L b l = .ok (x, t, b')) (ht : n - l.length < t) : lensStep cl L n (b, l) = .er 2 := by
  unfold lensStep; rw [if_neg h, hr]; simp only; rw [if_pos ht]
theorem lens_go {cl : List Int} {L : List Bool} {n b t b' : Nat} {l : List Int} {x : Int} (h : ¬ n ≤ l.length) (hr : runAt cl L b l = .ok (x, t, b')) (ht : ¬ n - l.length < t) : lensStep cl L n (b, l) = .go (b', l ++ List.replicate t x) := by
  unfold lensStep; rw [if_neg h, hr]; simp only; rw [if_neg ht]
/-- The order, as numbers. -/
def ordJ (i : Nat) : Int := (ordM.getD i 0 : Nat)
/-- What a dynamic block stands for. -/
noncomputable def dynR (L : List Bool) (most a : Nat) (o : List Nat) : Rs (Nat × List Nat) :=
  match dynAt L a with
  | .er e => .er e
  | .ok (a1, x, y) => runF (signStep x y L most) (a1, o)
/-- What comes behind the lengths. -/
noncomputable def dynTail (ns : Nat) (L : List Bool) (most : Nat) (o : List Nat) : Rs (Nat × List Int) → Rs (Nat × List Nat)
  | .er e => .er e
  | .ok (a1, l) => if l.getD 256 0 = 0 ∨ kindOf (l.take ns) = 0 ∨ kindOf (l.drop ns) = 0 then .er 12 else runF (signStep (l.take ns) (l.drop ns) L most) (a1, o)
theorem dyn_er {L : List Bool} {most a e : Nat} {o : List Nat} (h : bitsAt L a 14 = .er e) : dynR L most a o = .er e := by
  simp [dynR, dynAt, h]
theorem dyn_many {L : List Bool} {most a v ns nd : Nat} {o : List Nat} (h : bitsAt L a 14 = .ok v) (h1 : v % 32 + 257 = ns) (h2 : v / 32 % 32 + 1 = nd) (hm : 286 < ns ∨ 30 < nd) : dynR L most a o = .er 4 := by
  subst h1 h2
  simp only [dynR, dynAt, h]
  rw [if_pos hm]
theorem dyn_end {L : List Bool} {most a v ns nd nl : Nat} {o : List Nat} (h : bitsAt L a 14 = .ok v) (h1 : v % 32 + 257 = ns) (h2 : v / 32 % 32 + 1 = nd) (h3 : v / 1024 + 4 = nl) (hm : ¬ (286 < ns ∨ 30 < nd)) (hl : L.length < a + 14 + 3 * nl) : dynR L most a o = .er 6 := by
  subst h1 h2 h3
  simp only [dynR, dynAt, h]
  rw [if_neg hm, if_pos hl]
theorem dyn_code {L : List Bool} {most a v ns nd nl : Nat} {o : List Nat} (h : bitsAt L a 14 = .ok v) (h1 : v % 32 + 257 = ns) (h2 : v / 32 % 32 + 1 = nd) (h3 : v / 1024 + 4 = nl) (hm : ¬ (286 < ns ∨ 30 < nd)) (hl : a + 14 + 3 * nl ≤ L.length) (hk : kindOf (llF L (a + 14) nl) = 0) : dynR L most a o = .er 12 := by
  subst h1 h2 h3
  simp only [dynR, dynAt, h]
  rw [if_neg hm, if_neg (by omega), if_pos hk]
theorem dyn_lens {L : List Bool} {most a v ns nd nl : Nat} {o : List Nat} {r : Rs (Nat × List Int)} (h : bitsAt L a 14 = .ok v) (h1 : v % 32 + 257 = ns) (h2 : v / 32 % 32 + 1 = nd) (h3 : v / 1024 + 4 = nl) (hm : ¬ (286 < ns ∨ 30 < nd)) (hl : a + 14 + 3 * nl ≤ L.length) (hk : kindOf (llF L (a + 14) nl) ≠ 0)
    (hr : Runs (lensStep (llF L (a + 14) nl) L (ns + nd)) (a + 14 + 3 * nl, []) r) :
    dynR L most a o = dynTail ns L most o r := by
  subst h1 h2 h3
  simp only [dynR, dynAt, h]
  rw [if_neg hm, if_neg (by omega), if_neg hk, runF_eq hr]
  cases r with
  | er e => rfl
  | ok x =>
    obtain ⟨a1, l⟩ := x
    simp only [dynTail]
    by_cases hc : l.getD 256 0 = 0 ∨ kindOf (l.take (v % 32 + 257)) = 0 ∨ kindOf (l.drop (v % 32 + 257)) = 0
    · rw [if_pos hc, if_pos hc]
    · rw [if_neg hc, if_neg hc]
theorem block_er {L : List Bool} {most a e : Nat} {o : List Nat} (h : bitsAt L a 3 = .er e) : blockStep L most (a, o) = .er e := by
  simp [blockStep, h]
theorem block_ok {L : List Bool} {most a v k l : Nat} {o : List Nat} (h : bitsAt L a 3 = .ok v) (hk : v / 2 = k) (hl : v % 2 = l) :
    blockStep L most (a, o) = match kindAt L most k (a + 3) o with
      | .er e => .er e
      | .ok t => if l = 1 then .fin t else .go t := by
  subst hk hl
  simp only [blockStep, h]
  try (cases kindAt L most (v / 2) (a + 3) o <;> rfl)
/-- What Inflate answers. -/
def InfRes (L : List Bool) (most : Nat) (w : World) (e : Ending) (w' : World) : Prop :=
  (∃ (a : Nat) (o : List Nat) (v : Value), Runs (blockStep L most) (0, []) (.ok (a, o)) ∧ a ≤ L.length ∧ o.length ≤ most ∧ e = .returned (.tuple #[v, .int .i64 ((a + 7) / 8 : Nat), .int .i64 0]) ∧ w'.ownsRow w.heap.size 5 1 v o.length (bx o) ∧ Below w.heap.size w w') ∨
  (∃ er : Nat, 0 < er ∧ er < 100 ∧ Runs (blockStep L most) (0, []) (.er er) ∧ e = .returned (.tuple #[.slice none 0 0, .int .i64 0, .int .i64 er]) ∧ Below w.heap.size w w')
/-- The first a bits are the same. -/
def Ag (L L' : List Bool) (a : Nat) : Prop := L.take a = L'.take a
theorem Ag.mono {L L' : List Bool} {a b : Nat} (h : Ag L L' a) (hb : b ≤ a) : Ag L L' b := by
  have := congrArg (List.take b) h
  rwa [List.take_take, List.take_take, Nat.min_eq_left hb] at this
theorem Ag.refl (L : List Bool) (a : Nat) : Ag L L a := rfl
theorem Ag.length {L L' : List Bool} {a b : Nat} (h : Ag L L' a) (hb : b ≤ a) (hl : b ≤ L.length) : b ≤ L'.length := by
  have := congrArg List.length h
  simp at this
  omega
theorem Ag.mid {L L' : List Bool} {a : Nat} (h : Ag L L' a) (p n : Nat) (hp : p + n ≤ a) : (L.drop p).take n = (L'.drop p).take n := by
  have e : ∀ X : List Bool, (X.drop p).take n = ((X.take a).drop p).take n := by
    intro X
    rw [List.drop_take, List.take_take, Nat.min_eq_left (by omega)]
  rw [e L, e L', h]
theorem bits_ok {L : List Bool} {a n v : Nat} (h : bitsAt L a n = .ok v) : a + n ≤ L.length ∧ num ((L.drop a).take n) = v := by
  unfold bitsAt at h
  split at h
  · exact ⟨by assumption, by injection h⟩
  · cases h
theorem bits_ag {L L' : List Bool} {a b n v : Nat} (h : bitsAt L a n = .ok v) (hA : Ag L L' b) (hb : a + n ≤ b) : bitsAt L' a n = .ok v := by
  obtain ⟨h1, h2⟩ := bits_ok h
  unfold bitsAt
  rw [if_pos (hA.length hb h1), ← hA.mid a n hb, h2]
theorem look_ag {l : List Int} {bits bits' : List Bool} {n u : Nat} : ∀ f k v, look l bits f k v = .found n u → (∀ i, i < n → bits'[i]? = bits[i]?) → k < n ∧ look l bits' f k v = .found n u
  | 0, k, v, h, _ => by simp [look] at h
  | f + 1, k, v, h, hb => by
    simp only [look] at h ⊢
    by_cases hw : words l ≤ bas l (k + 1)
    · rw [if_pos hw] at h; cases h
    · rw [if_neg hw] at h ⊢
      cases hk : bits[k]? with
      | none => rw [hk] at h; cases h
      | some b =>
        rw [hk] at h
        simp only at h
        by_cases hu : 2 * v + b.toNat < upTo l (k + 1)
        · rw [if_pos hu] at h
          injection h with h1 h2
          have : k < n := by omega
          rw [hb k this, hk]
          simp only
          rw [if_pos hu, h1, h2]
          exact ⟨this, rfl⟩
        · rw [if_neg hu] at h
          obtain ⟨h1, h2⟩ := look_ag f (k + 1) _ h hb
          rw [hb k (by omega), hk]
          simp only
          rw [if_neg hu]
          exact ⟨by omega, h2⟩
theorem sign_ok {l : List Int} {L : List Bool} {a j b : Nat} (h : signAt l L a = .ok (j, b)) : a < b ∧ b ≤ a + (L.drop a).length ∧ ∃ n v, lookup l (L.drop a) = .found n v ∧ b = a + n := by
  unfold signAt at h
  split at h
  · rename_i n v hl
    injection h with h
    injection h with h1 h2
    obtain ⟨k1, k2, k3, _⟩ := lookup_found hl
    have hn : 0 < n := by
      rcases Nat.eq_zero_or_pos n with h0 | h0
      · rw [h0, upTo_zero] at k3; omega
      · exact h0
    exact ⟨by omega, by omega, n, v, hl, h2.symm⟩
  · cases h
  · cases h
theorem sign_ag {l : List Int} {L L' : List Bool} {a j b c : Nat} (h : signAt l L a = .ok (j, b)) (hA : Ag L L' c) (hb : b ≤ c) : signAt l L' a = .ok (j, b) := by
  obtain ⟨_, _, n, v, hl, rfl⟩ := sign_ok h
  have h2 := (look_ag (bits' := L'.drop a) 16 0 0 hl (fun i hi => by
    have := hA.mid a n hb
    have h3 := congrArg (fun x => x[i]?) this
    simp only [List.getElem?_take, if_pos hi] at h3
    exact h3.symm)).2
  unfold signAt at h ⊢
  rw [hl] at h
  rw [show lookup l (L'.drop a) = .found n v from h2]
  exact h
theorem add_ok {q : Option (Nat × Nat)} {L : List Bool} {a v b : Nat} (h : addAt q L a = .ok (v, b)) : a ≤ b := by
  unfold addAt at h
  split at h
  · cases h
  · split at h
    · cases h
    · injection h with h
      injection h with h1 h2
      omega
theorem add_ag {q : Option (Nat × Nat)} {L L' : List Bool} {a v b c : Nat} (h : addAt q L a = .ok (v, b)) (hA : Ag L L' c) (hb : b ≤ c) : addAt q L' a = .ok (v, b) := by
  unfold addAt at h ⊢
  split at h
  · cases h
  · split at h
    · cases h
    · rename_i hx
      injection h with h
      injection h with h1 h2
      rw [bits_ag hx hA (by omega)]
      simp only
      rw [h1, h2]
/-- A copy that is made: as it was with other room, if that is enough; else ErrLong. -/
theorem copy_ok {y : List Int} {L : List Bool} {most s a b : Nat} {o u : List Nat} (h : copyAt y L most s a o = .ok (b, u)) :
    a ≤ b ∧ o.length ≤ u.length ∧ (∀ L' m', Ag L L' b → u.length ≤ m' → copyAt y L' m' s a o = .ok (b, u)) ∧ (∀ m', m' < u.length → copyAt y L m' s a o = .er 3) := by
  unfold copyAt at h
  split at h
  · cases h
  rename_i n a1 h1
  split at h
  · cases h
  rename_i d a2 h2
  split at h
  · cases h
  rename_i k a3 h3
  split at h
  · cases h
  rename_i g1
  split at h
  · cases h
  rename_i g2
  injection h with h
  injection h with e1 e2
  subst e1 e2
  have l1 := add_ok h1
  have l2 := (sign_ok h2).1
  have l3 := add_ok h3
  refine ⟨by omega, by rw [copyM_length]; omega, fun L' m' hA hm => ?_, fun m' hm => ?_⟩
  · rw [copyM_length] at hm
    unfold copyAt
    rw [add_ag h1 hA (by omega)]
    simp only
    rw [sign_ag h2 hA (by omega)]
    simp only
    rw [add_ag h3 hA (by omega)]
    simp only
    rw [if_neg g1, if_neg (by omega)]
  · rw [copyM_length] at hm
    unfold copyAt
    rw [h1]
    simp only
    rw [h2]
    simp only
    rw [h3]
    simp only
    rw [if_neg g1, if_pos (by omega)]
theorem sstep_go {x y : List Int} {L : List Bool} {m : Nat} {s t : Nat × List Nat} (h : signStep x y L m s = .go t) :
    s.1 ≤ t.1 ∧ s.2.length ≤ t.2.length ∧ (∀ L' m', Ag L L' t.1 → t.2.length ≤ m' → signStep x y L' m' s = .go t) ∧ (∀ m', m' < t.2.length → s.2.length ≤ m' → signStep x y L m' s = .er 3) := by
  obtain ⟨a, o⟩ := s
  unfold signStep at h
  split at h
  · cases h
  rename_i j b hs
  simp only at hs
  have l1 := (sign_ok hs).1
  split at h
  · cases h
  rename_i g1
  split at h
  · rename_i g2
    split at h
    · cases h
    rename_i g3
    injection h with h
    subst h
    simp only at g3 ⊢
    refine ⟨by omega, by simp, fun L' m' hA hm => ?_, fun m' hm hm2 => ?_⟩
    · simp at hm
      exact step_lone (sign_ag hs hA (Nat.le_refl _)) g2 (by omega)
    · simp at hm
      exact step_long hs g2 (by omega)
  · rename_i g2
    split at h
    · cases h
    rename_i t' hc
    injection h with h
    subst h
    obtain ⟨b', u⟩ := t'
    simp only at hc ⊢
    obtain ⟨k1, k2, k3, k4⟩ := copy_ok hc
    refine ⟨by omega, k2, fun L' m' hA hm => ?_, fun m' hm _ => ?_⟩
    · exact step_copy (sign_ag hs hA (by omega)) (by omega) (k3 L' m' hA hm)
    · exact step_copy_er hs (by omega) (k4 m' hm)
theorem sstep_fin {x y : List Int} {L : List Bool} {m : Nat} {s t : Nat × List Nat} (h : signStep x y L m s = .fin t) :
    s.1 ≤ t.1 ∧ s.2 = t.2 ∧ (∀ L' m', Ag L L' t.1 → signStep x y L' m' s = .fin t) := by
  obtain ⟨a, o⟩ := s
  unfold signStep at h
  split at h
  · cases h
  rename_i j b hs
  simp only at hs
  have l1 := (sign_ok hs).1
  split at h
  · rename_i g1
    subst g1
    injection h with h
    subst h
    exact ⟨by simp only; omega, rfl, fun L' m' hA => step_fin (sign_ag hs hA (Nat.le_refl _))⟩
  · split at h
    · split at h <;> cases h
    · split at h <;> cases h
theorem sruns_ok {x y : List Int} {L : List Bool} {m : Nat} {s : Nat × List Nat} {r : Rs (Nat × List Nat)} (h : Runs (signStep x y L m) s r) : ∀ t, r = .ok t →
    s.1 ≤ t.1 ∧ s.2.length ≤ t.2.length ∧ (∀ L' m', Ag L L' t.1 → t.2.length ≤ m' → Runs (signStep x y L' m') s (.ok t)) ∧ (∀ m', m' < t.2.length → s.2.length ≤ m' → Runs (signStep x y L m') s (.er 3)) := by
  induction h with
  | er _ => intro t e; cases e
  | fin h =>
    intro t e
    injection e with e
    subst e
    obtain ⟨h1, h2, h3⟩ := sstep_fin h
    refine ⟨h1, by rw [h2]; exact Nat.le_refl _, fun L' m' hA _ => .fin (h3 L' m' hA), fun m' h4 h5 => ?_⟩
    rw [h2] at h5; omega
  | @go s t' r h _ ih =>
    intro t e
    obtain ⟨i1, i2, i3, i4⟩ := ih t e
    obtain ⟨h1, h2, h3, h4⟩ := sstep_go h
    refine ⟨by omega, by omega, fun L' m' hA hm => .go (h3 L' m' (hA.mono i1) (by omega)) (i3 L' m' hA hm), fun m' hm hm2 => ?_⟩
    by_cases hl : m' < t'.2.length
    · exact .er (h4 m' hl hm2)
    · exact .go (h3 L m' (.refl _ _) (by omega)) (i4 m' hm (by omega))
theorem run_ok {cl : List Int} {L : List Bool} {a b t : Nat} {l : List Int} {x : Int} (h : runAt cl L a l = .ok (x, t, b)) : a ≤ b ∧ ∀ L', Ag L L' b → runAt cl L' a l = .ok (x, t, b) := by
  unfold runAt at h
  split at h
  · cases h
  rename_i s a1 hs
  have l1 := (sign_ok hs).1
  split at h
  · rename_i g
    injection h with h; injection h with h1 h; injection h with h2 h3
    subst h1 h2 h3
    exact ⟨by omega, fun L' hA => run_len (sign_ag hs hA (Nat.le_refl _)) g⟩
  rename_i g
  split at h
  · cases h
  rename_i v hb
  split at h
  · rename_i g2
    injection h with h; injection h with h1 h; injection h with h2 h3
    subst h1 h2 h3
    exact ⟨by omega, fun L' hA => run_noughts (sign_ag hs hA (by omega)) g2 (bits_ag hb hA (Nat.le_refl _))⟩
  rename_i g2
  split at h
  · cases h
  rename_i g3
  injection h with h; injection h with h1 h; injection h with h2 h3
  subst h1 h2 h3
  refine ⟨by omega, fun L' hA => ?_⟩
  unfold runAt
  rw [sign_ag hs hA (by omega)]
  simp only
  rw [if_neg g, bits_ag hb hA (Nat.le_refl _)]
  simp only
  rw [if_neg g2, if_neg g3]
theorem lruns_ok {cl : List Int} {L : List Bool} {n : Nat} {s : Nat × List Int} {r : Rs (Nat × List Int)} (h : Runs (lensStep cl L n) s r) : ∀ t, r = .ok t → s.1 ≤ t.1 ∧ ∀ L', Ag L L' t.1 → Runs (lensStep cl L' n) s (.ok t) := by
  induction h with
  | er _ => intro t e; cases e
  | @fin s t' h =>
    intro t e
    injection e with e
    subst e
    obtain ⟨a, l⟩ := s
    unfold lensStep at h
    split at h
    · rename_i g
      injection h with h
      subst h
      exact ⟨Nat.le_refl _, fun L' _ => .fin (lens_fin g)⟩
    · split at h
      · cases h
      · split at h <;> cases h
  | @go s t' r h _ ih =>
    intro t e
    obtain ⟨i1, i2⟩ := ih t e
    obtain ⟨a, l⟩ := s
    unfold lensStep at h
    split at h
    · cases h
    rename_i g
    split at h
    · cases h
    rename_i x k b hr
    simp only at hr g
    split at h
    · cases h
    rename_i g2
    injection h with h
    subst h
    obtain ⟨r1, r2⟩ := run_ok hr
    simp only at i1 g2 ⊢
    exact ⟨by omega, fun L' hA => .go (lens_go g (r2 L' (hA.mono i1)) g2) (i2 L' hA)⟩
theorem runF_ok {σ : Type} {f : σ → Step σ} {s t : σ} (h : runF f s = .ok t) : Runs f s (.ok t) := by
  unfold runF at h
  split at h
  · rename_i hx
    have := hx.choose_spec
    rwa [h] at this
  · cases h
theorem llF_ag {L L' : List Bool} {a b : Nat} (hA : Ag L L' b) : ∀ k, a + 3 * k ≤ b → llF L' a k = llF L a k
  | 0, _ => rfl
  | k + 1, h => by rw [llF, llF, llF_ag hA k (by omega), hA.mid (a + 3 * k) 3 (by omega)]
theorem dyn_ok {L : List Bool} {a b : Nat} {x y : List Int} (h : dynAt L a = .ok (b, x, y)) : a ≤ b ∧ ∀ L', Ag L L' b → dynAt L' a = .ok (b, x, y) := by
  unfold dynAt at h
  split at h
  · cases h
  rename_i v hv
  split at h
  · cases h
  rename_i g1
  split at h
  · cases h
  rename_i g2
  split at h
  · cases h
  rename_i g3
  split at h
  · cases h
  rename_i b1 l hr
  split at h
  · cases h
  rename_i g4
  injection h with h; injection h with e1 h; injection h with e2 e3
  subst e1 e2 e3
  obtain ⟨r1, r2⟩ := lruns_ok (runF_ok hr) _ rfl
  simp only at r1 r2
  refine ⟨by omega, fun L' hA => ?_⟩
  have hl : a + 14 + 3 * (v / 1024 + 4) ≤ L'.length := hA.length r1 (by omega)
  have e := llF_ag (a := a + 14) hA (v / 1024 + 4) r1
  unfold dynAt
  rw [bits_ag hv hA (by omega)]
  simp only
  rw [if_neg g1, if_neg (by omega), e, if_neg g3, runF_eq (r2 L' hA)]
  simp only
  rw [if_neg g4]
theorem pack_len8 (l : List Bool) (n : Nat) (h : l.length = 8 * n) : (pack l).length = n := by simp; omega
theorem stored_ok {L : List Bool} {m a b : Nat} {o u : List Nat} (h : storedAt L m a o = .ok (b, u)) :
    a ≤ b ∧ o.length ≤ u.length ∧ (∀ L' m', Ag L L' b → u.length ≤ m' → storedAt L' m' a o = .ok (b, u)) ∧ (∀ m', m' < u.length → storedAt L m' a o = .er 3) := by
  unfold storedAt at h
  split at h
  · cases h
  rename_i v hv
  split at h
  · cases h
  rename_i g1
  split at h
  · cases h
  rename_i g2
  split at h
  · cases h
  rename_i g3
  injection h with h
  injection h with e1 e2
  subst e1 e2
  have hlen : (pack ((L.drop ((a + 7) / 8 * 8 + 32)).take (8 * (v % 65536)))).length = v % 65536 := pack_len8 _ _ (by simp; omega)
  refine ⟨by omega, by simp, fun L' m' hA hm => ?_, fun m' hm => ?_⟩
  · rw [List.length_append, hlen] at hm
    unfold storedAt
    rw [bits_ag hv hA (by omega)]
    simp only
    rw [if_neg g1, if_neg (by omega), if_neg (by have := hA.length (Nat.le_refl _) (by omega); omega), hA.mid _ (8 * (v % 65536)) (Nat.le_refl _)]
  · rw [List.length_append, hlen] at hm
    unfold storedAt
    rw [hv]
    simp only
    rw [if_neg g1, if_pos (by omega)]
theorem kind_ok {L : List Bool} {m k a b : Nat} {o u : List Nat} (h : kindAt L m k a o = .ok (b, u)) :
    a ≤ b ∧ o.length ≤ u.length ∧ (∀ L' m', Ag L L' b → u.length ≤ m' → kindAt L' m' k a o = .ok (b, u)) ∧ (∀ m', m' < u.length → o.length ≤ m' → kindAt L m' k a o = .er 3) := by
  match k, h with
  | 0, h =>
    rw [kindAt] at h
    obtain ⟨h1, h2, h3, h4⟩ := stored_ok h
    exact ⟨h1, h2, fun L' m' hA hm => by rw [kindAt]; exact h3 L' m' hA hm, fun m' hm _ => by rw [kindAt]; exact h4 m' hm⟩
  | 1, h =>
    rw [kindAt] at h
    obtain ⟨h1, h2, h3, h4⟩ := sruns_ok (runF_ok h) _ rfl
    exact ⟨h1, h2, fun L' m' hA hm => by rw [kindAt]; exact runF_eq (h3 L' m' hA hm), fun m' hm hm2 => by rw [kindAt]; exact runF_eq (h4 m' hm hm2)⟩
  | 2, h =>
    rw [kindAt] at h
    split at h
    · cases h
    rename_i a1 x y hd
    obtain ⟨d1, d2⟩ := dyn_ok hd
    obtain ⟨h1, h2, h3, h4⟩ := sruns_ok (runF_ok h) _ rfl
    simp only at h1 h2 h3 h4
    exact ⟨by omega, h2, fun L' m' hA hm => by rw [kindAt, d2 L' (hA.mono h1)]; exact runF_eq (h3 L' m' hA hm), fun m' hm hm2 => by rw [kindAt, hd]; exact runF_eq (h4 m' hm hm2)⟩
  | _ + 3, h => rw [kindAt] at h; cases h
def ordZ : List Int := [16, 17, 18, 0, 8, 7, 9, 6, 10, 5, 11, 4, 12, 3, 13, 2, 14, 1, 15]
theorem refOrder_any (w : World) : Calls Tryz.prog 71 #[] w fun e w' => ∃ g, e = .returned (.slice (some ⟨g, 0, none⟩) 19 19) ∧ Whole w' g 3 (iv ordZ).toArray ∧ w.heap.size ≤ g ∧ Below w.heap.size w w' := by
  go_enter Tryz.func71, Tryz.ntmps71
  go_wp2
  go_ret
  exact ⟨w.heap.size, rfl, Whole.new _ _ _, Nat.le_refl _, (Below.refl _ _).alloc (Nat.le_refl _) _⟩
theorem ordZ_get : ∀ k, k < 19 → (iv ordZ)[k]? = some (.int .i64 (ordJ k)) := by
  intro k hk
  have h1 : k < ordZ.length := hk
  rw [iv_get? h1]
  have : ∀ k, (h : k < 19) → ordZ.getD k 0 = ordJ k := by decide
  have h2 := this k hk
  simp [List.getD, h1] at h2
  rw [h2]
end Go.Proofs.YtkjhefjjacokjaaGreat

namespace Go.Proofs.YtkjhefjjacokjaaGreat
open Go.RowKit
set_option maxRecDepth 100000
section
variable {P : Program} {ops : Array Oper} {md : Region.Mode} {Q : Exit → Act → World → Prop} {S : World → Prop} {T : Act → World → Prop} {n g : Nat}

/-- The first f operations in whatever order, S holding behind each; then T. -/
def wpAnyT (P : Program) (md : Region.Mode) (ops : Array Oper) (Q : Exit → Act → World → Prop) (S : World → Prop) (n g : Nat) (T : Act → World → Prop) : Nat → Array Bool → Act → World → Prop
  | 0, listed, a, w => Region.seqB md ops g n listed = true ∧ T a w
  | f + 1, listed, a, w => Region.ready md ops listed ≠ [] ∧ ∀ i ∈ Region.ready md ops listed, wpOp P ops Q i (fun a' w' => S w' ∧ wpAnyT P md ops Q S n g T f (listed.setIfInBounds i true) a' w') a w

theorem wpAny_of_T (hT : ∀ listed a w, Region.seqB md ops g n listed = true → T a w → wpAny P md ops Q g listed a w) :
    ∀ (f : Nat) (listed : Array Bool) (a : Act) (w : World), wpAnyT P md ops Q S n g T f listed a w → wpAny P md ops Q (f + g) listed a w
  | 0, listed, a, w, h => by rw [Nat.zero_add]; exact hT _ _ _ h.1 h.2
  | f + 1, listed, a, w, h => by
    rw [show f + 1 + g = (f + g) + 1 by omega]
    exact ⟨fun h0 => absurd h0 h.1, fun i hi => wpOp_mono (fun a' w' h' => wpAny_of_T hT f _ a' w' h'.2) (h.2 i hi)⟩

theorem wpAnyT_first {i : Nat} {oi : Oper} {v : Value} (hi : ops[i]? = some oi) (hsel : ∀ (j : Nat) (o : Oper) cs b, ops[j]? = some o → o.op ≠ .select cs b)
    (hQ : ∀ c a w, Q (.panic c) (a.put oi.dst v) w → Q (.panic c) a w) (hw : Region.waitsFor md ops n i = true) (hg : 0 < g) :
    ∀ (fuel : Nat) (listed : Array Bool) (a : Act) (w : World),
      (∀ j oj, ops[j]? = some oj → j ≠ i → listed.getD j true = false → (∀ e ∈ oj.after, Region.binds md e = true → e.on ≠ i) → oi.apart ops oj = true) →
      i ∈ Region.ready md ops listed → YieldsIf P ops S oi v a → S w →
      wpAnyT P md ops Q S n g T fuel (listed.setIfInBounds i true) (a.put oi.dst v) w → wpAnyT P md ops Q S n g T (fuel + 1) listed a w := by
  intro fuel
  have wait : ∀ listed : Array Bool, i ∈ Region.ready md ops listed → n ∉ Region.ready md ops listed := by
    intro listed hr hn
    obtain ⟨on, hon, e, he, hb, heq⟩ := Region.waitsFor_spec hw
    obtain ⟨_, on', hon', hall⟩ := mem_ready.1 hn
    have : on' = on := Option.some.inj (hon'.symm.trans hon)
    subst this
    have h1 := hall e he hb
    have h0 := (mem_ready.1 hr).1
    rw [heq] at h1
    rw [getD_both h0] at h1
    cases h1
  induction fuel with
  | zero =>
    intro listed a w _ hr hy hS H
    refine ⟨fun h => (by rw [h] at hr; cases hr), fun j hj => ?_⟩
    by_cases hji : j = i
    · subst hji; exact hy.wpOp hi hS ⟨hS, H⟩
    · have h1 := ready_mono hj hji
      have h2 : Region.ready md ops (listed.setIfInBounds i true) = [n] := by
        have h3 := H.1
        obtain ⟨g', rfl⟩ : ∃ g', g = g' + 1 := ⟨g - 1, by omega⟩
        simp only [Region.seqB, Bool.and_eq_true, decide_eq_true_eq] at h3
        exact h3.1
      rw [h2] at h1
      have h3 : j = n := by simpa using h1
      subst h3
      exact absurd hj (wait listed hr)
  | succ fuel ih =>
    intro listed a w hfree hr hy hS H
    refine ⟨fun h => (by rw [h] at hr; cases hr), fun j hj => ?_⟩
    by_cases hji : j = i
    · subst hji; exact hy.wpOp hi hS ⟨hS, H⟩
    · have h1 := H.2 j (ready_mono hj hji)
      obtain ⟨hjun, oj, hoj, hall⟩ := mem_ready.1 hj
      have hnot : ∀ e ∈ oj.after, Region.binds md e = true → e.on ≠ i := fun e he hb heq => by
        have h1 := hall e he hb
        have h0 := (mem_ready.1 hr).1
        rw [heq, getD_both h0] at h1
        cases h1
      have h2 := wpOp_putIf hoj (hfree j oj hoj hji hjun hnot) (fun cs b => hsel i oi cs b hi) (fun cs b => hsel j oj cs b hoj) hQ hy h1
      have hfree' : ∀ k ok, ops[k]? = some ok → k ≠ i → (listed.setIfInBounds j true).getD k true = false →
          (∀ e ∈ ok.after, Region.binds md e = true → e.on ≠ i) → oi.apart ops ok = true := fun k ok hk hki hun hno => by
        refine hfree k ok hk hki ?_ hno
        by_cases hjk : j = k
        · subst hjk; exact hjun
        · rw [getD_set_ne true hjk] at hun; exact hun
      refine wpOp_mono (fun a' w' h3 => ⟨h3.2.1, ih (listed.setIfInBounds j true) a' w' hfree' (ready_mono hr (Ne.symm hji)) h3.1 h3.2.1 ?_⟩) h2
      rw [Array.setIfInBounds_comm _ _ hji]
      exact h3.2.2

/-- Take number i first: it yields v in every world that meets S, and nobody who could come before it touches its temporaries. -/
theorem wpAnyT_take {i : Nat} {oi : Oper} {v : Value} {fuel : Nat} {listed : Array Bool} {a : Act} {w : World} (hi : ops[i]? = some oi)
    (hs : Region.noSelect ops = true) (hf : Region.free md ops listed i = true) (hr : (Region.ready md ops listed).contains i = true) (hw : (decide (0 < g) && Region.waitsFor md ops n i) = true)
    (hQ : ∀ c a w, Q (.panic c) (a.put oi.dst v) w → Q (.panic c) a w) (hy : YieldsIf P ops S oi v a) (hS : S w)
    (h : wpAnyT P md ops Q S n g T fuel (listed.setIfInBounds i true) (a.put oi.dst v) w) : wpAnyT P md ops Q S n g T (fuel + 1) listed a w := by
  simp only [Bool.and_eq_true, decide_eq_true_eq] at hw
  exact wpAnyT_first hi (Region.noSelect_spec hs) hQ hw.2 hw.1 fuel listed a w (Region.free_spec hi hf) (by simpa using hr) hy hS h

/-- The one that may come up comes up: behind it S is to be shown anew. -/
theorem wpAnyT_run {i : Nat} {o : Oper} {fuel : Nat} {listed : Array Bool} {a : Act} {w : World} (hr : Region.ready md ops listed = [i]) (ho : ops[i]? = some o)
    (h : ∀ K' : Act → World → Prop, Shut (∀ a w, S w → (S w → wpAnyT P md ops Q S n g T fuel (listed.setIfInBounds i true) a w) → K' a w) → if Region.wanted o (yielded ops a.tmps) = true then Oper.wp P o a w K' Q else K' (a.put o.dst undef) w) :
    wpAnyT P md ops Q S n g T (fuel + 1) listed a w := by
  refine ⟨by rw [hr]; simp, fun j hj => ?_⟩
  rw [hr] at hj
  have : j = i := by simpa using hj
  subst this
  exact wpOp_step ho (fun K' hK => h K' (fun a w hS hW => hK a w ⟨hS, hW hS⟩))

theorem wpAnyT_done {listed : Array Bool} {a : Act} {w : World} (hB : Region.seqB md ops g n listed = true) (h : T a w) : wpAnyT P md ops Q S n g T 0 listed a w := ⟨hB, h⟩
end

/-- The beginning. -/
theorem wp_region_heldTail {P : Program} {id : Nat} {Q : Exit → Act → World → Prop} {S : World → Prop} {a : Act} {w : World} {l : List Oper} (n g : Nat) (hm : P.follows .mixedOrders = true) (hn : n + g = l.length) (hS : S w.drew)
    (h : S w.drew → wpAnyT P .any l.toArray Q S n g (wpList P l.toArray Q (l.drop n)) n (Array.replicate l.toArray.size false) a w.drew) : (Code.region id l.toArray true).wp P Q a w := by
  refine wp_region_any hm ?_
  have := wpAny_of_T (Q := Q) (fun listed a w hB h => by
    have hd : (l.drop n).length = g := by simp; omega
    have := wpAny_of_seq (md := .any) (Q' := Q) (ops := l.toArray) (P := P) (l.drop n) n listed a w (fun j => by simp [List.getElem?_drop]) (by rw [hd]; exact hB) h
    rwa [hd] at this) _ _ _ _ (h hS)
  rw [hn] at this
  simpa using this
/-- Append to a row of one's own: what stood in the row's block stands there still. -/
theorem run_append_keep {P : Program} (w : World) (base : Nat) (t ty e : TypeId) (i : TypeInfo) (z : Value) (bytes : Nat) (ht : P.underlying t = some (.slice e)) (hi : P.info? e = some i) (hz : i.zero = some z)
    (hsize : i.size = 1) (hby : i.bytes = bytes) (hzs : z.cells.size = 1)
    (r cap n : Nat) (xs : List Value) (hown : w.ownsRow base e 1 (.slice (some ⟨r, 0, none⟩) n cap) n xs)
    (B : Nat) (A : Addr) (m c : Nat) (news : List Value) (hr : Seen w B 1 (some A) m c news) (hm : 0 < m) (h1 : ∀ u ∈ news, u.oneCell' = true)
    (h63 : n + m ≤ maxLen) (hbytes : (n + m) * bytes ≤ 140737488355328) (hbase : base ≤ w.heap.size) :
    ∃ v' w', (Builtin.append_ #[t, t] ty #[.slice (some ⟨r, 0, none⟩) n cap, .slice (some A) m c]).run P w = .ok v' w' ∧ w'.ownsRow base e 1 v' (n + m) (xs ++ news) ∧ w.grownBy w' (some r) ∧ (∀ j u, xs[j]? = some u → w'.cell? ⟨r, j, none⟩ = some u) := by
  obtain ⟨v', w', hrun, h2, h3, h4⟩ := run_append_seen (P := P) w base t ty e i z 1 bytes ht hi hz hsize hby hzs (by omega) _ n xs hown B (some A) m c news hr h1 h63 hbytes hbase
  refine ⟨v', w', hrun, h2, h3, fun j u hu => ?_⟩
  have hj : j < xs.length := (List.getElem?_eq_some_iff.1 hu).1
  have hlt := hown.lt r rfl
  by_cases hroom : n + m ≤ cap
  · rcases h2.2 with ⟨hv, hn⟩ | ⟨g, cap', cur, rfl, hb, hh, k1, k2, k3, k4⟩
    · omega
    · have hg : g = r := by
        rcases h4 with h4 | h4
        · simpa [Value.ownBlock] using h4
        · exfalso
          simp [Value.ownBlock] at h4
          rcases hown.2 with ⟨hv, _⟩ | ⟨g', cap2, cur', hv, hb', hh', q1, q2, q3, q4⟩
          · cases hv
          · injection hv with hv1 hv2 hv3
            injection hv1 with hv1; injection hv1 with hv1
            subst hv1 hv3
            obtain ⟨r1, r2, r3⟩ := hr
            have hnn : news ≠ [] := by rintro rfl; simp at r1; omega
            rcases r3 with ⟨hx, _⟩ | ⟨a, ha, r3⟩
            · cases hx
            · injection ha with ha
              subst ha
              obtain ⟨g1, g2, g3⟩ := r3 hnn
              have := run_append_room (P := P) w t ty e i ht hi r n cap cur' hh' A m c news (by rw [hsize]; exact r1) (fun j u hu => by
                obtain ⟨b, o, s⟩ := A
                simp only at g1 g2 g3
                subst g1
                rw [Addr.add_lit]
                exact g3 j u hu) h1 hroom (by rw [hsize] ; simp at r1 q3; omega)
              rw [this] at hrun
              injection hrun with e1 e2
              injection e1 with e1
              injection e1 with e1
              injection e1 with e1
              have := (Array.getElem?_eq_some_iff.1 hh').1
              omega
      subst hg
      rw [cell_of_row w' g j cur e (0, 0) hh]
      have : (xs ++ news)[j]? = some u := by rw [List.getElem?_append_left hj]; exact hu
      rw [← k4, List.getElem?_take] at this
      split at this
      · simpa using this
      · cases this
  · obtain ⟨r1, r2, r3⟩ := hr
    have hnn : news ≠ [] := by rintro rfl; simp at r1; omega
    rcases r3 with ⟨hx, _⟩ | ⟨a, ha, r3⟩
    · cases hx
    · injection ha with ha
      subst ha
      obtain ⟨g1, g2, g3⟩ := r3 hnn
      have holds : ∀ j u, xs[j]? = some u → w.cell? ((⟨r, 0, none⟩ : Addr).add j) = some u := hown.cells (g := r) rfl
      have := run_append_grow (P := P) w t ty e i z ht hi hz ⟨r, 0, none⟩ n cap xs (by rw [hsize]; exact hown.1) holds A m c news (by rw [hsize]; exact r1) (fun j u hu => by
        obtain ⟨b, o, s⟩ := A
        simp only at g1 g2 g3
        subst g1
        rw [Addr.add_lit]
        exact g3 j u hu) (by omega) (by simp only [maxLen] at h63; omega) (growslice_fits (by omega) (by rw [hby]; exact hbytes))
      rw [this] at hrun
      injection hrun with e1 e2
      subst e2
      have h5 := holds j u hu
      rw [Addr.add_lit, Nat.zero_add] at h5
      rw [← h5]
      exact World.cell?_of_block (Below.heap_alloc w.drew _ r hlt.2)
theorem step_append_keep {P : Program} (w : World) {ops : Array Oper} {o : Oper} {a : Act} {K : Act → World → Prop} {Q : Exit → Act → World → Prop} {E : Prop} (hgd : o.guard = none) (s x : Operand) (t : TypeId)
    (ho : o.op = .call { callee := .builtin .append, args := #[s, x], argTypes := #[t, t] })
    (base : Nat) (e : TypeId) (i : TypeInfo) (z : Value) (bytes : Nat) (ht : P.underlying t = some (.slice e)) (hi : P.info? e = some i) (hz : i.zero = some z)
    (hsize : i.size = 1) (hby : i.bytes = bytes) (hzs : z.cells.size = 1)
    (r cap n : Nat) (xs : List Value) (hs : a.eval s = .slice (some ⟨r, 0, none⟩) n cap) (hown : w.ownsRow base e 1 (.slice (some ⟨r, 0, none⟩) n cap) n xs)
    (B : Nat) (A : Addr) (m c : Nat) (news : List Value) (hx : a.eval x = .slice (some A) m c) (hr : Seen w B 1 (some A) m c news) (hm : 0 < m) (h1 : ∀ u ∈ news, u.oneCell' = true)
    (h63 : n + m ≤ maxLen) (hbytes : (n + m) * bytes ≤ 140737488355328) (hbase : base ≤ w.heap.size)
    (h : ∀ v' w', w'.ownsRow base e 1 v' (n + m) (xs ++ news) → w.grownBy w' (some r) → (∀ j u, xs[j]? = some u → w'.cell? ⟨r, j, none⟩ = some u) → K (a.put o.dst v') w') :
    if Region.wanted o (yielded ops a.tmps) = true then Oper.wp P o a w K Q else E := by
  have hw : Region.wanted o (yielded ops a.tmps) = true := by simp [Region.wanted, hgd]
  rw [if_pos hw]
  obtain ⟨v', w', hrun, h2, h3, h4⟩ := run_append_keep (P := P) w base t o.type e i z bytes ht hi hz hsize hby hzs r cap n xs hown B A m c news hr hm h1 h63 hbytes hbase
  unfold Oper.wp
  simp [execOp, ho, resolve, invoke, builtin, hs, hx, hrun, Result.andThen]
  exact h v' w' h2 h3 h4
/-- Only blocks of the document's readers, states and bytes, from block B on, may have changed. -/
structure Fq (B : Nat) (w w' : World) : Prop where
  os : w'.os = w.os
  tape : w'.tape = w.tape
  output : w'.output = w.output
  size : w.heap.size ≤ w'.heap.size
  block : ∀ k, k < w.heap.size → w'.heap[k]? = w.heap[k]? ∨ (B ≤ k ∧ ∃ t cs, Whole w k t cs ∧ (t = 73 ∨ t = 75 ∨ t = 5))
section
variable {B : Nat} {a b c w w' : World} {S : Nat → Prop}
theorem Fq.refl (B : Nat) (w : World) : Fq B w w := ⟨rfl, rfl, rfl, Nat.le_refl _, fun _ _ => .inl rfl⟩
theorem Fq.trans (h : Fq B a b) (k : Fq B b c) : Fq B a c := by
  refine ⟨k.os.trans h.os, k.tape.trans h.tape, k.output.trans h.output, Nat.le_trans h.size k.size, fun i hi => ?_⟩
  have hk := k.block i (Nat.lt_of_lt_of_le hi h.size)
  rcases h.block i hi with e | h1
  · rcases hk with e2 | ⟨hB, t, cs, h1, ht⟩
    · exact .inl (e2.trans e)
    · exact .inr ⟨hB, t, cs, e.symm.trans h1, ht⟩
  · exact .inr h1
theorem Fq.of_only (h : Only S w w') (hS : ∀ k, k < w.heap.size → S k → B ≤ k ∧ ∃ t cs, Whole w k t cs ∧ (t = 73 ∨ t = 75 ∨ t = 5)) : Fq B w w' := by
  refine ⟨h.os, h.tape, h.output, h.size, fun i hi => ?_⟩
  by_cases hs : S i
  · exact .inr (hS i hi hs)
  · exact .inl (h.block i hi hs)
theorem Fq.of_below (h : Below w.heap.size w w') (B : Nat) : Fq B w w' := ⟨h.os, h.tape, h.output, h.size, fun i hi => .inl (h.block i hi)⟩
theorem Fq.below (h : Fq B w w') (hB : B ≤ w.heap.size) : Below B w w' := by
  refine ⟨h.os, h.tape, h.output, h.size, fun i hi => ?_⟩
  rcases h.block i (by omega) with e | ⟨hB, _⟩
  · exact e
  · omega
theorem Fq.only (h : Fq B w w') : Only (fun k => ∃ t cs, Whole w k t cs ∧ (t = 73 ∨ t = 75 ∨ t = 5)) w w' := by
  refine ⟨h.os, h.tape, h.output, h.size, fun i hi hn => ?_⟩
  rcases h.block i hi with e | ⟨_, t, cs, h1, ht⟩
  · exact e
  · exact absurd ⟨t, cs, h1, ht⟩ hn
theorem Fq.own (h : Fq B w w') {lo n : Nat} {e : TypeId} {v : Value} {xs : List Value} (hr : w.ownsRow lo e 1 v n xs) (h1 : e ≠ 73) (h2 : e ≠ 75) (h3 : e ≠ 5) : w'.ownsRow lo e 1 v n xs :=
  own_only hr h.only (fun k hk hs => by
    obtain ⟨_, cs', hw⟩ := own_whole hr hk
    obtain ⟨t, cs, ht, hh⟩ := hs
    rcases hh with rfl | rfl | rfl
    · exact hw.ne ht h1 rfl
    · exact hw.ne ht h2 rfl
    · exact hw.ne ht h3 rfl)
end

theorem Fq.whole {B : Nat} {w w' : World} {g : Nat} {t : TypeId} {cs : Array Value} (h : Fq B w w') (hw : Whole w g t cs) (h1 : t ≠ 73) (h2 : t ≠ 75) (h3 : t ≠ 5) : Whole w' g t cs :=
  hw.only h.only (fun hs => by
    obtain ⟨t', cs', ht, hh⟩ := hs
    rcases hh with rfl | rfl | rfl
    · exact hw.ne ht h1 rfl
    · exact hw.ne ht h2 rfl
    · exact hw.ne ht h3 rfl)
theorem Fq.past {B : Nat} {a b c : World} (h : Fq B a b) (k : Below a.heap.size b c) : Fq B a c :=
  ⟨k.os.trans h.os, k.tape.trans h.tape, k.output.trans h.output, Nat.le_trans h.size k.size, fun i hi => by rw [k.block i hi]; exact h.block i hi⟩
theorem Fq.drew {B : Nat} {u w : World} (h : Fq B u w) : Fq B u w.drew := ⟨h.os, h.tape, h.output, h.size, h.block⟩
theorem Fq.undrew {B : Nat} {w w' : World} (h : Fq B w.drew w') : Fq B w w' := ⟨h.os, h.tape, h.output, h.size, h.block⟩
/-- Where the document's inflating has its things. -/
structure Rx where
  B0 : Nat
  B1 : Nat
  gs : Nat
  gr : Nat
  rv : Value
  bs : List Nat
  most : Nat
abbrev Rx.L (c : Rx) : List Bool := unpack c.bs
structure Rx.Good (c : Rx) : Prop where
  long : c.bs.length ≤ 100000
  bytes : ∀ x ∈ c.bs, x < 256
  most : c.most ≤ 16777216
  gr : c.gr < c.B1
  gs : c.gs < c.B1
  lo : c.B0 ≤ c.gs
  lo1 : c.B0 ≤ c.B1
/-- The document's state stands. -/
structure RSt (c : Rx) (w : World) (ov : Value) (a : Nat) (o : List Nat) (e : Nat) : Prop where
  st : Whole w c.gs 75 #[.pointer (some ⟨c.gr, 0, none⟩), ov, .int .i64 c.most, .int .i64 e]
  rd : RefAt w c.B0 c.gr c.rv c.L a
  out : w.ownsRow c.B1 5 1 ov o.length (bx o)
  size : c.B1 ≤ w.heap.size
  place : a ≤ 8 * c.bs.length
  room : o.length ≤ c.most
section
variable {c : Rx} {w w' : World} {ov : Value} {a a' e e' : Nat} {o : List Nat}
theorem RSt.c0 (h : RSt c w ov a o e) : w.cell? ⟨c.gs, 0, none⟩ = some (.pointer (some ⟨c.gr, 0, none⟩)) := h.st.cell 0
theorem RSt.c1 (h : RSt c w ov a o e) : w.cell? ⟨c.gs, 1, none⟩ = some ov := h.st.cell 1
theorem RSt.c2 (h : RSt c w ov a o e) : w.cell? ⟨c.gs, 2, none⟩ = some (.int .i64 c.most) := h.st.cell 2
theorem RSt.c3 (h : RSt c w ov a o e) : w.cell? ⟨c.gs, 3, none⟩ = some (.int .i64 e) := h.st.cell 3
theorem RSt.drew (h : RSt c w ov a o e) : RSt c w.drew ov a o e := ⟨h.st, h.rd, h.out, h.size, h.place, h.room⟩
theorem RSt.drewN (h : RSt c w ov a o e) (n : Nat) : RSt c (w.drewN n) ov a o e := ⟨h.st, h.rd, h.out, h.size, h.place, h.room⟩
theorem RefAt.keepOnly {B g : Nat} {sv : Value} {l : List Bool} {S : Nat → Prop} (h : RefAt w B g sv l a) (ho : Only S w w') (hg : ¬ S g) (hs : ∀ k, sv.ownBlock = some k → ¬ S k) : RefAt w' B g sv l a :=
  ⟨h.1, h.2.1.only ho hg, own_only h.2.2 ho hs⟩
theorem RSt.below (h : RSt c w ov a o e) (hb : Below w.heap.size w w') : RSt c w' ov a o e := by
  have hO : Only Nob w w' := Only.of_below hb _
  exact ⟨h.st.only hO (fun h => h), h.rd.keepOnly hO (fun h => h) (fun _ _ h => h), own_only h.out hO (fun _ _ h => h), Nat.le_trans h.size hb.size, h.place, h.room⟩
theorem RSt.read (h : RSt c w ov a o e) (hr : RefAt w' c.B0 c.gr c.rv c.L a') (ho : Only (fun k => k = c.gr) w w') (ha : a' ≤ 8 * c.bs.length) : RSt c w' ov a' o e ∧ Fq c.B0 w w' := by
  have hF : Fq c.B0 w w' := Fq.of_only ho (fun k _ hk => by
    subst hk
    exact ⟨h.rd.1, 73, _, h.rd.2.1, .inl rfl⟩)
  exact ⟨⟨h.st.only ho (h.st.ne h.rd.2.1 (by decide)), hr, own_only h.out ho (fun k hk => own_ne_whole h.out h.rd.2.1 (by decide) k hk), Nat.le_trans h.size ho.size, ha, h.room⟩, hF⟩
/-- An error is set down. -/
theorem RSt.err (hg : c.Good) (h : RSt c w ov a o e) (e' : Nat) : RSt c (w.setCell ⟨c.gs, 3, none⟩ (.int .i64 e')) ov a o e' ∧ Fq c.B0 w (w.setCell ⟨c.gs, 3, none⟩ (.int .i64 e')) := by
  have hO := (Only.refl (fun k => k = c.gs) w).setCell (p := ⟨c.gs, 3, none⟩) (.inl rfl) (.int .i64 e')
  have hF : Fq c.B0 w (w.setCell ⟨c.gs, 3, none⟩ (.int .i64 e')) := Fq.of_only hO (fun k _ hk => by
    subst hk
    exact ⟨hg.lo, 75, _, h.st, .inr (.inl rfl)⟩)
  refine ⟨⟨by simpa using h.st.put 3 (.int .i64 e'), h.rd.keepOnly hO (fun e => h.st.ne h.rd.2.1 (by decide) e.symm) (fun k hk e => own_ne_whole h.rd.2.2 h.st (by decide) k hk e), own_only h.out hO (fun k hk => own_ne_whole h.out h.st (by decide) k hk), Nat.le_trans h.size hF.size, h.place, h.room⟩, hF⟩
/-- Something more came out. -/
theorem RSt.push {w1 : World} {v1 : Value} {o' : List Nat} (hg : c.Good) (h : RSt c w ov a o e) (hgr : w.grownBy w1 ov.ownBlock) (hown : w1.ownsRow c.B1 5 1 v1 o'.length (bx o')) (hr : o'.length ≤ c.most) :
    RSt c (w1.setCell ⟨c.gs, 1, none⟩ v1) v1 a o' e ∧ Fq c.B0 w (w1.setCell ⟨c.gs, 1, none⟩ v1) := by
  have hlt := h.out.lt
  have hne := own_ne_whole h.out h.st (by decide)
  have hO : Only (fun k => k = c.gs ∨ ov.ownBlock = some k) w w1 := (Only.refl _ w).grown hgr (fun k hk _ => .inr hk)
  have hO2 := hO.setCell (p := ⟨c.gs, 1, none⟩) (.inl (.inl rfl)) v1
  have hF : Fq c.B0 w (w1.setCell ⟨c.gs, 1, none⟩ v1) := Fq.of_only hO2 (fun k _ hk => by
    rcases hk with rfl | hk
    · exact ⟨hg.lo, 75, _, h.st, .inr (.inl rfl)⟩
    · obtain ⟨hb, cs, hw⟩ := own_whole h.out hk
      exact ⟨Nat.le_trans hg.lo1 hb, 5, cs, hw, .inr (.inr rfl)⟩)
  have hst1 : Whole w1 c.gs 75 #[.pointer (some ⟨c.gr, 0, none⟩), ov, .int .i64 c.most, .int .i64 e] := h.st.grown hgr (fun e => hne c.gs e.symm rfl)
  refine ⟨⟨by simpa using hst1.put 1 v1, ?_, ?_, Nat.le_trans h.size hF.size, h.place, hr⟩, hF⟩
  · refine h.rd.keepOnly hO2 ?_ ?_
    · rintro (e | e)
      · exact h.st.ne h.rd.2.1 (by decide) e.symm
      · have := (hlt _ e).1
        have := hg.gr
        omega
    · rintro k hk (e | e)
      · exact own_ne_whole h.rd.2.2 h.st (by decide) k hk e
      · exact own_ne_own h.out h.rd.2.2 (by decide) k e hk
  · refine own_only hown ((Only.refl (fun k => k = c.gs) w1).setCell (p := ⟨c.gs, 1, none⟩) (.inl rfl) v1) (fun k hk => own_ne_whole hown hst1 (by decide) k hk)
end

theorem rfail_any {c : Rx} (hg : c.Good) (ov : Value) (a : Nat) (o : List Nat) (e er : Nat) (w : World) (h : RSt c w ov a o e) :
    Calls Tryz.prog 42 #[.pointer (some ⟨c.gs, 0, none⟩), .int .i64 er] w fun r w' => r = .returned (.tuple #[]) ∧ RSt c w' ov a o (if e = 0 then er else e) ∧ Fq c.B0 w w' := by
  have c3 := h.c3
  have z3 := h.st.frozen 3
  have HE := Lib.hid (h.err hg er)
  have H := Lib.hid h; clear h
  by_cases h0 : e = 0
  · subst h0
    rw [if_pos rfl]
    go_enter Tryz.func42, Tryz.ntmps42
    go_wp2
    go_end0
    exact ⟨rfl, HE.out⟩
  · rw [if_neg h0]
    have d0 : (e == 0) = false := by simpa using h0
    have d1 : ((e : Int) == 0) = false := by simp; omega
    go_enter Tryz.func42, Tryz.ntmps42
    go_wp2
    go_end0
    exact ⟨rfl, H.out, Fq.refl _ _⟩
theorem rget_no {c : Rx} (ov : Value) (a : Nat) (o : List Nat) (e n : Nat) (he : e ≠ 0) (w : World) (h : RSt c w ov a o e) :
    Calls Tryz.prog 38 #[.pointer (some ⟨c.gs, 0, none⟩), .int .i64 n] w fun r w' => r = .returned (.int .i64 0) ∧ w' = w := by
  have c3 := h.c3
  clear h
  have d0 : (e == 0) = false := by simpa using he
  have d1 : ((e : Int) == 0) = false := by simp; omega
  have d2 : ¬ (e : Int) = 0 := by omega
  go_enter Tryz.func38, Tryz.ntmps38
  go_wp2
  go_ret
  exact ⟨rfl, rfl⟩
theorem rget_any {c : Rx} (hg : c.Good) (ov : Value) (a : Nat) (o : List Nat) (n : Nat) (hn : n ≤ 16) (w : World) (h : RSt c w ov a o 0) :
    Calls Tryz.prog 38 #[.pointer (some ⟨c.gs, 0, none⟩), .int .i64 n] w fun r w' => ∃ v er a' : Nat, r = .returned (.int .i64 v) ∧ RSt c w' ov a' o er ∧ Fq c.B0 w w' ∧
      ((er = 0 ∧ bitsAt c.L a n = .ok v ∧ v < 2 ^ n ∧ a' = a + n) ∨ (er = 6 ∧ v = 0 ∧ bitsAt c.L a n = .er 6)) := by
  have c3 := h.c3
  have c0 := h.c0
  have hl := hg.long
  by_cases hle : a + n ≤ 8 * c.bs.length
  · have CG := Lib.hid (refGet_yes c.B0 c.gr c.rv c.L a n w h.rd (by simp; omega) (by omega) (by simpa using hle))
    have hb : bitsAt c.L a n = .ok (num ((c.L.drop a).take n)) := by unfold bitsAt; rw [if_pos (by simpa using hle)]
    have hv := num_lt ((c.L.drop a).take n)
    rw [show ((c.L.drop a).take n).length = n by simp; omega] at hv
    have hp : 2 ^ n ≤ 65536 := Nat.pow_le_pow_right (n := 2) (i := n) (j := 16) (by omega) hn
    obtain ⟨v, hvv⟩ : ∃ v, num ((c.L.drop a).take n) = v := ⟨_, rfl⟩
    rw [hvv] at CG hb hv
    have HB := Lib.hid hb
    have HV := Lib.hid hv
    have hv2 : v < 65536 := by omega
    have H := Lib.hid h; clear h hvv hb hv hp
    have wv : IntKind.i64.wrap (v : Int) = v := IntWalk.i64_in _ (by omega)
    go_enter Tryz.func38, Tryz.ntmps38
    go_wp2_with fail
    refine CG.out.mono ?_
    rintro r w1 ⟨rfl, hr, ho⟩
    have S1 := Lib.hid (H.out.read hr ho hle)
    clear hr ho
    go_wp2_with fail
    refine (rfail_any hg ov (a + n) o 0 0 w1 S1.out.1).mono ?_
    rintro r w2 ⟨rfl, hs2, hf2⟩
    have S2 := Lib.hid hs2
    have F2 := Lib.hid (S1.out.2.trans hf2)
    clear hs2 hf2
    go_wp2_with fail
    go_ret
    exact ⟨v, 0, a + n, rfl, S2.out, F2.out, .inl ⟨rfl, HB.out, HV.out, rfl⟩⟩
  · have CG := Lib.hid (refGet_end c.B0 c.gr c.rv c.L a n w h.rd (by simpa using h.place) (by omega) (by have := h.place; simp; omega))
    have HB : Hid (bitsAt c.L a n = .er 6) := Lib.hid (by unfold bitsAt; rw [if_neg (by simpa using hle)])
    have H := Lib.hid h; clear h
    go_enter Tryz.func38, Tryz.ntmps38
    go_wp2_with fail
    refine CG.out.mono ?_
    rintro r w1 ⟨rfl, rfl⟩
    go_wp2_with fail
    refine (rfail_any hg ov a o 0 6 w.drew H.out.drew).mono ?_
    rintro r w2 ⟨rfl, hs2, hf2⟩
    have S2 := Lib.hid hs2
    have F2 := Lib.hid hf2.undrew
    clear hs2 hf2
    go_wp2_with fail
    go_ret
    exact ⟨0, 6, a, rfl, S2.out, F2.out, .inr ⟨rfl, rfl, HB.out⟩⟩
theorem rsign_no {c : Rx} (ov : Value) (a : Nat) (o : List Nat) (e : Nat) (he : e ≠ 0) (W : Value) (w : World) (h : RSt c w ov a o e) :
    Calls Tryz.prog 69 #[.pointer (some ⟨c.gs, 0, none⟩), W] w fun r w' => r = .returned (.int .i64 0) ∧ w' = w := by
  have c3 := h.c3
  clear h
  have d0 : (e == 0) = false := by simpa using he
  have d1 : ((e : Int) == 0) = false := by simp; omega
  have d2 : ¬ (e : Int) = 0 := by omega
  go_enter Tryz.func69, Tryz.ntmps69
  go_wp2
  go_ret
  exact ⟨rfl, rfl⟩
theorem rsign_any {c : Rx} (hg : c.Good) (ov : Value) (a : Nat) (o : List Nat) (l : List Int) (n : Nat) (hn : l.length = n) (hl : n ≤ 1000) (hr : kindOf l ≠ 0) (A : Option Addr) (cp lo : Nat) (w : World) (hw : w.ownsRow lo 9 1 (.slice A n cp) n (twords l n)) (h : RSt c w ov a o 0) :
    Calls Tryz.prog 69 #[.pointer (some ⟨c.gs, 0, none⟩), .slice A n cp] w fun r w' => ∃ j er a' : Nat, r = .returned (.int .i64 j) ∧ RSt c w' ov a' o er ∧ Fq c.B0 w w' ∧
      ((er = 0 ∧ signAt l c.L a = .ok (j, a') ∧ j < n ∧ a < a' ∧ a' ≤ 8 * c.bs.length) ∨ (0 < er ∧ er < 100 ∧ j = 0 ∧ signAt l c.L a = .er er)) := by
  have c3 := h.c3
  have c0 := h.c0
  have hlo := hg.long
  have CG := Lib.hid (codeRefGet_any A cp w.heap.size l n hn hl hr c.B0 c.gr c.rv c.L a w (Seen.of_own hw) (Nat.le_refl _) h.rd (by simp; omega) (by simpa using h.place))
  have HR := Lib.hid hr
  have HN := Lib.hid hn
  have H := Lib.hid h; clear h hw hr hn
  go_enter Tryz.func69, Tryz.ntmps69
  go_wp2_with fail
  refine CG.out.mono ?_
  rintro r w1 ⟨j, er, m, hgot, rfl, hrd, ho⟩
  have hcase : (er = 0 ∧ signAt l c.L a = .ok (j, a + m) ∧ j < n ∧ a < a + m ∧ a + m ≤ 8 * c.bs.length) ∨ (0 < er ∧ er < 100 ∧ j = 0 ∧ m = 0 ∧ signAt l c.L a = .er er) := by
    unfold CodeGot at hgot
    cases hLk : lookup l (c.L.drop a) with
    | found m' v =>
      rw [hLk] at hgot
      obtain ⟨h1, h2, h3, rfl, rfl⟩ := hgot
      obtain ⟨k1, k2, k3⟩ := signAt_found HR.out hLk h1 h2 h3
      have k4 : a + m ≤ 8 * c.bs.length := by have := H.out.place; simp at k3; omega
      exact .inl ⟨rfl, k1, by have := HN.out; omega, by omega, k4⟩
    | code =>
      rw [hLk] at hgot
      obtain ⟨rfl, rfl, rfl⟩ := hgot
      exact .inr ⟨by omega, by omega, rfl, rfl, by unfold signAt; rw [hLk]⟩
    | fin =>
      rw [hLk] at hgot
      obtain ⟨rfl, rfl, rfl⟩ := hgot
      exact .inr ⟨by omega, by omega, rfl, rfl, by unfold signAt; rw [hLk]⟩
  have hpl : a + m ≤ 8 * c.bs.length := by
    rcases hcase with h | h
    · exact h.2.2.2.2
    · have := H.out.place; omega
  have S1 := Lib.hid (H.out.read hrd ho hpl)
  have CS := Lib.hid hcase
  clear hgot hrd ho hcase
  go_wp2_with fail
  refine (rfail_any hg ov (a + m) o 0 er w1 S1.out.1).mono ?_
  rintro r w2 ⟨rfl, hs2, hf2⟩
  rw [if_pos rfl] at hs2
  have S2 := Lib.hid hs2
  have F2 := Lib.hid (S1.out.2.trans hf2)
  clear hs2 hf2
  go_wp2_with fail
  go_ret
  refine ⟨j, er, a + m, rfl, S2.out, F2.out, ?_⟩
  rcases CS.out with ⟨h1, h2, h3, h4, h5⟩ | ⟨h1, h2, h3, h4, h5⟩
  · exact .inl ⟨h1, h2, h3, h4, h5⟩
  · exact .inr ⟨h1, h2, h3, h5⟩
end Go.Proofs.YtkjhefjjacokjaaGreat
