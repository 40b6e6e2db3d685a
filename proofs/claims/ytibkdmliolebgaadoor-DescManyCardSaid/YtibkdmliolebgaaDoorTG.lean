/-
  Mathematics of descriptors: which beginning of a row is one. Nothing of the program's memory.
-/
import Derived.Test.YtibkdmliolebgaaDoorTF
namespace Go.Proofs.YtibkdmliolebgaaDoor
open Go Go.RowKit
set_option maxRecDepth 100000

theorem idxB_cons (a : UInt8) (l : List UInt8) (c : UInt8) : Lib.indexByte (a :: l) c = if a == c then 0 else if Lib.indexByte l c == -1 then -1 else Lib.indexByte l c + 1 := rfl
theorem idxB_of {c : UInt8} (b : List UInt8) : ∀ (a : List UInt8), c ∉ a → Lib.indexByte (a ++ c :: b) c = a.length
  | [], _ => by rw [List.nil_append, idxB_cons]; simp
  | x :: a, h => by
    have ih := idxB_of b a (fun hm => h (List.mem_cons_of_mem _ hm))
    have hx : (x == c) = false := by rw [beq_eq_false_iff_ne]; rintro rfl; exact h List.mem_cons_self
    rw [List.cons_append, idxB_cons, hx, ih]
    have : ((a.length : Int) == -1) = false := by rw [beq_eq_false_iff_ne]; omega
    rw [this]; simp
theorem idxB_inv {c : UInt8} : ∀ (t : List UInt8), Lib.indexByte t c ≠ -1 → ∃ a b, t = a ++ c :: b ∧ c ∉ a
  | [], h => absurd rfl h
  | x :: t, h => by
    by_cases hx : x = c
    · exact ⟨[], t, by simp [hx], by simp⟩
    · have hx2 : (x == c) = false := by rw [beq_eq_false_iff_ne]; exact hx
      rw [idxB_cons, hx2] at h
      by_cases hm : Lib.indexByte t c = -1
      · rw [hm] at h; exact absurd rfl h
      · obtain ⟨a, b, rfl, hab⟩ := idxB_inv t hm
        exact ⟨x :: a, b, rfl, by simp; exact ⟨fun e => hx e.symm, hab⟩⟩
theorem cutM_of {c : UInt8} (a b : List UInt8) (h : c ∉ a) : cutM (a ++ c :: b) c = (a, b, true) := by
  have hi := idxB_of b a h
  rw [cutM, hi, if_neg (by omega), show ((a.length : Int)).toNat = a.length from rfl]
  simp
theorem cutM_inv {c : UInt8} {t : List UInt8} (h : (cutM t c).2.2 = true) : ∃ a b, t = a ++ c :: b ∧ c ∉ a ∧ cutM t c = (a, b, true) := by
  by_cases hm : Lib.indexByte t c = -1
  · rw [cutM, if_pos hm] at h; cases h
  · obtain ⟨a, b, rfl, hab⟩ := idxB_inv t hm
    exact ⟨a, b, rfl, hab, cutM_of a b hab⟩

abbrev letters : List UInt8 := [66, 67, 68, 70, 73, 74, 83, 90]
/-- How many bytes a descriptor without dimensions has, that a row begins with. -/
def flatM : List UInt8 → Nat
  | [] => 0
  | x :: t => if letters.contains x then 1 else if x = 76 then (if (cutM t 59).2.2 && classM (cutM t 59).1 then (cutM t 59).1.length + 2 else 0) else 0
/-- A descriptor without dimensions. -/
def FlatD (a : List UInt8) : Prop := (∃ x, letters.contains x = true ∧ a = [x]) ∨ ∃ nm, classM nm = true ∧ a = 76 :: (nm ++ [59])
theorem class_59 {nm : List UInt8} (h : classM nm = true) : (59 : UInt8) ∉ nm := by
  intro hm
  unfold classM at h
  simp only [Bool.and_eq_true] at h
  have := List.all_eq_true.1 h.1.2 59 hm
  exact absurd this (by decide)
theorem flat_of {a : List UInt8} (b : List UInt8) (h : FlatD a) : flatM (a ++ b) = a.length := by
  rcases h with ⟨x, hx, rfl⟩ | ⟨nm, hn, rfl⟩
  · show (if letters.contains x then 1 else _) = 1
    rw [if_pos hx]
  · have e : (76 :: (nm ++ [59])) ++ b = 76 :: (nm ++ 59 :: b) := by simp
    rw [e, flatM, if_neg (by decide), if_pos rfl, cutM_of nm b (class_59 hn)]
    simp [hn]
theorem flat_inv {r : List UInt8} {n : Nat} (h : flatM r = n) (h0 : 0 < n) : ∃ a b, r = a ++ b ∧ FlatD a ∧ a.length = n := by
  cases r with
  | nil => simp [flatM] at h; omega
  | cons x t =>
    rw [flatM] at h
    split at h
    · rename_i hx
      exact ⟨[x], t, rfl, .inl ⟨x, hx, rfl⟩, h⟩
    · split at h
      · rename_i hx
        split at h
        · rename_i hc
          simp only [Bool.and_eq_true] at hc
          obtain ⟨a, b, rfl, hab, hc2⟩ := cutM_inv hc.1
          rw [hc2] at h hc
          exact ⟨76 :: (a ++ [59]), b, by simp [hx], .inr ⟨a, hc.2, rfl⟩, by rw [← h]; simp⟩
        · omega
      · omega
theorem flat_rest (r : List UInt8) : restF r = true ↔ FlatD r := by
  unfold restF
  constructor
  · intro h
    split at h
    · rename_i h1
      cases r with
      | nil => cases h1
      | cons x t =>
        obtain rfl : t = [] := List.eq_nil_of_length_eq_zero (by simpa using h1)
        refine .inl ⟨x, ?_, rfl⟩
        rw [woM_cons] at h
        simpa [woM] using h
    · rename_i h1
      simp only [Bool.and_eq_true] at h
      obtain ⟨⟨h2, h3⟩, h4⟩ := h
      cases r with
      | nil => simp [hdB] at h2
      | cons x t =>
        have hx : x = 76 := by simpa [hdB] using h2
        have ht : t ≠ [] := by rintro rfl; exact h1 rfl
        have e := List.dropLast_concat_getLast ht
        have hl : t.getLast ht = 59 := by
          have : (x :: t).getD ((x :: t).length - 1) 0 = t.getLast ht := by
            rw [List.getLast_eq_getElem, List.getD_eq_getElem?_getD]
            have hlt : 0 < t.length := List.length_pos_iff.2 ht
            rw [show (x :: t).length - 1 = (t.length - 1) + 1 by simp; omega, List.getElem?_cons_succ, List.getElem?_eq_getElem (by omega)]
            rfl
          rw [lsB, this] at h3
          simpa using h3
        have hm : ((x :: t).take ((x :: t).length - 1)).drop 1 = t.dropLast := by
          have hlt : 0 < t.length := List.length_pos_iff.2 ht
          rw [show (x :: t).length - 1 = (t.length - 1) + 1 by simp; omega, List.take_succ_cons, List.drop_succ_cons, List.drop_zero, List.dropLast_eq_take]
        rw [hm] at h4
        exact .inr ⟨t.dropLast, h4, by rw [hx, ← hl, e]⟩
  · rintro (⟨x, hx, rfl⟩ | ⟨nm, hn, rfl⟩)
    · rw [if_pos (show [x].length = 1 from rfl), woM_cons, hx]; rfl
    · have h1 : ¬ (76 :: (nm ++ [59])).length = 1 := by simp
      rw [if_neg h1]
      have e1 : ((76 :: (nm ++ [59])).take ((76 :: (nm ++ [59])).length - 1)).drop 1 = nm := by
        rw [show (76 :: (nm ++ [59])).length - 1 = nm.length + 1 by simp, List.take_succ_cons, List.drop_succ_cons, List.drop_zero, List.take_left']
        rfl
      have e2 : lsB (76 :: (nm ++ [59])) 59 = true := by
        rw [ls_at (M := nm.length + 1) (by simp)]
        simp
      rw [e1, hn, e2]; rfl
theorem flat_head {a : List UInt8} (h : FlatD a) : ∃ x t, a = x :: t ∧ x ≠ 91 ∧ x ≠ 41 := by
  rcases h with ⟨x, hx, rfl⟩ | ⟨nm, hn, rfl⟩
  · exact ⟨x, [], rfl, by rintro rfl; exact absurd hx (by decide), by rintro rfl; exact absurd hx (by decide)⟩
  · exact ⟨76, _, rfl, by decide, by decide⟩

/-- A field's descriptor. -/
def FieldD (s : List UInt8) : Prop := ∃ k a, s = List.replicate k 91 ++ a ∧ k ≤ 255 ∧ FlatD a
/-- How many bytes the field's descriptor has that a row begins with. -/
def fsM (l : List UInt8) : Nat := if 255 < dimsM l ∨ flatM (l.drop (dimsM l)) = 0 then 0 else dimsM l + flatM (l.drop (dimsM l))
theorem dims_rep {x : UInt8} (hx : x ≠ 91) (t : List UInt8) : ∀ k, dimsM (List.replicate k 91 ++ x :: t) = k
  | 0 => by rw [List.replicate_zero, List.nil_append]; exact dimsM_no (by simp) hx
  | k + 1 => by rw [List.replicate_succ, List.cons_append, dimsM_cons, dims_rep hx t k]
theorem dims_split : ∀ l : List UInt8, l = List.replicate (dimsM l) 91 ++ l.drop (dimsM l)
  | [] => rfl
  | x :: t => by
    by_cases hx : x = 91
    · subst hx
      rw [dimsM_cons, List.replicate_succ, List.drop_succ_cons, List.cons_append, ← dims_split t]
    · rw [dimsM_no (l := x :: t) (by simp) hx]; rfl
theorem fs_of {s : List UInt8} (b : List UInt8) (h : FieldD s) : fsM (s ++ b) = s.length := by
  obtain ⟨k, a, rfl, hk, ha⟩ := h
  have hf := flat_of b ha
  obtain ⟨x, t, rfl, hx, _⟩ := flat_head ha
  have hd : dimsM (List.replicate k 91 ++ x :: t ++ b) = k := by
    rw [List.append_assoc, List.cons_append]; exact dims_rep hx _ k
  have hdr : (List.replicate k 91 ++ x :: t ++ b).drop k = x :: t ++ b := by
    rw [List.append_assoc, List.drop_left']; simp
  rw [fsM, hd, hdr, hf, if_neg (by simp; omega)]
  simp
theorem fs_inv {r : List UInt8} {n : Nat} (h : fsM r = n) (h0 : 0 < n) : ∃ s b, r = s ++ b ∧ FieldD s ∧ s.length = n := by
  rw [fsM] at h
  split at h
  · omega
  · rename_i hn
    have h1 : dimsM r ≤ 255 := by omega
    have h2 : 0 < flatM (r.drop (dimsM r)) := by omega
    obtain ⟨a, b, hab, ha, hl⟩ := flat_inv rfl h2
    refine ⟨List.replicate (dimsM r) 91 ++ a, b, ?_, ⟨_, a, rfl, h1, ha⟩, by simp; omega⟩
    rw [List.append_assoc, ← hab]; exact dims_split r
theorem field_iff (s : List UInt8) : fieldM s = true ↔ FieldD s := by
  unfold fieldM
  constructor
  · intro h
    split at h
    · cases h
    · rename_i hn
      exact ⟨dimsM s, s.drop (dimsM s), dims_split s, by omega, (flat_rest _).1 h⟩
  · rintro ⟨k, a, rfl, hk, ha⟩
    obtain ⟨x, t, rfl, hx, _⟩ := flat_head ha
    rw [dims_rep hx t k, if_neg (by simp; omega), List.drop_left' (by simp)]
    exact (flat_rest _).2 ha
theorem field_eq (l : List UInt8) : fieldM l = (decide (0 < fsM l) && decide (fsM l = l.length)) := by
  rw [Bool.eq_iff_iff, field_iff, Bool.and_eq_true, decide_eq_true_iff, decide_eq_true_iff]
  constructor
  · intro h
    have := fs_of [] h
    rw [List.append_nil] at this
    refine ⟨?_, this⟩
    rw [this]
    obtain ⟨k, a, rfl, hk, ha⟩ := h
    obtain ⟨x, t, rfl, _, _⟩ := flat_head ha
    simp; omega
  · rintro ⟨h1, h2⟩
    obtain ⟨s, b, rfl, hs, hl⟩ := fs_inv rfl h1
    have : b = [] := List.eq_nil_of_length_eq_zero (by rw [h2, List.length_append] at hl; omega)
    rw [this, List.append_nil]; exact hs
theorem fs_le (l : List UInt8) : fsM l ≤ l.length := by
  rcases Nat.eq_zero_or_pos (fsM l) with h | h
  · omega
  · obtain ⟨s, b, hs, _, hl⟩ := fs_inv rfl h
    have := congrArg List.length hs
    simp at this; omega
theorem flat_le (l : List UInt8) : flatM l ≤ l.length := by
  rcases Nat.eq_zero_or_pos (flatM l) with h | h
  · omega
  · obtain ⟨s, b, hs, _, hl⟩ := flat_inv rfl h
    have := congrArg List.length hs
    simp at this; omega
theorem fs_head {r : List UInt8} (h : 0 < fsM r) : r ≠ [] ∧ hdB r 41 = false := by
  obtain ⟨s, b, rfl, ⟨k, a, rfl, hk, ha⟩, hl⟩ := fs_inv rfl h
  obtain ⟨x, t, rfl, h1, h2⟩ := flat_head ha
  cases k with
  | zero => exact ⟨by simp, by simp [hdB]; exact h2⟩
  | succ k => exact ⟨by simp [List.replicate_succ], by simp [hdB, List.replicate_succ]⟩
theorem take_field {r : List UInt8} {d : Nat} (h2 : d ≤ r.length) (hf : fieldM (r.take d) = true) : fsM r = d := by
  have := fs_of (r.drop d) ((field_iff _).1 hf)
  rw [List.take_append_drop, List.length_take, Nat.min_eq_left h2] at this
  exact this
theorem field_take {r : List UInt8} {n : Nat} (h : fsM r = n) (h0 : 0 < n) : fieldM (r.take n) = true := by
  obtain ⟨s, b, rfl, hs, hl⟩ := fs_inv h h0
  rw [← hl, List.take_left']
  · exact (field_iff _).2 hs
  · rfl
theorem sh_eq (r : List UInt8) : sh r = if fsM r = 0 then none else some (fsM r) := by
  by_cases h : fsM r = 0
  · rw [if_pos h]
    refine sh_none fun d h1 h2 => ?_
    rw [← Bool.not_eq_true]
    intro hf
    have := take_field h2 hf
    omega
  · rw [if_neg h]
    refine sh_some (by omega) (fs_le r) (field_take rfl (by omega)) fun d h1 h2 => ?_
    rw [← Bool.not_eq_true]
    intro hf
    have := take_field (by have := fs_le r; omega) hf
    omega
theorem par_go {out : List (List UInt8)} {r : List UInt8} {n : Nat} (h : fsM r = n) (h0 : 0 < n) : parR out r = parR (out ++ [r.take n]) (r.drop n) := by
  obtain ⟨h1, h2⟩ := fs_head (r := r) (by omega)
  rw [parR_step h1 h2, sh_eq, if_neg (by omega), h]
theorem par_end {out : List (List UInt8)} {r : List UInt8} (h : fsM r = 0) : parR out r = if r = [] ∨ hdB r 41 = true then some (out, r) else none := by
  by_cases h1 : r = [] ∨ hdB r 41 = true
  · rw [if_pos h1, parR_stop h1]
  · rw [if_neg h1]
    have h2 : r ≠ [] := fun e => h1 (.inl e)
    have h3 : hdB r 41 = false := by rw [← Bool.not_eq_true]; exact fun e => h1 (.inr e)
    rw [parR_step h2 h3, sh_eq, if_pos h]
theorem dims_pos (l : List UInt8) : decide (0 < dimsM l) = (!decide (l = []) && hdB l 91) := by
  cases l with
  | nil => rfl
  | cons x t =>
    by_cases hx : x = 91
    · subst hx; rw [dimsM_cons]; simp [hdB]
    · rw [dimsM_no (l := x :: t) (by simp) hx]; simp [hdB, hx]
end Go.Proofs.YtibkdmliolebgaaDoor
