/-
  Mathematics of methods' descriptors: made of what they are told of; plain texts are right. Nothing of the program's memory.
-/
import Derived.Test.YtibkdmliolebgaaDoorTK
namespace Go.Proofs.YtibkdmliolebgaaDoor
open Go Go.RowKit
set_option maxRecDepth 100000

theorem dU_plain : ∀ (l : List UInt8) (p : List Nat), (∀ b ∈ l, 1 ≤ b.toNat ∧ b.toNat < 128) → (dU p l).isSome = true
  | [], p, _ => by rw [dU]; rfl
  | c :: r, p, h => by
    have hc := h c List.mem_cons_self
    have h1 : nOf c.toNat = 1 := by unfold nOf; rw [if_neg (by omega), if_neg (by omega)]
    have h2 : vOf c.toNat (gN r 0) (gN r 1) = c.toNat := by unfold vOf; rw [if_neg (by omega), if_neg (by omega)]
    have h3 : uB c.toNat = [c] := by rw [uB, if_pos ⟨hc.1, hc.2⟩, UInt8.ofNat_toNat]
    rw [dU, h1, h2, h3, if_neg (by simp), if_neg (by omega), if_neg (by simp)]
    exact dU_plain r _ (fun b hb => h b (List.mem_cons_of_mem _ hb))
theorem right_plain {l : List UInt8} (h : ∀ b ∈ l, 1 ≤ b.toNat ∧ b.toNat < 128) : rightM l = true := dU_plain l [] h

theorem par_list (b : List UInt8) : ∀ (xs out : List (List UInt8)), (∀ x ∈ xs, FieldD x) → parR out (xs.flatten ++ 41 :: b) = some (out ++ xs, 41 :: b)
  | [], out, _ => by
    rw [List.flatten_nil, List.nil_append, parR_stop (.inr (by simp [hdB])), List.append_nil]
  | x :: xs, out, h => by
    have hx := h x List.mem_cons_self
    have hf := fs_of (xs.flatten ++ 41 :: b) hx
    have hx0 : 0 < x.length := by
      obtain ⟨k, a, rfl, _, ha⟩ := hx
      obtain ⟨y, t, rfl, _, _⟩ := flat_head ha
      simp; omega
    rw [List.flatten_cons, List.append_assoc, par_go hf hx0, List.take_left' rfl, List.drop_left' rfl, par_list b xs _ (fun y hy => h y (List.mem_cons_of_mem _ hy)), List.append_assoc, List.singleton_append]
theorem params_of {xs : List (List UInt8)} (b : List UInt8) (h : ∀ x ∈ xs, FieldD x) (hb : b = [86] ∨ fieldM b = true) : paramsM (40 :: (xs.flatten ++ 41 :: b)) = some (xs, b) := by
  rw [paramsM, if_neg (by simp [hdB]), List.drop_succ_cons, List.drop_zero, par_list b xs [] h]
  simp only [List.nil_append, List.drop_succ_cons, List.drop_zero]
  rw [if_neg]
  rintro (h1 | ⟨h1, h2⟩)
  · cases h1
  · rcases hb with h3 | h3
    · exact h1 h3
    · rw [h3] at h2; cases h2
theorem par_inv : ∀ (n : Nat) (r : List UInt8) (out o2 : List (List UInt8)) (rest : List UInt8), r.length ≤ n → parR out r = some (o2, rest) → ∃ xs, o2 = out ++ xs ∧ r = xs.flatten ++ rest ∧ (rest = [] ∨ hdB rest 41 = true)
  | n, r, out, o2, rest, hn, h => by
    by_cases h0 : fsM r = 0
    · rw [par_end h0] at h
      split at h
      · rename_i h1
        injection h with h
        injection h with h2 h3
        subst h2 h3
        exact ⟨[], by simp, by simp, h1⟩
      · cases h
    · have hle := fs_le r
      rw [par_go (n := fsM r) rfl (by omega)] at h
      match n, hn with
      | 0, hn => omega
      | n + 1, hn =>
        obtain ⟨xs, h1, h2, h3⟩ := par_inv n (r.drop (fsM r)) _ _ _ (by rw [List.length_drop]; omega) h
        refine ⟨r.take (fsM r) :: xs, by rw [h1]; simp, ?_, h3⟩
        rw [List.flatten_cons, List.append_assoc, ← h2, List.take_append_drop]
theorem params_inv {s : List UInt8} {out : List (List UInt8)} {x : List UInt8} (h : paramsM s = some (out, x)) : s = 40 :: (out.flatten ++ 41 :: x) := by
  unfold paramsM at h
  split at h
  · cases h
  · rename_i h0
    split at h
    · cases h
    · rename_i o2 rest hp
      split at h
      · cases h
      · rename_i h1
        injection h with h
        injection h with h2 h3
        subst h2 h3
        obtain ⟨xs, e1, e2, e3⟩ := par_inv _ _ _ _ _ (Nat.le_refl _) hp
        have hr : rest ≠ [] := fun e => h1 (.inl e)
        have hh : hdB rest 41 = true := by
          rcases e3 with e3 | e3
          · exact absurd e3 hr
          · exact e3
        cases rest with
        | nil => exact absurd rfl hr
        | cons a t =>
          have ha : a = 41 := by simpa [hdB] using hh
          cases s with
          | nil => exact absurd (.inl rfl) h0
          | cons c s =>
            have hc : c = 40 := by
              by_cases hc : c = 40
              · exact hc
              · exact absurd (.inr (by simp [hdB, hc])) h0
            rw [List.drop_succ_cons, List.drop_zero] at e2
            rw [List.nil_append] at e1
            rw [hc, e2, e1, ha]; rfl

theorem fieldD_letter {x : UInt8} (h : letters.contains x = true) : FieldD [x] := ⟨0, [x], rfl, by decide, .inl ⟨x, h, rfl⟩⟩
theorem fieldD_dims {k : Nat} {a : List UInt8} (hk : k ≤ 255) (h : FlatD a) : FieldD (List.replicate k 91 ++ a) := ⟨k, a, rfl, hk, h⟩
theorem class_ab : classM [97, 47, 98] = true := by
  rw [classM, right_plain (by decide)]; decide
theorem class_a : classM [97] = true := by
  rw [classM, right_plain (by decide)]; decide
theorem class_aab : classM [97, 47, 47, 98] = false := by
  rw [classM, right_plain (by decide)]; decide
theorem lit_rooms : roomsM [40, 73, 74, 91, 68, 41, 86] = (4, true) := by
  have h := params_of (xs := [[73], [74], [91, 68]]) [86] (by
    intro x hx
    simp only [List.mem_cons, List.mem_nil_iff, or_false] at hx
    rcases hx with rfl | rfl | rfl
    · exact fieldD_letter (by decide)
    · exact fieldD_letter (by decide)
    · exact fieldD_dims (k := 1) (by decide) (.inl ⟨68, by decide, rfl⟩)) (.inl rfl)
  have e1 : roomM [73] = 1 := by rw [roomM, if_neg (by decide), if_pos ((field_iff _).2 (fieldD_letter (by decide)))]
  have e2 : roomM [74] = 2 := rfl
  have e3 : roomM [91, 68] = 1 := by rw [roomM, if_neg (by decide), if_pos ((field_iff [91, 68]).2 (fieldD_dims (k := 1) (by decide) (.inl ⟨68, by decide, rfl⟩)))]
  have e4 : roomsS [[73], [74], [91, 68]] = 4 := by simp [roomsS, e1, e2, e3]
  rw [roomsM, show paramsM [40, 73, 74, 91, 68, 41, 86] = some ([[73], [74], [91, 68]], [86]) from h]
  simp only [e4]
  rfl
theorem lit_params : paramsM [40, 76, 97, 47, 98, 59, 91, 91, 73, 41, 74] = some ([[76, 97, 47, 98, 59], [91, 91, 73]], [74]) :=
  params_of (xs := [[76, 97, 47, 98, 59], [91, 91, 73]]) [74] (by
    intro x hx
    simp only [List.mem_cons, List.mem_nil_iff, or_false] at hx
    rcases hx with rfl | rfl
    · exact fieldD_dims (k := 0) (by decide) (.inr ⟨[97, 47, 98], class_ab, rfl⟩)
    · exact fieldD_dims (k := 2) (by decide) (.inl ⟨73, by decide, rfl⟩)) (.inr field_J)
theorem lit_named : namedM [91, 73] = true := by
  rw [namedM, (field_iff [91, 73]).2 (fieldD_dims (k := 1) (by decide) (.inl ⟨73, by decide, rfl⟩))]
  simp [hdB]
theorem lit_init : methodM [60, 105, 110, 105, 116, 62] = true := rfl
theorem lit_x : methodM [60, 120, 62] = false := by
  rw [methodM, show woM [60, 120, 62] [60, 62] = false by decide]
  simp
end Go.Proofs.YtibkdmliolebgaaDoor
