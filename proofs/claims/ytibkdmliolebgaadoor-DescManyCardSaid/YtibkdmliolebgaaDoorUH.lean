/-
  Mathematics of units and signs: which rows are right, what is encoded is decoded, the order of rows. Nothing of the program's memory.
-/
import Derived.Test.YtibkdmliolebgaaDoorUC
namespace Go.Proofs.YtibkdmliolebgaaDoor
open Go Go.RowKit
set_option maxRecDepth 100000

theorem u8n (x : Nat) (h : x < 256) : (UInt8.ofNat x).toNat = x := by rw [UInt8.toNat_ofNat', Nat.mod_eq_of_lt h]
theorem gN_zero (a : UInt8) (t : List UInt8) : gN (a :: t) 0 = a.toNat := rfl
theorem gN_one (a b : UInt8) (t : List UInt8) : gN (a :: b :: t) 1 = b.toNat := rfl
/-- A unit's bytes tell it. -/
theorem uB_cons (v : Nat) (hv : v < 65536) : ∃ c t, uB v = c :: t ∧ nOf c.toNat = t.length + 1 ∧ ∀ r, vOf c.toNat (gN (t ++ r) 0) (gN (t ++ r) 1) = v := by
  unfold uB
  by_cases h1 : 1 ≤ v ∧ v < 128
  · rw [if_pos h1]
    refine ⟨_, _, rfl, ?_, fun r => ?_⟩
    · rw [u8n v (by omega), nOf, if_neg (by omega), if_neg (by omega)]; rfl
    · rw [u8n v (by omega), vOf, if_neg (by omega), if_neg (by omega)]
  · rw [if_neg h1]
    by_cases h2 : v < 2048
    · rw [if_pos h2]
      refine ⟨_, _, rfl, ?_, fun r => ?_⟩
      · rw [u8n _ (by omega), nOf, if_neg (by omega), if_pos (by omega)]; rfl
      · rw [u8n _ (by omega), vOf, if_neg (by omega), if_pos (by omega), List.cons_append, gN_zero, u8n _ (by omega)]; omega
    · rw [if_neg h2]
      refine ⟨_, _, rfl, ?_, fun r => ?_⟩
      · rw [u8n _ (by omega), nOf, if_pos (by omega)]; rfl
      · rw [u8n _ (by omega), vOf, if_pos (by omega), List.cons_append, List.cons_append, gN_zero, gN_one, u8n _ (by omega), u8n _ (by omega)]; omega
theorem dU_back : ∀ (q p : List Nat), (∀ x ∈ q, x < 65536) → dU p (uBs q) = some (p ++ q)
  | [], p, _ => by show dU p [] = some (p ++ []); rw [List.append_nil, dU]
  | v :: q, p, h => by
    have hv := h v (by simp)
    obtain ⟨c, t, e, hn, hvo⟩ := uB_cons v hv
    have e1 : uBs (v :: q) = c :: (t ++ uBs q) := by show uB v ++ uBs q = _; rw [e]; rfl
    have ht : (c :: (t ++ uBs q)).take (t.length + 1) = uB v := by rw [e, List.take_succ_cons, List.take_left]
    rw [e1, dU, hn, hvo, if_neg (by simp), if_neg (by omega), if_neg (fun h => h ht.symm), Nat.add_sub_cancel, List.drop_left, dU_back q _ fun x hx => h x (by simp [hx])]
    simp
theorem dU_fwd {u : List Nat} : ∀ (n : Nat) (p : List Nat) (s : List UInt8), s.length ≤ n → dU p s = some u → ∃ q, u = p ++ q ∧ uBs q = s ∧ ∀ x ∈ q, x < 65536
  | n, p, [], _, h => by rw [dU] at h; cases h; exact ⟨[], by simp, rfl, by simp⟩
  | 0, p, c :: r, hn, _ => by simp at hn
  | n + 1, p, c :: r, hn, h => by
    rw [dU] at h
    split at h
    · cases h
    rename_i hl
    split at h
    · cases h
    rename_i h65
    split at h
    · cases h
    rename_i hb
    obtain ⟨q, h1, h2, h3⟩ := dU_fwd n _ _ (by rw [List.length_drop]; simp at hn; omega) h
    refine ⟨vOf c.toNat (gN r 0) (gN r 1) :: q, by rw [h1]; simp, ?_, fun x hx => ?_⟩
    · have hb2 : uB (vOf c.toNat (gN r 0) (gN r 1)) = (c :: r).take (nOf c.toNat) := Decidable.not_not.1 hb
      show uB _ ++ uBs q = c :: r
      have hp := nOf_pos c.toNat
      rw [hb2, h2]
      have e : r.drop (nOf c.toNat - 1) = (c :: r).drop (nOf c.toNat) := by
        rw [show nOf c.toNat = (nOf c.toNat - 1) + 1 by omega, List.drop_succ_cons, Nat.add_sub_cancel]
      rw [e, List.take_append_drop]
    · rcases List.mem_cons.1 hx with rfl | hx
      · omega
      · exact h3 x hx
/-- Which units a row tells. -/
theorem units_iff (s : List UInt8) (u : List Nat) : unitsM s = some u ↔ uBs u = s ∧ ∀ x ∈ u, x < 65536 := by
  constructor
  · intro h
    obtain ⟨q, h1, h2, h3⟩ := dU_fwd s.length [] s (Nat.le_refl _) h
    rw [List.nil_append] at h1
    subst h1
    exact ⟨h2, h3⟩
  · rintro ⟨rfl, h⟩
    exact dU_back u [] h

end Go.Proofs.YtibkdmliolebgaaDoor

