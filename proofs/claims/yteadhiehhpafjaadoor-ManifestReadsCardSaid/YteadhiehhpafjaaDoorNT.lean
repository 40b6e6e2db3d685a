/-
  The program's folds are the document's. Conditions: none. Nothing of the program stands here.
-/
import Derived.Test.YteadhiehhpafjaaDoorNJ
namespace Go.Proofs.YteadhiehhpafjaaDoor
open Go Go.RowKit
set_option maxRecDepth 100000

theorem chF_eq (L : Nat) : ∀ (k i : Nat), (L - i + 70) / 71 ≤ k → chF 71 L k i = (List.range ((L - i + 70) / 71)).map fun j => (i + 71 * j, min 71 (L - (i + 71 * j)))
  | 0, i, h => by
    have : (L - i + 70) / 71 = 0 := by omega
    rw [this]; rfl
  | k + 1, i, h => by
    unfold chF
    by_cases hi : i < L
    · have e : (L - i + 70) / 71 = (L - (i + 71) + 70) / 71 + 1 := by omega
      rw [if_pos hi, chF_eq L k (i + 71) (by omega), e, List.range_succ_eq_map, List.map_cons, List.map_map]
      congr 1
      refine List.map_congr_left fun j _ => ?_
      simp only [Function.comp]
      rw [show i + 71 + 71 * j = i + 71 * (j + 1) by omega]
    · have e : (L - i + 70) / 71 = 0 := by omega
      rw [if_neg hi, e]; rfl
theorem pfoldL_eq (s : ByteArray) : pfoldL s = foldL s := by
  unfold pfoldL foldL
  by_cases h : s.size ≤ 72
  · have hL : s.size - 72 = 0 := by omega
    rw [if_pos h, hL, Nat.min_eq_left h]
    have e : s.extract 0 s.size = s := ByteArray.extract_zero_size
    rw [e]; rfl
  · rw [if_neg h, Nat.min_eq_right (by omega), chF_eq (s.size - 72) (s.size - 72) 0 (by omega), foldP, List.map_map]
    have e : (s.size - 72 - 0 + 70) / 71 = (s.size - 2) / 71 := by omega
    rw [e]
    congr 1
    refine List.map_congr_left fun j hj => ?_
    have hj := List.mem_range.1 hj
    simp only [Function.comp, pieceOf, foldAt]
    rw [show 72 + (0 + 71 * j) = 72 + 71 * j by omega]
    congr 2
    omega
end Go.Proofs.YteadhiehhpafjaaDoor
