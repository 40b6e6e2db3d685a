/-
  Mathematics of a manifest's text: sections and lines parted; what is folded, put together. Nothing of the program's memory.
-/
import Derived.Test.YteadhiehhpafjaaDoorPA
import Derived.Test.YteadhiehhpafjaaDoorNT
namespace Go.Proofs.YteadhiehhpafjaaDoor
open Go Go.RowKit
set_option maxRecDepth 100000

/-- Lines that are not empty, one feed between two. -/
def sj : List (List UInt8) → List UInt8
  | [] => []
  | [l] => l
  | l :: m :: r => l ++ 10 :: sj (m :: r)
def Full (ls : List (List UInt8)) : Prop := ∀ l ∈ ls, l ≠ [] ∧ 10 ∉ l
theorem Full.tail {l : List UInt8} {ls : List (List UInt8)} (h : Full (l :: ls)) : Full ls := fun a ha => h a (List.mem_cons_of_mem _ ha)
theorem joinN_sj : ∀ (l : List UInt8) (ls : List (List UInt8)), joinN (l :: ls) = sj (l :: ls) ++ [10]
  | l, [] => by simp [joinN, sj]
  | l, m :: r => by rw [joinN_cons, joinN_sj m r, sj, List.append_assoc, List.cons_append]
theorem sj_head (l : List UInt8) (ls : List (List UInt8)) (h : Full (l :: ls)) : ∃ z t, sj (l :: ls) = z :: t ∧ z ≠ 10 := by
  obtain ⟨h1, h2⟩ := h l (List.mem_cons_self ..)
  obtain ⟨z, t, rfl⟩ := List.exists_cons_of_ne_nil h1
  have hz : z ≠ 10 := fun e => h2 (by rw [← e]; exact List.mem_cons_self ..)
  cases ls with
  | nil => exact ⟨z, t, rfl, hz⟩
  | cons m r => exact ⟨z, t ++ 10 :: sj (m :: r), rfl, hz⟩
theorem sj_last : ∀ (l : List UInt8) (ls : List (List UInt8)), Full (l :: ls) → ∃ t z, sj (l :: ls) = t ++ [z] ∧ z ≠ 10
  | l, [], h => by
    obtain ⟨h1, h2⟩ := h l (List.mem_cons_self ..)
    refine ⟨l.dropLast, l.getLast h1, (List.dropLast_concat_getLast h1).symm, fun e => h2 ?_⟩
    rw [← e]; exact List.getLast_mem h1
  | l, m :: r, h => by
    obtain ⟨t, z, e, hz⟩ := sj_last m r h.tail
    exact ⟨l ++ 10 :: t, z, by rw [sj, e]; simp, hz⟩
theorem trim_sj (l : List UInt8) (ls : List (List UInt8)) (h : Full (l :: ls)) : Lib.trimB (sj (l :: ls)) 10 = sj (l :: ls) := by
  obtain ⟨t, z, e, hz⟩ := sj_last l ls h
  have e1 : Lib.trimRightB (sj (l :: ls)) 10 = sj (l :: ls) := by
    unfold Lib.trimRightB
    rw [e, List.reverse_append, List.reverse_singleton, List.singleton_append, List.dropWhile_cons_of_neg (by simpa using hz)]
    simp
  unfold Lib.trimB
  rw [e1]
  obtain ⟨z, t, e, hz⟩ := sj_head l ls h
  unfold Lib.trimLeftB
  rw [e, List.dropWhile_cons_of_neg (by simpa using hz)]

theorem pre_ne {a c : UInt8} {sub l : List UInt8} (h : a ≠ c) : (c :: sub).isPrefixOf (a :: l) = false := by
  rw [Bool.eq_false_iff]
  intro hp
  simp only [List.isPrefixOf, Bool.and_eq_true, beq_iff_eq] at hp
  exact h hp.1.symm
/-- Nothing of the pattern's first byte stands ahead. -/
theorem index_ahead {c : UInt8} {sub : List UInt8} {t : List UInt8} {k : Nat} (hk : Lib.index t (c :: sub) = k) : ∀ l : List UInt8, c ∉ l → Lib.index (l ++ t) (c :: sub) = ((l.length + k : Nat) : Int)
  | [], _ => by rw [List.nil_append, hk]; simp
  | a :: l, h => by
    have ih := index_ahead hk l fun e => h (List.mem_cons_of_mem _ e)
    rw [List.cons_append, index_miss (pre_ne fun e : a = c => h (by rw [← e]; exact List.mem_cons_self ..)), ih, if_neg (by omega), List.length_cons]
    omega
theorem index_without {c : UInt8} {sub : List UInt8} : ∀ l : List UInt8, c ∉ l → Lib.index l (c :: sub) = -1
  | [], _ => rfl
  | a :: l, h => by
    rw [index_miss (pre_ne fun e : a = c => h (by rw [← e]; exact List.mem_cons_self ..)), index_without l fun e => h (List.mem_cons_of_mem _ e), if_pos rfl]
theorem index_gap (r : List UInt8) : ∀ (l : List UInt8) (ls : List (List UInt8)), Full (l :: ls) → Lib.index (sj (l :: ls) ++ 10 :: 10 :: r) [10, 10] = ((sj (l :: ls)).length : Nat)
  | l, [], h => by
    have := index_ahead (c := 10) (sub := [10]) (t := 10 :: 10 :: r) (k := 0) (by simp [Lib.index, List.isPrefixOf]) l (h l (List.mem_cons_self ..)).2
    simpa [sj] using this
  | l, m :: s, h => by
    have ih := index_gap r m s h.tail
    obtain ⟨z, t, e, hz⟩ := sj_head m s h.tail
    have h1 : Lib.index (10 :: (sj (m :: s) ++ 10 :: 10 :: r)) [10, 10] = (((sj (m :: s)).length + 1 : Nat) : Int) := by
      rw [index_miss, ih, if_neg (by omega)]
      · rfl
      · rw [e, List.cons_append]; exact pre_two fun e2 => hz e2.2
    have := index_ahead h1 l (h l (List.mem_cons_self ..)).2
    rw [sj, List.append_assoc, List.cons_append, this]
    simp
theorem spl_hit {sep a r : List UInt8} (h : Lib.index (a ++ sep ++ r) sep = (a.length : Nat)) (k : Nat) : splF sep (k + 1) (a ++ sep ++ r) = a :: splF sep k r := by
  rw [splF, if_neg (by omega), h]
  have e1 : (a ++ sep ++ r).take ((a.length : Int)).toNat = a := by rw [List.append_assoc]; simp
  have e2 : (a ++ sep ++ r).drop (((a.length : Int)).toNat + sep.length) = r := by
    rw [show ((a.length : Int)).toNat + sep.length = (a ++ sep).length by simp]; simp
  rw [e1, e2]
theorem spl_none {sep s : List UInt8} (h : Lib.index s sep = -1) : ∀ k, splF sep k s = [s]
  | 0 => rfl
  | k + 1 => by rw [splF, if_pos h]
/-- The sections of a text. -/
theorem spl_secs : ∀ (gs : List (List (List UInt8))) (k : Nat), (∀ g ∈ gs, g ≠ [] ∧ Full g) → gs.length ≤ k → splF [10, 10] k (gs.flatMap fun g => sj g ++ [10, 10]) = gs.map sj ++ [[]]
  | [], k, _, _ => spl_none rfl k
  | g :: gs, k, h, hk => by
    obtain ⟨k, rfl⟩ : ∃ j, k = j + 1 := ⟨k - 1, by simp at hk; omega⟩
    obtain ⟨h1, h2⟩ := h g (List.mem_cons_self ..)
    obtain ⟨l, ls, rfl⟩ := List.exists_cons_of_ne_nil h1
    rw [List.flatMap_cons]
    have hi := index_gap (gs.flatMap fun g => sj g ++ [10, 10]) l ls h2
    have e : sj (l :: ls) ++ 10 :: 10 :: (gs.flatMap fun g => sj g ++ [10, 10]) = sj (l :: ls) ++ [10, 10] ++ (gs.flatMap fun g => sj g ++ [10, 10]) := by simp
    rw [e] at hi
    rw [spl_hit hi, spl_secs gs k (fun x hx => h x (List.mem_cons_of_mem _ hx)) (by simpa using hk)]
    rfl
theorem spl_lines : ∀ (l : List UInt8) (ls : List (List UInt8)) (k : Nat), Full (l :: ls) → ls.length ≤ k → splF [10] k (sj (l :: ls)) = l :: ls
  | l, [], k, h, _ => spl_none (index_without l (h l (List.mem_cons_self ..)).2) k
  | l, m :: r, k, h, hk => by
    obtain ⟨k, rfl⟩ : ∃ j, k = j + 1 := ⟨k - 1, by simp at hk; omega⟩
    have hi := index_ahead (c := 10) (sub := []) (t := 10 :: sj (m :: r)) (k := 0) (by simp [Lib.index, List.isPrefixOf]) l (h l (List.mem_cons_self ..)).2
    have e : l ++ 10 :: sj (m :: r) = l ++ [10] ++ sj (m :: r) := by simp
    rw [e] at hi
    rw [sj, e, spl_hit (by simpa using hi), spl_lines m r k h.tail (by simpa using hk)]
theorem sj_len : ∀ (l : List UInt8) (ls : List (List UInt8)), ls.length ≤ (sj (l :: ls)).length
  | l, [] => by simp
  | l, m :: r => by
    have := sj_len m r
    rw [sj]; simp only [List.length_append, List.length_cons] at this ⊢; omega
theorem spl_sj (l : List UInt8) (ls : List (List UInt8)) (h : Full (l :: ls)) : splL [10] (sj (l :: ls)) = l :: ls := spl_lines l ls _ h (sj_len l ls)

/-- The pieces of a chunked row, put together. -/
theorem ch_flat (R : List UInt8) : ∀ (k i : Nat), R.length - i ≤ k → ((chF 71 R.length k i).map fun p => (R.drop p.1).take p.2).flatten = R.drop i
  | 0, i, h => by rw [chF, List.drop_eq_nil_of_le (by omega)]; rfl
  | k + 1, i, h => by
    rw [chF]
    split
    · rename_i hi
      rw [List.map_cons, List.flatten_cons, ch_flat R k (i + 71) (by omega)]
      have e : (R.drop i).take (min 71 (R.length - i)) = (R.drop i).take 71 := by
        rcases Nat.le_total 71 (R.length - i) with h1 | h1
        · rw [Nat.min_eq_left h1]
        · rw [Nat.min_eq_right h1, List.take_of_length_le (by simp), List.take_of_length_le (by simp; omega)]
      rw [e, ← List.drop_drop, List.take_append_drop]
    · rw [List.drop_eq_nil_of_le (by omega)]; rfl
/-- A fold's first line, and what stands behind the blanks. -/
def foldF (s : List UInt8) : List UInt8 := s.take 72
def foldQ (s : List UInt8) : List (List UInt8) := (chF 71 (s.length - 72) (s.length - 72) 0).map fun p => ((s.drop 72).drop p.1).take p.2
theorem fold_whole (s : List UInt8) : foldF s ++ (foldQ s).flatten = s := by
  have h := ch_flat (s.drop 72) (s.length - 72) 0 (by simp)
  simp only [List.length_drop, List.drop_zero] at h
  rw [foldF, foldQ, h, List.take_append_drop]
theorem foldQ_mem (s : List UInt8) : ∀ q ∈ foldQ s, q ≠ [] ∧ q.length ≤ 71 ∧ ∀ x ∈ q, x ∈ s := by
  intro q hq
  obtain ⟨p, hp, rfl⟩ := List.mem_map.1 hq
  obtain ⟨h1, h2, h3⟩ := chF_mem 71 (s.length - 72) (by omega) _ _ p hp
  refine ⟨fun e => ?_, by rw [List.length_take]; omega, fun x hx => List.mem_of_mem_drop (List.mem_of_mem_drop (List.mem_of_mem_take hx))⟩
  have := congrArg List.length e
  simp at this
  omega
theorem pfold_lists (s : ByteArray) : (pfoldL s).map (fun a => a.data.toList) = foldF s.data.toList :: (foldQ s.data.toList).map fun q => 32 :: q := by
  have hs : s.data.toList.length = s.size := rfl
  rw [pfoldL, List.map_cons, foldF, foldQ, List.map_map, List.map_map, hs]
  have e0 : (s.extract 0 (min s.size 72)).data.toList = s.data.toList.take 72 := by
    have : (s.extract 0 (min s.size 72)).data = s.data.extract 0 (min s.size 72) := by simp
    rw [this, Array.toList_extract, List.extract_eq_take_drop]
    rcases Nat.le_total s.size 72 with h1 | h1
    · rw [Nat.min_eq_left h1, List.take_of_length_le (by rw [List.length_drop, hs]; omega), List.take_of_length_le (by rw [hs]; exact h1)]; rfl
    · rw [Nat.min_eq_right h1]; rfl
  rw [e0]
  congr 1
  refine List.map_congr_left fun p hp => ?_
  show (pieceOf s p).data.toList = 32 :: _
  have e1 : (s.extract (72 + p.1) (72 + p.1 + p.2)).data.toList = ((s.data.toList.drop 72).drop p.1).take p.2 := by
    have : (s.extract (72 + p.1) (72 + p.1 + p.2)).data = s.data.extract (72 + p.1) (72 + p.1 + p.2) := by simp
    rw [this, Array.toList_extract, List.extract_eq_take_drop, List.drop_drop]
    congr 1
    omega
  rw [pieceOf, ByteArray.data_append, Array.toList_append, e1]
  rfl
end Go.Proofs.YteadhiehhpafjaaDoor
