/-
  The walk of ManifestReads. Conditions: a number in the library's variable.
-/
import Derived.Test.YteadhiehhpafjaaDoorQL
import Derived.Test.YteadhiehhpafjaaDoorQC
namespace Go.Proofs.YteadhiehhpafjaaDoor
open Go Go.RowKit
set_option maxRecDepth 100000

set_option maxHeartbeats 8000000 in
theorem reads_yes (l : List UInt8) (A : Option Addr) (n c : Nat) (hn : l.length = n) (m : Int) (w : World) (hm1 : w.cell? ⟨1, 0, none⟩ = some (.int .i64 m)) (hA : Seen w w.heap.size 1 A n c (Lib.byteCells l)) :
    Calls Tryd.prog 3 #[.slice A n c] w (Gives w (.bool true)) := by
  have h1w : 1 < w.heap.size := World.block_lt_of_cell? w ⟨1, 0, none⟩ hm1
  have FX := Lib.hid (fixed_any m w hm1)
  have HA := Lib.hid hA
  clear hA
  by_cases g1 : 1500 < n
  · have d1 : decide ((1500 : Int) < (n : Int)) = true := by rw [decide_eq_true_iff]; omega
    go_enter Tryd.func3, Tryd.ntmps3
    go_wp2_with (go_at_call 7; refine FX.out.mono ?_; rintro e w1 ⟨rfl, b1⟩)
    go_ret
    exact ⟨rfl, b1⟩
  have d1 : decide ((1500 : Int) < (n : Int)) = false := by rw [decide_eq_false_iff_not]; omega
  go_enter Tryd.func3, Tryd.ntmps3
  go_wp2_with (go_at_call 7; refine FX.out.mono ?_; rintro e w1 ⟨rfl, b1⟩)
  have hmA : ∀ W, Below w.heap.size w W → W.cell? ⟨1, 0, none⟩ = some (.int .i64 m) := fun W h => (World.cell?_of_block (a := ⟨1, 0, none⟩) (h.block 1 h1w)).trans hm1
  have B1 := Lib.hid b1
  refine (parse_any l n c w1.heap.size A hn (by omega) m w1 (hmA _ b1) ((HA.out.below b1).more b1.size) (Nat.le_refl _)).mono ?_
  clear hmA b1
  rintro e w2 ⟨vm, vp, rfl, b2, g2, g3⟩
  obtain ⟨A1, n1, c1, A2, n2, c2, rfl, rfl⟩ := all_slices g2 g3
  have B2 : Hid (Below w.heap.size w w2) := Lib.hid (B1.out.trans (b2.mono B1.out.size))
  obtain ⟨w3, hw3⟩ : ∃ W, (w2.alloc (.cells #[.slice none 0 0, .slice none 0 0] 27)).setRow w2.heap.size #[.slice A1 n1 c1, .slice A2 n2 c2] = W := ⟨_, rfl⟩
  have ZW := Lib.hid (Whole.new w2 27 #[.slice none 0 0, .slice none 0 0])
  have W3 : Hid (Whole w3 w2.heap.size 27 #[.slice A1 n1 c1, .slice A2 n2 c2]) := Lib.hid (hw3 ▸ ZW.out.setRow _)
  have O3 : Hid (Below w2.heap.size w2 w3) := Lib.hid (hw3 ▸ below_setRow ((Below.refl w2.heap.size w2).alloc (Nat.le_refl _) (.cells #[.slice none 0 0, .slice none 0 0] 27)) #[.slice A1 n1 c1, .slice A2 n2 c2] (Nat.le_refl _))
  have B3 : Hid (Below w.heap.size w w3) := Lib.hid (B2.out.trans (O3.out.mono B2.out.size))
  have G2 := Lib.hid g2
  have G3 := Lib.hid g3
  clear b2 g2 g3
  obtain ⟨R, hR⟩ : ∃ R, parseP l = R := ⟨_, rfl⟩
  have DP := Lib.hid (dparse_any l n c w.heap.size A hn (by omega) w3 (HA.out.below B3.out) B3.out.size)
  have hok : R.1 = 0 → ∃ main ps, R.2 = main :: ps ∧ Small main ∧ (∀ s ∈ ps, Small s) ∧ ps.length ≤ 500 := by
    intro h
    obtain ⟨main, ps, h1, _, h3, h4, h5, _⟩ := parsed_ok (show parseP l = (0, (parseP l).2) from Prod.ext (by rw [hR]; exact h) rfl) (by omega)
    exact ⟨main, ps, by rw [← hR]; exact h1, h3, h4, h5⟩
  rw [hR] at G2 G3 DP
  rw [hR]
  have HOK := Lib.hid hok
  clear hok hR
  obtain ⟨r, acc⟩ := R
  simp only at *
  have hrr : (r == r) = true := by simp
  go_wp2_with (refine wpList_store_row rfl 27 (.tmp 3) (.tmp 15) rfl w2.heap.size #[.slice A1 n1 c1, .slice A2 n2 c2] rfl rfl 27 #[.slice none 0 0, .slice none 0 0] ZW.out (man_size _ _) rfl (two_one (A1, n1, c1) (A2, n2, c2)) ?_; (try rw [hw3]))
  refine DP.out.mono ?_
  rintro e w4 ⟨A3, n3, c3, A4, n4, c4, rfl, b4, g4, g5⟩
  have B4 : Hid (Below w.heap.size w w4) := Lib.hid (B3.out.trans (b4.mono B3.out.size))
  obtain ⟨w5, hw5⟩ : ∃ W, (w4.alloc (.cells #[.slice none 0 0, .slice none 0 0] 27)).setRow w4.heap.size #[.slice A3 n3 c3, .slice A4 n4 c4] = W := ⟨_, rfl⟩
  have ZW4 := Lib.hid (Whole.new w4 27 #[.slice none 0 0, .slice none 0 0])
  have W5 : Hid (Whole w5 w4.heap.size 27 #[.slice A3 n3 c3, .slice A4 n4 c4]) := Lib.hid (hw5 ▸ ZW4.out.setRow _)
  have O5 : Hid (Below w4.heap.size w4 w5) := Lib.hid (hw5 ▸ below_setRow ((Below.refl w4.heap.size w4).alloc (Nat.le_refl _) (.cells #[.slice none 0 0, .slice none 0 0] 27)) #[.slice A3 n3 c3, .slice A4 n4 c4] (Nat.le_refl _))
  have B5 : Hid (Below w.heap.size w w5) := Lib.hid (B4.out.trans (O5.out.mono B4.out.size))
  have V5 : Hid (Whole w5 w2.heap.size 27 #[.slice A1 n1 c1, .slice A2 n2 c2]) := Lib.hid ((W3.out.bel b4).bel O5.out)
  have SM : Hid (Calls Tryd.prog 10 #[.agg #[.slice A1 n1 c1, .slice A2 n2 c2], .agg #[.slice A3 n3 c3, .slice A4 n4 c4]] w5 (Gives w5 (.bool true))) := Lib.hid (by
    by_cases hr : r = 0
    · obtain ⟨main, ps, h1, h2, h3, h4⟩ := HOK.out hr
      have k1 := (G3.out hr).2
      rw [h1] at k1
      obtain ⟨k2, _⟩ := man_seen k1
      obtain ⟨main', ps', h5, k3⟩ := g5 hr
      rw [h1] at h5
      obtain ⟨rfl, rfl⟩ := List.cons.inj h5
      have o34 := b4
      refine same_any w5.heap.size _ _ main ps (by have := h2.1; omega) (fun s hs => by have := (h3 s hs).1; omega) (by omega) w5 ?_ ?_ (Nat.le_refl _)
      · exact (((k2.below O3.out).below (b4.mono O3.out.size)).below (O5.out.mono (Nat.le_trans O3.out.size b4.size))).more (Nat.le_trans O3.out.size (Nat.le_trans b4.size O5.out.size))
      · exact (k3.below O5.out).more O5.out.size
    · obtain ⟨e1, e2⟩ := G2.out hr
      obtain ⟨e3, e4⟩ := g4 hr
      rw [e1, e2, e3, e4]
      exact same_any 0 _ _ [] [] (by decide) (by simp) (by decide) _ (man_nil _ _) (man_nil _ _) (Nat.zero_le _))
  have p0 := V5.out.cell 0
  have p1 := V5.out.cell 1
  have p2 := W5.out.cell 0
  have p3 := W5.out.cell 1
  simp only [List.getElem?_toArray, List.getElem?_cons_zero, List.getElem?_cons_succ] at p0 p1 p2 p3
  clear g4 g5 b4
  go_wp2_with (first | (refine wpList_store_row rfl 27 (.tmp 5) (.tmp 20) rfl w4.heap.size #[.slice A3 n3 c3, .slice A4 n4 c4] rfl rfl 27 #[.slice none 0 0, .slice none 0 0] ZW4.out (man_size _ _) rfl (two_one (A3, n3, c3) (A4, n4, c4)) ?_; (try rw [hw5])) | (refine wpList_load_row rfl 27 (.tmp 3) rfl w2.heap.size rfl 27 #[.slice A1 n1 c1, .slice A2 n2 c2] (0, 0) _ V5.out Tryd.underlying27 rfl (man_size _ _) ?_) | (refine wpList_load_row rfl 27 (.tmp 5) rfl w4.heap.size rfl 27 #[.slice A3 n3 c3, .slice A4 n4 c4] (0, 0) _ W5.out Tryd.underlying27 rfl (man_size _ _) ?_) | (go_at_call 10; refine SM.out.mono ?_; rintro e w6 ⟨rfl, b6⟩))
  go_ret
  exact ⟨rfl, B5.out.trans (b6.mono B5.out.size)⟩
end Go.Proofs.YteadhiehhpafjaaDoor
