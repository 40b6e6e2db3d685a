/-
  The walk of ManifestAgain. Conditions: a number in the library's variable.
-/
import Derived.Test.YteadhiehhpafjaaDoorQB
import Derived.Test.YteadhiehhpafjaaDoorPD
import Derived.BigQuiet
namespace Go.Proofs.YteadhiehhpafjaaDoor
open Go Go.RowKit
set_option maxRecDepth 100000

theorem man_nil (W : World) (B : Nat) : ManSeen W B (.agg #[.slice none 0 0, .slice none 0 0]) [] [] :=
  ⟨none, 0, none, 0, [], rfl, ⟨rfl, Nat.le_refl _, .inl ⟨rfl, rfl⟩⟩, ⟨rfl, Nat.le_refl _, .inl ⟨rfl, rfl⟩⟩, rfl, fun i hi => by cases hi⟩

theorem ManSeen.more {w : World} {B B' : Nat} {v : Value} {main : Sec} {ps : List Sec} (h : ManSeen w B v main ps) (hB : B ≤ B') : ManSeen w B' v main ps := by
  obtain ⟨A, c, A2, c2, rows, h1, h2, h3, h4⟩ := h
  exact ⟨A, c, A2, c2, rows, h1, h2.more hB, h3.more hB, h4.more2 hB⟩
set_option maxHeartbeats 8000000 in
theorem again_yes (l : List UInt8) (A : Option Addr) (n c : Nat) (hn : l.length = n) (m : Int) (w : World) (hm1 : w.cell? ⟨1, 0, none⟩ = some (.int .i64 m)) (hA : Seen w w.heap.size 1 A n c (Lib.byteCells l)) :
    Calls Tryd.prog 5 #[.slice A n c] w (Gives w (.bool true)) := by
  have h1w : 1 < w.heap.size := World.block_lt_of_cell? w ⟨1, 0, none⟩ hm1
  have FX := Lib.hid (fixed_any m w hm1)
  have HA := Lib.hid hA
  clear hA
  by_cases g1 : 1500 < n
  · have d1 : decide ((1500 : Int) < (n : Int)) = true := by rw [decide_eq_true_iff]; omega
    go_enter Tryd.func5, Tryd.ntmps5
    go_wp2_with (go_at_call 7; refine FX.out.mono ?_; rintro e w1 ⟨rfl, b1⟩)
    go_ret
    exact ⟨rfl, b1⟩
  have d1 : decide ((1500 : Int) < (n : Int)) = false := by rw [decide_eq_false_iff_not]; omega
  go_enter Tryd.func5, Tryd.ntmps5
  go_wp2_with (go_at_call 7; refine FX.out.mono ?_; rintro e w1 ⟨rfl, b1⟩)
  have hmA : ∀ W, Below w.heap.size w W → W.cell? ⟨1, 0, none⟩ = some (.int .i64 m) := fun W h => (World.cell?_of_block (a := ⟨1, 0, none⟩) (h.block 1 h1w)).trans hm1
  have HM := Lib.hid hmA
  have B1 := Lib.hid b1
  refine (parse_any l n c w1.heap.size A hn (by omega) m w1 (hmA _ b1) ((HA.out.below b1).more b1.size) (Nat.le_refl _)).mono ?_
  clear hmA b1
  rintro e w2 ⟨vm, vp, rfl, b2, g2, g3⟩
  obtain ⟨A1, n1, c1, A2, n2, c2, rfl, rfl⟩ := all_slices g2 g3
  have B2 : Hid (Below w.heap.size w w2) := Lib.hid (B1.out.trans (b2.mono B1.out.size))
  obtain ⟨w3, hw3⟩ : ∃ W, (w2.alloc (.cells #[.slice none 0 0, .slice none 0 0] 27)).setRow w2.heap.size #[.slice A1 n1 c1, .slice A2 n2 c2] = W := ⟨_, rfl⟩
  have ZW := Lib.hid (Whole.new w2 27 #[.slice none 0 0, .slice none 0 0])
  have W3 : Hid (Whole w3 w2.heap.size 27 #[.slice A1 n1 c1, .slice A2 n2 c2]) := Lib.hid (hw3 ▸ ZW.out.setRow _)
  have O3 : Hid (Below w2.heap.size w2 w3) := Lib.hid (hw3 ▸ below_setRow ((Below.refl w2.heap.size w2).alloc (Nat.le_refl _) (.cells #[.slice none 0 0, .slice none 0 0] 27)) #[.slice A1 n1 c1, .slice A2 n2 c2] (Nat.le_refl _))
  have B3 : Hid (Below w.heap.size w w3) := Lib.hid (B2.out.trans (O3.out.mono B2.out.size))
  clear b2
  by_cases hr : (parseP l).1 = 0
  rotate_left
  · obtain ⟨e1, e2⟩ := g2 hr
    injection e1 with e1 e3 e4
    injection e2 with e2 e5 e6
    subst e1 e2 e3 e4 e5 e6
    have hne : ((parseP l).1 != 0) = true := by rw [bne_iff_ne]; exact hr
    obtain ⟨r, hr2⟩ : ∃ r, (parseP l).1 = r := ⟨_, rfl⟩
    rw [hr2] at hne ⊢
    clear g2 g3 hr hr2
    go_wp2_with (first | (refine wpList_store_row rfl 27 (.tmp 3) (.tmp 19) rfl w2.heap.size #[.slice none 0 0, .slice none 0 0] rfl rfl 27 #[.slice none 0 0, .slice none 0 0] ZW.out (man_size _ _) rfl (two_one (none, 0, 0) (none, 0, 0)) ?_) | ((try rw [hw3]); refine wpList_load_row rfl 27 (.tmp 3) rfl w2.heap.size rfl 27 #[.slice none 0 0, .slice none 0 0] (0, 0) _ W3.out Tryd.underlying27 rfl (man_size _ _) ?_) | (go_at_call 10; refine (same_any 0 _ _ [] [] (by decide) (by simp) (by decide) _ (man_nil _ _) (man_nil _ _) (Nat.zero_le _)).mono ?_; rintro e w4 ⟨rfl, b4⟩))
    go_ret
    exact ⟨rfl, B3.out.trans (b4.mono B3.out.size)⟩
  · obtain ⟨main, ps, hps, hme, hsm, hsp, hpl, htl⟩ := parsed_ok (show parseP l = (0, (parseP l).2) from Prod.ext hr rfl) (by omega)
    have g4 := (g3 hr).2
    rw [hps] at g4
    obtain ⟨hms, _⟩ := man_seen g4
    have HMS := Lib.hid hms
    have hpp := parse_print main ps hme (by omega)
    obtain ⟨T, hT⟩ : ∃ T, manText main ps = T := ⟨_, rfl⟩
    obtain ⟨t, ht⟩ : ∃ t, T.length = t := ⟨_, rfl⟩
    have PR := Lib.hid (fun (B : Nat) (v : Value) (W : World) (hV : ManSeen W B v main ps) (hB : B ≤ W.heap.size) => print_any B v main ps hsm hsp hpl W hV hB)
    unfold Prints at PR
    rw [hme, hT, ht] at PR
    rw [hT] at hpp htl
    rw [ht] at htl
    have SM := Lib.hid (fun (B : Nat) (va vb : Value) (W : World) (h1 : ManSeen W B va main ps) (h2 : ManSeen W B vb main ps) (hB : B ≤ W.heap.size) => same_any B va vb main ps (by have := hsm.1; omega) (fun s hs => by have := (hsp s hs).1; omega) (by omega) W h1 h2 hB)
    rw [hr]
    have HPP := Lib.hid hpp
    have HT := Lib.hid ht
    clear g2 g3 hr g4 hms hsm hsp hpl hme hps hT hpp ht
    go_wp2_with (first | (refine wpList_store_row rfl 27 (.tmp 3) (.tmp 19) rfl w2.heap.size #[.slice A1 n1 c1, .slice A2 n2 c2] rfl rfl 27 #[.slice none 0 0, .slice none 0 0] ZW.out (man_size _ _) rfl (two_one (A1, n1, c1) (A2, n2, c2)) ?_) | ((try rw [hw3]); refine wpList_load_row rfl 27 (.tmp 3) rfl w2.heap.size rfl 27 #[.slice A1 n1 c1, .slice A2 n2 c2] (0, 0) _ W3.out Tryd.underlying27 rfl (man_size _ _) ?_))
    refine (PR.out w2.heap.size _ w3 (HMS.out.below O3.out) O3.out.size).mono ?_
    rintro e w4 ⟨b4, v4, rfl, _, h4⟩
    have h5 := h4 trivial
    obtain ⟨A4, c4, rfl, _⟩ := own_form h5
    have S4 := Lib.hid (Seen.of_own h5)
    have O4 := Lib.hid b4
    have B4 : Hid (Below w.heap.size w w4) := Lib.hid (B3.out.trans (b4.mono B3.out.size))
    clear h4 h5 b4 hw3
    go_wp2_with (fail)
    have PP := parse_any T t c4 w4.heap.size A4 HT.out (by omega) m w4 (HM.out _ B4.out) S4.out (Nat.le_refl _)
    rw [HPP.out] at PP
    refine PP.mono ?_
    clear PP
    rintro e w5 ⟨vm5, vp5, rfl, b5, _, g5⟩
    have g6 := (g5 rfl).2
    obtain ⟨A5, n5, c5, A6, n6, c6, rfl, rfl⟩ := man_slices g6
    obtain ⟨hms, _⟩ := man_seen g6
    have HMS5 := Lib.hid hms
    have O5 := Lib.hid b5
    have B5 : Hid (Below w.heap.size w w5) := Lib.hid (B4.out.trans (b5.mono B4.out.size))
    clear g5 g6 hms b5
    obtain ⟨w6, hw6⟩ : ∃ W, (w5.alloc (.cells #[.slice none 0 0, .slice none 0 0] 27)).setRow w5.heap.size #[.slice A5 n5 c5, .slice A6 n6 c6] = W := ⟨_, rfl⟩
    have ZW5 := Lib.hid (Whole.new w5 27 #[.slice none 0 0, .slice none 0 0])
    have W6 : Hid (Whole w6 w5.heap.size 27 #[.slice A5 n5 c5, .slice A6 n6 c6]) := Lib.hid (hw6 ▸ ZW5.out.setRow _)
    have O6 : Hid (Below w5.heap.size w5 w6) := Lib.hid (hw6 ▸ below_setRow ((Below.refl w5.heap.size w5).alloc (Nat.le_refl _) (.cells #[.slice none 0 0, .slice none 0 0] 27)) #[.slice A5 n5 c5, .slice A6 n6 c6] (Nat.le_refl _))
    have B6 : Hid (Below w.heap.size w w6) := Lib.hid (B5.out.trans (O6.out.mono B5.out.size))
    go_wp2_with (first | (refine wpList_store_row rfl 27 (.tmp 7) (.tmp 34) rfl w5.heap.size #[.slice A5 n5 c5, .slice A6 n6 c6] rfl rfl 27 #[.slice none 0 0, .slice none 0 0] ZW5.out (man_size _ _) rfl (two_one (A5, n5, c5) (A6, n6, c6)) ?_) | ((try rw [hw6]); refine wpList_load_row rfl 27 (.tmp 7) rfl w5.heap.size rfl 27 #[.slice A5 n5 c5, .slice A6 n6 c6] (0, 0) _ W6.out Tryd.underlying27 rfl (man_size _ _) ?_))
    refine (PR.out w5.heap.size _ w6 (HMS5.out.below O6.out) O6.out.size).mono ?_
    rintro e w7 ⟨b7, v7, rfl, _, h7⟩
    have h8 := h7 trivial
    obtain ⟨A7, c7, rfl, _⟩ := own_form h8
    have S7 := Lib.hid (Seen.of_own h8)
    have o34 := O4.out
    have o45 := O5.out
    have o56 := O6.out
    have cv1 := conv_bytes (((S4.out.below o45).below (o56.mono o45.size)).below (b7.mono (Nat.le_trans o45.size o56.size)))
    have cv2 := conv_bytes S7.out
    have W37 := (((W3.out.bel o34).bel o45).bel o56).bel b7
    have W67 := W6.out.bel b7
    have p0 := W37.cell 0
    have p1 := W37.cell 1
    have p2 := W67.cell 0
    have p3 := W67.cell 1
    simp only [List.getElem?_toArray, List.getElem?_cons_zero, List.getElem?_cons_succ] at p0 p1 p2 p3
    have M1 : ManSeen w7 w7.heap.size (.agg #[.slice A1 n1 c1, .slice A2 n2 c2]) main ps := (((((HMS.out.below O3.out).below (o34.mono O3.out.size)).below (o45.mono (Nat.le_trans O3.out.size o34.size))).below (o56.mono (Nat.le_trans O3.out.size (Nat.le_trans o34.size o45.size)))).below (b7.mono (Nat.le_trans O3.out.size (Nat.le_trans o34.size (Nat.le_trans o45.size o56.size))))).more (Nat.le_trans O3.out.size (Nat.le_trans o34.size (Nat.le_trans o45.size (Nat.le_trans o56.size b7.size))))
    have M2 : ManSeen w7 w7.heap.size (.agg #[.slice A5 n5 c5, .slice A6 n6 c6]) main ps := ((HMS5.out.below o56).below (b7.mono o56.size)).more (Nat.le_trans o56.size b7.size)
    have SX := Lib.hid (SM.out w7.heap.size _ _ w7 M1 M2 (Nat.le_refl _))
    have B7 : Hid (Below w.heap.size w w7) := Lib.hid (B6.out.trans (b7.mono B6.out.size))
    clear h7 h8 b7 o34 o45 o56 W37 W67 M1 M2 hw6
    go_wp2_with (go_at_call 10; refine SX.out.mono ?_; rintro e w8 ⟨rfl, b8⟩)
    go_ret
    exact ⟨rfl, B7.out.trans (b8.mono B7.out.size)⟩
end Go.Proofs.YteadhiehhpafjaaDoor
