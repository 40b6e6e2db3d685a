/-
  The statements' fixed calls of layer 14. Conditions: none but a number in the library's variable.
-/
import Derived.Test.YteadhiehhpafjaaDoorNR
import Derived.Test.YteadhiehhpafjaaDoorNQ
import Derived.Lib.SlBytesConst
namespace Go.Proofs.YteadhiehhpafjaaDoor
open Go Go.RowKit
set_option maxRecDepth 100000

def lit1 : List UInt8 := [77, 97, 110, 105, 102, 101, 115, 116, 45, 86, 101, 114, 115, 105, 111, 110, 58, 32, 49, 46, 48, 10, 88, 58, 32, 97, 10, 32, 98, 10, 10, 78, 97, 109, 101, 58, 32, 113, 10]
def lit2 : List UInt8 := [88, 58, 32, 49, 10]
def lit3 : ByteArray := ⟨#[77, 97, 110, 105, 102, 101, 115, 116, 45, 86, 101, 114, 115, 105, 111, 110, 58, 32, 49, 46, 48, 13, 10, 88, 58, 32, 97, 98, 13, 10, 13, 10, 78, 97, 109, 101, 58, 32, 113, 13, 10, 13, 10]⟩
def fixMain : Sec := [(⟨#[77, 97, 110, 105, 102, 101, 115, 116, 45, 86, 101, 114, 115, 105, 111, 110]⟩, ⟨#[49, 46, 48]⟩), (⟨#[88]⟩, ⟨#[97, 98]⟩)]
def fixPart : Sec := [(⟨#[78, 97, 109, 101]⟩, ⟨#[113]⟩)]
theorem fix1 : parseP lit1 = (0, [fixMain, fixPart]) := by kernel_rfl
theorem fix2 : manErr fixMain [fixPart] = 0 := by kernel_rfl
theorem fix3 : tx (manText fixMain [fixPart]) = lit3 := by kernel_rfl
theorem fix4 : getM (smallM ⟨#[120]⟩) fixMain = some (⟨#[88]⟩, ⟨#[97, 98]⟩) := by kernel_rfl
theorem fix5 : parseP lit2 = (8, []) := by kernel_rfl
theorem fix6 : nameM ⟨#[97, 95, 45, 57]⟩ = true := by kernel_rfl
theorem fix7 : nameM ⟨#[45, 97]⟩ = false := by kernel_rfl

theorem seen_lit (w : World) (C : Array Value) (l : List UInt8) (fz : Nat × Nat) (n : Nat) (hC : C.toList = Lib.byteCells l) (hn : l.length = n) : Seen (w.alloc (.cells C 5 fz)) (w.heap.size + 1) 1 (some ⟨w.heap.size, 0, none⟩) n n (Lib.byteCells l) := by
  refine ⟨by rw [Lib.byteCells_length]; omega, Nat.le_refl _, .inr ⟨_, rfl, fun _ => ⟨rfl, by simp, fun j u hu => ?_⟩⟩⟩
  rw [cell_of_row _ w.heap.size _ C 5 fz (heap_alloc_new w _), Nat.zero_add, ← Array.getElem?_toList, hC]
  exact hu
theorem man_seen {W : World} {base z : Nat} {vm vp : Value} {main : Sec} {ps : List Sec} (h : ManOwn W base z vm vp (main :: ps)) : ManSeen W W.heap.size (.agg #[vm, vp]) main ps ∧ (∃ A c, vm = .slice A main.length c ∧ Seen W W.heap.size 2 A main.length c (pvs main)) := by
  rcases h with ⟨h, _, _⟩ | ⟨main', ps', rows, h1, h2, h3, h4, h5, h6, h7⟩
  · cases h
  · injection h1 with e1 e2
    subst e1; subst e2
    obtain ⟨A, c, rfl, _⟩ := own_form h3
    obtain ⟨A2, c2, rfl, _⟩ := own_form h5
    refine ⟨⟨A, c, A2, c2, rows, rfl, Seen.of_own h3, Seen.of_own h5, h7.1, fun i hi => ?_⟩, A, c, rfl, Seen.of_own h3⟩
    obtain ⟨v, a1, a2, a3⟩ := h7.2 i hi
    obtain ⟨A3, c3, rfl, _⟩ := own_form a2
    exact ⟨A3, c3, a1, Seen.of_own a2⟩

theorem ManSeen.below {w w' : World} {B : Nat} {v : Value} {main : Sec} {ps : List Sec} (h : ManSeen w B v main ps) (hb : Below B w w') : ManSeen w' B v main ps := by
  obtain ⟨A, c, A2, c2, rows, h1, h2, h3, h4⟩ := h
  exact ⟨A, c, A2, c2, rows, h1, h2.below hb, h3.below hb, h4.below hb⟩
theorem fixMain_small : Small fixMain := by
  refine ⟨by decide, ?_⟩
  intro p hp
  simp only [fixMain, List.mem_cons, List.mem_nil_iff, or_false] at hp
  rcases hp with rfl | rfl <;> decide
theorem fixPart_small : ∀ s ∈ [fixPart], Small s := by
  intro s hs
  rw [List.mem_singleton] at hs
  subst hs
  refine ⟨by decide, ?_⟩
  intro p hp
  simp only [fixPart, List.mem_singleton] at hp
  subst hp; decide

set_option maxHeartbeats 8000000 in
theorem fixed_any (m : Int) (w : World) (hm : w.cell? ⟨1, 0, none⟩ = some (.int .i64 m)) : Calls Tryd.prog 7 #[] w (Gives w (.bool true)) := by
  have h1w : 1 < w.heap.size := World.block_lt_of_cell? w ⟨1, 0, none⟩ hm
  have kc := fun (w : World) (C : Array Value) (n c : Nat) => Lib.run_convert_bytes_const (P := Tryd.prog) w 22 5 C n c Tryd.underlying22 Tryd.underlying5
  go_enter Tryd.func7, Tryd.ntmps7
  go_wp2_with (fail)
  refine (parse_any lit1 39 39 (w.heap.size + 1) (some ⟨w.heap.size, 0, none⟩) rfl (by decide) m _ ?hm1 (seen_lit w _ lit1 (39, 40) 39 (by kernel_rfl) rfl) (by simp)).mono ?_
  case hm1 => exact (World.cell?_of_block (a := ⟨1, 0, none⟩) (Below.heap_alloc _ _ _ h1w)).trans hm
  rintro e w1 ⟨vm, vp, rfl, b1, g1, g2⟩
  have B1 : Hid (Below w.heap.size w w1) := Lib.hid (((Below.refl w.heap.size w).alloc (Nat.le_refl _) _).trans (b1.mono (by simp)))
  have g3 := (g2 (by rw [fix1])).2
  rw [fix1] at g3 ⊢
  obtain ⟨hms, Am, cm, rfl, hsm⟩ := man_seen g3
  have hsl := man_slices g3
  obtain ⟨_, _, _, Ap, np, cp, _, rfl⟩ := hsl
  have HMS := Lib.hid hms
  have HSM := Lib.hid hsm
  clear g1 g2 g3 b1 hms hsm
  obtain ⟨w2, hw2⟩ : ∃ W, (w1.alloc (.cells #[.slice none 0 0, .slice none 0 0] 27)).setRow w1.heap.size #[.slice Am fixMain.length cm, .slice Ap np cp] = W := ⟨_, rfl⟩
  have ZW := Lib.hid (Whole.new w1 27 #[.slice none 0 0, .slice none 0 0])
  have W2 : Hid (Whole w2 w1.heap.size 27 #[.slice Am fixMain.length cm, .slice Ap np cp]) := Lib.hid (hw2 ▸ ZW.out.setRow _)
  have O2 : Hid (Only Nob w1 w2) := Lib.hid (hw2 ▸ Only.of_below (below_setRow ((Below.refl w1.heap.size w1).alloc (Nat.le_refl _) (.cells #[.slice none 0 0, .slice none 0 0] 27)) #[.slice Am fixMain.length cm, .slice Ap np cp] (Nat.le_refl _)) Nob)
  have PR := Lib.hid (print_any w1.heap.size (.agg #[.slice Am fixMain.length cm, .slice Ap np cp]) fixMain [fixPart] fixMain_small fixPart_small (by decide) w2 (HMS.out.below O2.out.nob_below) O2.out.size)
  unfold Prints at PR
  rw [fix2] at PR
  go_wp2_with (first | (refine wpList_store_row rfl 27 (.tmp 1) (.tmp 13) rfl w1.heap.size #[.slice Am fixMain.length cm, .slice Ap np cp] rfl rfl 27 #[.slice none 0 0, .slice none 0 0] ZW.out (man_size _ _) rfl (two_one (Am, fixMain.length, cm) (Ap, np, cp)) ?_) | ((try rw [hw2]); refine wpList_load_row rfl 27 (.tmp 1) rfl w1.heap.size rfl 27 #[.slice Am fixMain.length cm, .slice Ap np cp] (0, 0) _ W2.out Tryd.underlying27 rfl (man_size _ _) ?_))
  refine PR.out.mono ?_
  rintro e w3 ⟨b3, v3, rfl, _, h3⟩
  have h4 := h3 trivial
  obtain ⟨A3, c3, rfl, _⟩ := own_form h4
  have W3 := W2.out.bel b3
  have c30 := W3.cell 0
  simp only [List.getElem?_toArray, List.getElem?_cons_zero] at c30
  have S3 := Lib.hid (Seen.of_own h4)
  have SM3 := (HSM.out.below O2.out.nob_below).below (b3.mono O2.out.size)
  have GE := Lib.hid (get_any fixMain ⟨#[120]⟩ Am fixMain.length cm w1.heap.size rfl (by decide) (fun p hp => by have := (fixMain_small.2 p hp).1; omega) (by decide) w3 SM3 (Nat.le_trans O2.out.size b3.size))
  rw [fix4] at GE
  have B3 : Hid (Below w.heap.size w w3) := Lib.hid ((B1.out.trans (O2.out.nob_below.mono B1.out.size)).trans (b3.mono (Nat.le_trans B1.out.size O2.out.size)))
  clear h3 h4 W3 SM3 b3 hw2
  go_wp2_with (fail)
  refine GE.out.mono ?_
  rintro e w4 ⟨rfl, b4⟩
  simp only [getV]
  have S4 := Lib.hid (S3.out.below b4)
  have Z4 := Lib.hid b4.size
  have B4 : Hid (Below w.heap.size w w4) := Lib.hid (B3.out.trans (b4.mono B3.out.size))
  clear b4 c30
  go_wp2_with (fail)
  refine (parse_any lit2 5 5 (w4.heap.size + 1) (some ⟨w4.heap.size, 0, none⟩) rfl (by decide) m _ ?hm4 (seen_lit w4 _ lit2 (5, 6) 5 (by kernel_rfl) rfl) (by simp)).mono ?_
  case hm4 => exact (World.cell?_of_block (a := ⟨1, 0, none⟩) (Below.heap_alloc _ _ _ (by have := B4.out.size; show 1 < w4.heap.size; omega))).trans ((World.cell?_of_block (a := ⟨1, 0, none⟩) (B4.out.block 1 h1w)).trans hm)
  rintro e w5 ⟨vm5, vp5, rfl, b5, g5, _⟩
  obtain ⟨rfl, rfl⟩ := g5 (by rw [fix5]; decide)
  rw [fix5]
  have B45 : Below w4.heap.size w4 w5 := ((Below.refl w4.heap.size w4).alloc (Nat.le_refl _) _).trans (b5.mono (by simp))
  obtain ⟨w6, hw6⟩ : ∃ W, (w5.alloc (.cells #[.slice none 0 0, .slice none 0 0] 27)).setRow w5.heap.size #[.slice none 0 0, .slice none 0 0] = W := ⟨_, rfl⟩
  have ZW5 := Lib.hid (Whole.new w5 27 #[.slice none 0 0, .slice none 0 0])
  have O6 : Only Nob w5 w6 := hw6 ▸ Only.of_below (below_setRow ((Below.refl w5.heap.size w5).alloc (Nat.le_refl _) (.cells #[.slice none 0 0, .slice none 0 0] 27)) #[.slice none 0 0, .slice none 0 0] (Nat.le_refl _)) Nob
  have B46 : Below w4.heap.size w4 w6 := B45.trans (O6.nob_below.mono B45.size)
  have S6 := S4.out.below (B46.mono Z4.out)
  have B6 := Lib.hid (B4.out.trans (B46.mono B4.out.size))
  have cv := conv_bytes S6
  rw [fix3] at cv
  unfold lit3 at cv
  clear b5 g5 B45 O6 B46 S6
  go_wp2_with (first | (refine wpList_store_row rfl 27 (.tmp 7) (.tmp 30) rfl w5.heap.size #[.slice none 0 0, .slice none 0 0] rfl rfl 27 #[.slice none 0 0, .slice none 0 0] ZW5.out (man_size _ _) rfl nil_one ?_) | (go_at_call 17; refine (pname_any _ _ rfl (by decide) _).mono ?_; rintro e w7 ⟨rfl, b7⟩; (first | have B8 := Lib.hid (B7.out.trans (b7.mono B7.out.size)) | have B7 := Lib.hid (B6.out.trans (b7.mono B6.out.size))); clear b7; (first | rw [fix6] | rw [fix7])))
  go_ret
  exact ⟨rfl, B8.out⟩
end Go.Proofs.YteadhiehhpafjaaDoor
