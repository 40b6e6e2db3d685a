/-
  The program's Less. Conditions: rows of at most a hundred thousand bytes, and the library's greatest length as some number.
-/
import Derived.Test.YtdfliogomkpceaaDoorWJ
import Derived.Test.YtdfliogomkpceaaDoorWD
import Derived.Test.YtdfliogomkpceaaDoorS
namespace Go.Proofs.YtdfliogomkpceaaDoor
open Go Go.RowKit
set_option maxRecDepth 100000

theorem replace_any (l : List UInt8) (hl : l.length ≤ 100000) (m : Int) (w : World) (hm : w.cell? ⟨2, 0, none⟩ = some (.int .i64 m)) :
    Calls Tryd.prog 26 #[.string (tx l), .string ⟨#[192, 128]⟩, .string ⟨#[0]⟩] w (Gives w (.string (tx (ra l)))) := by
  have h1 : 1 ≤ (⟨#[192, 128]⟩ : ByteArray).size := by decide
  have hc := Lib.countB_le ⟨#[192, 128]⟩ h1 (tx l).size (tx l) (Nat.le_refl _)
  have hs := tx_size l
  have h2 : (⟨#[0]⟩ : ByteArray).size = 1 := rfl
  refine (Tryd.strings_ReplaceAll (tx l) ⟨#[192, 128]⟩ ⟨#[0]⟩ m w (by omega) hm h1 (by rw [h2]; omega)).mono ?_
  rintro e w' ⟨rfl, hb⟩
  refine ⟨?_, hb⟩
  rw [tx_list]
  show Ending.returned (.string (tx (Lib.replaceAll l zr [0]))) = _
  rw [ra_all]

set_option maxHeartbeats 8000000 in
theorem pLess_any (a b : List UInt8) (ha : a.length ≤ 100000) (hb : b.length ≤ 100000) (m : Int) (w : World) (hm : w.cell? ⟨2, 0, none⟩ = some (.int .i64 m)) :
    Calls Tryd.prog 16 #[.string (tx a), .string (tx b)] w (Gives w (.bool (lessM a b))) := by
  have CA := Lib.hid (fun W => right_any a a.length rfl ha W)
  have CB := Lib.hid (fun W => right_any b b.length rfl hb W)
  have H2 : 2 < w.heap.size := World.block_lt_of_cell? w _ hm
  obtain ⟨R, hR⟩ : ∃ r, lessM a b = r := ⟨_, rfl⟩
  rw [hR]
  unfold lessM at hR
  cases hua : unitsM a with
  | none =>
    rw [hua] at CA hR
    simp only at hR
    subst hR
    clear hua hm
    go_enter Tryd.func16, Tryd.ntmps16
    go_wp2_with (first | (go_at_call 9; refine (CA.out _).mono ?_; rintro e w1 ⟨rfl, rfl⟩))
    go_ret
    exact ⟨rfl, Below.refl _ _⟩
  | some x =>
    rw [hua] at CA hR
    cases hub : unitsM b with
    | none =>
      rw [hub] at CB hR
      simp only at hR
      subst hR
      clear hua hub hm
      go_enter Tryd.func16, Tryd.ntmps16
      go_wp2_with fail
      refine (CA.out _).mono ?_
      rintro e w1 ⟨rfl, rfl⟩
      go_wp2_with fail
      refine (CB.out _).mono ?_
      rintro e w1 ⟨rfl, rfl⟩
      go_wp2_with fail
      go_ret
      exact ⟨rfl, Below.refl _ _⟩
    | some y =>
      rw [hub] at CB hR
      simp only at hR
      obtain ⟨x1, x2⟩ := (units_iff a x).1 hua
      obtain ⟨y1, y2⟩ := (units_iff b y).1 hub
      have hr1 : ra a = rBs x := by rw [← x1, ra_units x x2]
      have hr2 : ra b = rBs y := by rw [← y1, ra_units y y2]
      rw [← rBs_lt x y x2 y2, ← hr1, ← hr2] at hR
      have CR := Lib.hid (fun W hW => replace_any a ha m W hW)
      have CR2 := Lib.hid (fun W hW => replace_any b hb m W hW)
      have HM := Lib.hid hm
      have HR := Lib.hid hR
      clear hua hub hm x1 x2 y1 y2 hr1 hr2 hR
      go_enter Tryd.func16, Tryd.ntmps16
      go_wp2_with fail
      refine (CA.out _).mono ?_
      rintro e w1 ⟨rfl, rfl⟩
      go_wp2_with fail
      refine (CB.out _).mono ?_
      rintro e w1 ⟨rfl, rfl⟩
      go_wp2_with fail
      refine (CR.out _ HM.out).mono ?_
      rintro e w1 ⟨rfl, b1⟩
      have HM1 := Lib.hid ((b1.cell (p := ⟨2, 0, none⟩) H2).trans HM.out)
      have HB1 := Lib.hid b1
      clear b1
      go_wp2_with fail
      refine (CR2.out _ HM1.out).mono ?_
      rintro e w2 ⟨rfl, b2⟩
      go_wp2_with fail
      go_ret
      refine ⟨?_, HB1.out.trans (b2.mono HB1.out.size)⟩
      have := HR.out
      rw [← this]
      show Ending.returned (.bool (Op.bytesLess (tx (ra a)).toList (tx (ra b)).toList)) = _
      rw [ByteArray.toList_eq, ByteArray.toList_eq, tx_list, tx_list]
end Go.Proofs.YtdfliogomkpceaaDoor
