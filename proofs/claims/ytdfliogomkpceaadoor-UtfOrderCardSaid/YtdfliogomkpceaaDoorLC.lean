/-
  UtfOrder's walk. Conditions: unicode/utf8's tables as they are laid, and the library's greatest length as some number.
-/
import Derived.Test.YtdfliogomkpceaaDoorLA
namespace Go.Proofs.YtdfliogomkpceaaDoor
open Go Go.RowKit
set_option maxRecDepth 100000

theorem bl_self : ∀ x : List UInt8, Op.bytesLess x x = false
  | [] => rfl
  | a :: x => by rw [bl_cons, if_neg (Nat.lt_irrefl _), if_pos rfl, bl_self x]
theorem less_self (a : List UInt8) : lessM a a = false := by
  unfold lessM
  cases unitsM a with
  | none => exact bl_self _
  | some x => exact ltU_self x

set_option maxHeartbeats 16000000 in
theorem order_yes (a b c : List UInt8) (na nb nc : Nat) (hna : a.length = na) (hnb : b.length = nb) (hnc : c.length = nc) (ha : na ≤ 9223372036854775807) (hb : nb ≤ 9223372036854775807) (hc : nc ≤ 9223372036854775807) (m : Int) (w : World) (hw : Fit m w) :
    Calls Tryd.prog 5 #[.string (tx a), .string (tx b), .string (tx c)] w (Gives w (.bool true)) := by
  have CF := Lib.hid (fixed_any m w hw)
  have sa : (tx a).size = na := by rw [tx_size, hna]
  have sb : (tx b).size = nb := by rw [tx_size, hnb]
  have sc : (tx c).size = nc := by rw [tx_size, hnc]
  by_cases g1 : 200 < na
  · have d1 : decide ((200 : Int) < (na : Int)) = true := by rw [decide_eq_true_iff]; omega
    go_enter Tryd.func5, Tryd.ntmps5
    go_wp2_with (go_at_call 6; refine CF.out.mono ?_; rintro e w1 ⟨rfl, b1⟩)
    go_ret
    exact ⟨rfl, b1⟩
  have d1 : decide ((200 : Int) < (na : Int)) = false := by rw [decide_eq_false_iff_not]; omega
  by_cases g2 : 200 < nb
  · have d2 : decide ((200 : Int) < (nb : Int)) = true := by rw [decide_eq_true_iff]; omega
    go_enter Tryd.func5, Tryd.ntmps5
    go_wp2_with (go_at_call 6; refine CF.out.mono ?_; rintro e w1 ⟨rfl, b1⟩)
    go_ret
    exact ⟨rfl, b1⟩
  have d2 : decide ((200 : Int) < (nb : Int)) = false := by rw [decide_eq_false_iff_not]; omega
  by_cases g3 : 200 < nc
  · have d3 : decide ((200 : Int) < (nc : Int)) = true := by rw [decide_eq_true_iff]; omega
    go_enter Tryd.func5, Tryd.ntmps5
    go_wp2_with (go_at_call 6; refine CF.out.mono ?_; rintro e w1 ⟨rfl, b1⟩)
    go_ret
    exact ⟨rfl, b1⟩
  have d3 : decide ((200 : Int) < (nc : Int)) = false := by rw [decide_eq_false_iff_not]; omega
  have HW := Lib.hid hw
  have CAB := Lib.hid (fun W (h : Fit m W) => pLess_any a b (by omega) (by omega) m W h.most)
  have CBA := Lib.hid (fun W (h : Fit m W) => pLess_any b a (by omega) (by omega) m W h.most)
  have CAC := Lib.hid (fun W (h : Fit m W) => pLess_any a c (by omega) (by omega) m W h.most)
  have CBC := Lib.hid (fun W (h : Fit m W) => pLess_any b c (by omega) (by omega) m W h.most)
  have CAA := Lib.hid (fun W (h : Fit m W) => pLess_any a a (by omega) (by omega) m W h.most)
  have DAB := Lib.hid (fun W => less_any a b (by omega) (by omega) W)
  have RA := Lib.hid (fun W => right_any a na hna (by omega) W)
  have RB := Lib.hid (fun W => right_any b nb hnb (by omega) W)
  have RC := Lib.hid (fun W => right_any c nc hnc (by omega) W)
  rw [less_self a] at CAA
  have INJ := Lib.hid (tx_inj (a := a) (b := b))
  obtain ⟨Sa, hSa⟩ : ∃ S, tx a = S := ⟨_, rfl⟩
  obtain ⟨Sb, hSb⟩ : ∃ S, tx b = S := ⟨_, rfl⟩
  obtain ⟨Sc, hSc⟩ : ∃ S, tx c = S := ⟨_, rfl⟩
  rw [hSa] at CAB CBA CAC CAA DAB RA INJ sa
  rw [hSb] at CAB CBA CBC DAB RB INJ sb
  rw [hSc] at CAC CBC RC sc
  rw [hSa, hSb, hSc]
  clear hSa hSb hSc hna hnb hnc ha hb hc g1 g2 g3
  obtain ⟨r, hr⟩ : ∃ r, lessM a b = r := ⟨_, rfl⟩
  rw [hr] at CAB DAB
  have HRR := Lib.hid hr
  have hrr : (r != r) = false := by cases r <;> rfl
  clear hr
  go_enter Tryd.func5, Tryd.ntmps5
  go_wp2_with fail
  refine CF.out.mono ?_
  rintro e w1 ⟨rfl, b1⟩
  have B1 := Lib.hid b1
  clear b1
  go_wp2_with fail
  refine (CAB.out _ (HW.out.below B1.out)).mono ?_
  rintro e w2 ⟨rfl, b2⟩
  have B2 := Lib.hid (B1.out.trans (b2.mono B1.out.size))
  clear b2
  go_wp2_with fail
  refine (DAB.out _).mono ?_
  rintro e w3 ⟨rfl, b3⟩
  have B3 := Lib.hid (B2.out.trans (b3.mono B2.out.size))
  clear b3
  go_wp2_with fail
  refine (CAA.out _ (HW.out.below B3.out)).mono ?_
  rintro e w4 ⟨rfl, b4⟩
  have B4 := Lib.hid (B3.out.trans (b4.mono B3.out.size))
  clear b4
  cases hua : unitsM a with
  | none =>
    rw [hua] at RA
    clear hua
    go_wp2_with fail
    refine (RA.out _).mono ?_
    rintro e w5 ⟨rfl, rfl⟩
    go_wp2_with fail
    go_ret
    exact ⟨rfl, B4.out⟩
  | some ua =>
    rw [hua] at RA
    have HUa := Lib.hid hua
    clear hua
    go_wp2_with fail
    refine (RA.out _).mono ?_
    rintro e w5 ⟨rfl, rfl⟩
    cases hub : unitsM b with
    | none =>
      rw [hub] at RB
      clear hub
      go_wp2_with fail
      refine (RB.out _).mono ?_
      rintro e w5 ⟨rfl, rfl⟩
      go_wp2_with fail
      go_ret
      exact ⟨rfl, B4.out⟩
    | some ub =>
      rw [hub] at RB
      have HUb := Lib.hid hub
      clear hub
      go_wp2_with fail
      refine (RB.out _).mono ?_
      rintro e w5 ⟨rfl, rfl⟩
      cases huc : unitsM c with
      | none =>
        rw [huc] at RC
        clear huc
        go_wp2_with fail
        refine (RC.out _).mono ?_
        rintro e w5 ⟨rfl, rfl⟩
        go_wp2_with fail
        go_ret
        exact ⟨rfl, B4.out⟩
      | some uc =>
        rw [huc] at RC
        have HUc := Lib.hid huc
        clear huc
        go_wp2_with fail
        refine (RC.out _).mono ?_
        rintro e w5 ⟨rfl, rfl⟩
        have hl1 : ∀ {p q : List UInt8} {x y : List Nat}, unitsM p = some x → unitsM q = some y → lessM p q = ltU x y := fun h1 h2 => by unfold lessM; rw [h1, h2]
        rw [hl1 HUb.out HUa.out] at CBA
        rw [hl1 HUa.out HUc.out] at CAC
        rw [hl1 HUb.out HUc.out] at CBC
        have hab := HRR.out
        rw [hl1 HUa.out HUb.out] at hab
        clear hl1
        have HAB := Lib.hid hab
        clear hab HRR
        cases r with
        | true =>
          go_wp2_with fail
          refine (CAB.out _ (HW.out.below B4.out)).mono ?_
          rintro e w5 ⟨rfl, b5⟩
          have B5 := Lib.hid (B4.out.trans (b5.mono B4.out.size))
          clear b5
          go_wp2_with fail
          go_ret
          exact ⟨rfl, B5.out⟩
        | false =>
          have hba := ltU_total ua ub HAB.out
          by_cases hxy : ua = ub
          · rw [decide_eq_false (by simp [hxy])] at hba
            have heq : Sa = Sb := INJ.out.2 (by rw [← ((units_iff a ua).1 HUa.out).1, ← ((units_iff b ub).1 HUb.out).1, hxy])
            have hse : (Sa.toList == Sb.toList) = true := by rw [heq]; simp
            have hse2 : (Sa.toList != Sb.toList) = false := by rw [bne, hse]; rfl
            rw [hba] at CBA
            clear hba heq hxy
            go_wp2_with fail
            refine (CAB.out _ (HW.out.below B4.out)).mono ?_
            rintro e w5 ⟨rfl, b5⟩
            have B5 := Lib.hid (B4.out.trans (b5.mono B4.out.size))
            clear b5
            go_wp2_with fail
            refine (CBA.out _ (HW.out.below B5.out)).mono ?_
            rintro e w6 ⟨rfl, b6⟩
            have B6 := Lib.hid (B5.out.trans (b6.mono B5.out.size))
            clear b6
            go_wp2_with fail
            refine (CBA.out _ (HW.out.below B6.out)).mono ?_
            rintro e w7 ⟨rfl, b7⟩
            have B7 := Lib.hid (B6.out.trans (b7.mono B6.out.size))
            clear b7
            go_wp2_with fail
            go_ret
            exact ⟨rfl, B7.out⟩
          · rw [decide_eq_true hxy] at hba
            have heq : Sa ≠ Sb := fun h => hxy (by have e := INJ.out.1 h; have h1 := HUa.out; rw [e, HUb.out] at h1; exact (Option.some.inj h1).symm)
            have hse : (Sa.toList == Sb.toList) = false := by rw [beq_eq_false_iff_ne, ByteArray.toList_eq, ByteArray.toList_eq]; exact fun h => heq (ByteArray.ext (Array.toList_inj.1 h))
            have hse2 : (Sa.toList != Sb.toList) = true := by rw [bne, hse]; rfl
            rw [hba] at CBA
            cases hac : ltU ua uc with
            | false =>
              rw [hac] at CAC
              clear hba heq hxy hac
              go_wp2_with fail
              refine (CAB.out _ (HW.out.below B4.out)).mono ?_
              rintro e w5 ⟨rfl, b5⟩
              have B5 := Lib.hid (B4.out.trans (b5.mono B4.out.size))
              clear b5
              go_wp2_with fail
              refine (CBA.out _ (HW.out.below B5.out)).mono ?_
              rintro e w6 ⟨rfl, b6⟩
              have B6 := Lib.hid (B5.out.trans (b6.mono B5.out.size))
              clear b6
              go_wp2_with fail
              refine (CBA.out _ (HW.out.below B6.out)).mono ?_
              rintro e w7 ⟨rfl, b7⟩
              have B7 := Lib.hid (B6.out.trans (b7.mono B6.out.size))
              clear b7
              go_wp2_with fail
              refine (CAC.out _ (HW.out.below B7.out)).mono ?_
              rintro e w8 ⟨rfl, b8⟩
              have B8 := Lib.hid (B7.out.trans (b8.mono B7.out.size))
              clear b8
              go_wp2_with fail
              go_ret
              exact ⟨rfl, B8.out⟩
            | true =>
              rw [hac] at CAC
              rw [ltU_trans ub ua uc hba hac] at CBC
              clear hba heq hxy hac
              go_wp2_with fail
              refine (CAB.out _ (HW.out.below B4.out)).mono ?_
              rintro e w5 ⟨rfl, b5⟩
              have B5 := Lib.hid (B4.out.trans (b5.mono B4.out.size))
              clear b5
              go_wp2_with fail
              refine (CBA.out _ (HW.out.below B5.out)).mono ?_
              rintro e w6 ⟨rfl, b6⟩
              have B6 := Lib.hid (B5.out.trans (b6.mono B5.out.size))
              clear b6
              go_wp2_with fail
              refine (CBA.out _ (HW.out.below B6.out)).mono ?_
              rintro e w7 ⟨rfl, b7⟩
              have B7 := Lib.hid (B6.out.trans (b7.mono B6.out.size))
              clear b7
              go_wp2_with fail
              refine (CAC.out _ (HW.out.below B7.out)).mono ?_
              rintro e w8 ⟨rfl, b8⟩
              have B8 := Lib.hid (B7.out.trans (b8.mono B7.out.size))
              clear b8
              go_wp2_with fail
              refine (CBC.out _ (HW.out.below B8.out)).mono ?_
              rintro e w9 ⟨rfl, b9⟩
              have B9 := Lib.hid (B8.out.trans (b9.mono B8.out.size))
              clear b9
              go_wp2_with fail
              go_ret
              exact ⟨rfl, B9.out⟩
end Go.Proofs.YtdfliogomkpceaaDoor
