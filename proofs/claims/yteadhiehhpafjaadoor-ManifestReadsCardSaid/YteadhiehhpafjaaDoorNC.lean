/-
  The program's Name. Conditions: none but a text of at most four thousand million bytes.
-/
import Derived.Test.YteadhiehhpafjaaDoorNB
namespace Go.Proofs.YteadhiehhpafjaaDoor
open Go.RowKit
set_option maxRecDepth 100000

theorem nameM_first {s : ByteArray} (h : 0 < s.size) (hb : letter (s[0]'h).toNat = false) : nameM s = false := by
  have hx := by_at s 0 h
  rw [nameM, nameC_no h (by rw [hx, okN, decide_eq_false_iff_not]; unfold letter at hb; rw [decide_eq_false_iff_not] at hb; omega), Bool.false_and]

set_option maxHeartbeats 4000000 in
theorem pname_any (s : ByteArray) (n : Nat) (hn : s.size = n) (hs : n ≤ 4294967296) (w : World) : Calls Tryd.prog 17 #[.string s] w (Gives w (.bool (nameM s))) := by
  by_cases h1 : n < 1
  · have hw : nameM s = false := by rw [nameM, decide_eq_false (by omega), Bool.and_false]
    have d1 : decide ((n : Int) < 1) = true := by rw [decide_eq_true_iff]; omega
    rw [hw]
    go_enter Tryd.func17, Tryd.ntmps17
    go_wp2
    go_ret
    exact ⟨rfl, Below.refl _ _⟩
  · by_cases h70 : 70 < n
    · have hw : nameM s = false := by rw [nameM, decide_eq_false (by omega), Bool.and_false]
      have d1 : decide ((n : Int) < 1) = false := by rw [decide_eq_false_iff_not]; omega
      have d2 : decide ((70 : Int) < (n : Int)) = true := by rw [decide_eq_true_iff]; omega
      rw [hw]
      go_enter Tryd.func17, Tryd.ntmps17
      go_wp2
      go_ret
      exact ⟨rfl, Below.refl _ _⟩
    · have d1 : decide ((n : Int) < 1) = false := by rw [decide_eq_false_iff_not]; omega
      have d2 : decide ((70 : Int) < (n : Int)) = false := by rw [decide_eq_false_iff_not]; omega
      have h0 : 0 < s.size := by omega
      have L0 := Lib.hid (fun W => letter_any (s[0]'h0).toNat W)
      cases hl : letter (s[0]'h0).toNat with
      | false =>
        have hw := nameM_first h0 hl
        rw [hl] at L0
        rw [hw]
        clear hl hw
        go_enter Tryd.func17, Tryd.ntmps17
        go_wp2_with (go_at_call 31; refine (L0.out _).mono ?_; rintro e w' ⟨rfl, rfl⟩)
        go_ret
        exact ⟨rfl, Below.refl _ _⟩
      | true =>
        rw [hl] at L0
        have HL := Lib.hid hl
        clear hl
        have CV := Lib.hid (fun W => bys_conv W s)
        go_enter Tryd.func17, Tryd.ntmps17
        have cv := CV.out w
        rw [hn] at cv
        go_wp2_with (go_at_call 31; refine (L0.out _).mono ?_; rintro e w' ⟨rfl, rfl⟩)
        obtain ⟨B1, B2, B3, B4⟩ := bys_new w s
        have HB := Lib.hid B1
        have HW := Lib.hid B2
        clear B1 B2 B3 B4 cv CV L0
        generalize Lib.bytesWorld w 5 s = W1 at HB HW
        generalize grownCap w s.size 0 5 = cc at HB
        generalize grownCap w n 0 5 = cd
        have hsl : s.data.toList.length = n := by rw [← hn]; simp
        go_loopg [22] n (fun j v wr => ∃ k : Nat, k ≤ n ∧ j = n - k ∧ v = .int .i64 k ∧ wr = W1 ∧ ∀ j, j < k → okN j (by_ s j) = true)
        case atStart => exact ⟨0, by omega, rfl, rfl, rfl, fun j hj => by omega⟩
        case round =>
          obtain ⟨k, hk, rfl, rfl, rfl, hal⟩ := hrel
          by_cases hlt : k < n
          · have hks : k < s.size := by omega
            have hx := by_at s k hks
            have hcell := HB.out.cell k (by omega)
            have hxl : s.data.toList[k]'(by omega) = s[k] := by rfl
            rw [hxl] at hcell
            obtain ⟨x, hxx⟩ : ∃ x, s[k].toNat = x := ⟨_, rfl⟩
            rw [hxx] at hx hcell
            have LK := Lib.hid (fun W => letter_any x W)
            have HR : Hid (okN k x = true → ∀ j, j < k + 1 → okN j (by_ s j) = true) := Lib.hid (by
              intro ho j hj
              by_cases hjk : j < k
              · exact hal j hjk
              · obtain rfl : j = k := by omega
                rw [hx]; exact ho)
            have HF : Hid (okN k x = false → nameM s = false) := Lib.hid (fun h => by rw [nameM, nameC_no hks (by rw [hx]; exact h), Bool.false_and])
            have H0 : Hid (k = 0 → letter x = true) := Lib.hid (fun h => by subst h; rw [← hxx]; exact HL.out)
            clear hal hx hxl hxx
            cases hlx : letter x with
            | true =>
              rw [hlx] at LK
              have ho := HR.out (by unfold okN; unfold letter at hlx; rw [decide_eq_true_iff] at hlx ⊢; exact .inl hlx)
              have HO := Lib.hid ho
              clear ho hlx HR HF H0
              go_wp2_with (go_at_call 31; refine (LK.out _).mono ?_; rintro e w' ⟨rfl, rfl⟩)
              go_roundg (n - (k + 1))
              case measure => omega
              case rel => exact ⟨k + 1, by omega, rfl, by go_num, rfl, HO.out⟩
            | false =>
              rw [hlx] at LK
              have hk0 : k ≠ 0 := fun h => by rw [H0.out h] at hlx; cases hlx
              have HLX := Lib.hid hlx
              clear hlx
              by_cases h95 : x = 95
              · have HO := Lib.hid (HR.out (by unfold okN; rw [decide_eq_true_iff]; exact .inr ⟨hk0, .inl h95⟩))
                have d3 : ((x : Int) != 95) = false := by rw [h95]; rfl
                clear HR HF H0 h95
                go_wp2_with (go_at_call 31; refine (LK.out _).mono ?_; rintro e w' ⟨rfl, rfl⟩)
                go_roundg (n - (k + 1))
                case measure => omega
                case rel => exact ⟨k + 1, by omega, rfl, by go_num, rfl, HO.out⟩
              · have d3 : ((x : Int) != 95) = true := by rw [bne_iff_ne]; omega
                by_cases h45 : x = 45
                · have HO := Lib.hid (HR.out (by unfold okN; rw [decide_eq_true_iff]; exact .inr ⟨hk0, .inr h45⟩))
                  have d4 : ((x : Int) != 45) = false := by rw [h45]; rfl
                  clear HR HF H0 h45 h95
                  go_wp2_with (go_at_call 31; refine (LK.out _).mono ?_; rintro e w' ⟨rfl, rfl⟩)
                  go_roundg (n - (k + 1))
                  case measure => omega
                  case rel => exact ⟨k + 1, by omega, rfl, by go_num, rfl, HO.out⟩
                · have d4 : ((x : Int) != 45) = true := by rw [bne_iff_ne]; omega
                  have hw := HF.out (by
                    have := HLX.out
                    unfold letter at this; unfold okN
                    rw [decide_eq_false_iff_not] at this ⊢
                    omega)
                  have HHW := Lib.hid hw
                  clear HR HF H0 hw h45 h95
                  go_wp2_with (go_at_call 31; refine (LK.out _).mono ?_; rintro e w' ⟨rfl, rfl⟩)
                  go_ret
                  exact ⟨by rw [HHW.out]; rfl, HW.out⟩
          · obtain rfl : k = n := by omega
            have hv := nameC_yes (fun j (hj : j < s.size) => hal j (by omega))
            have hw : nameM s = true := by rw [nameM, hv, Bool.true_and, decide_eq_true_iff]; omega
            go_wp2
            go_ret
            exact ⟨by rw [hw]; rfl, HW.out⟩
end Go.Proofs.YteadhiehhpafjaaDoor
