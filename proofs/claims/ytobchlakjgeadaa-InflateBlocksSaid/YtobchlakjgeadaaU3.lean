/-
  The walk of InflateTells: it answers true, and changes nothing that was there. Conditions: the slice is read as told (Seen).
-/
import Derived.Test.YtobchlakjgeadaaRL
import Derived.Test.YtobchlakjgeadaaO
namespace Go.Proofs.Ytobchlakjgeadaa
open Go.RowKit
set_option maxRecDepth 100000

theorem tells_far (A : Option Addr) (n cp : Nat) (most : Int) (h : 120 < n ∨ 3000 < most) (w : World) : Calls Try.prog 3 #[.slice A n cp, .int .i64 most] w fun e w' => e = .returned (.bool true) ∧ Below w.heap.size w w' := by
  by_cases h1 : 120 < n
  · have d1 : decide (120 < (n : Int)) = true := decide_eq_true (by omega)
    clear h
    go_enter Try.func3, Try.ntmps3
    go_wp2_with fail
    refine (fixed_any w).mono ?_; rintro e w1 ⟨rfl, hb1⟩; have B1 := Lib.hid hb1; clear hb1
    go_wp2_with fail
    go_ret
    exact ⟨rfl, B1.out⟩
  · have h2 : 3000 < most := h.resolve_left h1
    have d1 : decide (120 < (n : Int)) = false := decide_eq_false (by omega)
    have d2 : decide (3000 < most) = true := decide_eq_true h2
    clear h
    go_enter Try.func3, Try.ntmps3
    go_wp2_with fail
    refine (fixed_any w).mono ?_; rintro e w1 ⟨rfl, hb1⟩; have B1 := Lib.hid hb1; clear hb1
    go_wp2_with fail
    go_ret
    exact ⟨rfl, B1.out⟩

theorem conv_nil (w : World) : (convert 22 9 (.slice none 0 0)).run Try.prog w = .ok (.string (strOf [])) w := conv_seen (bs := []) (seen_nil w 0)

theorem tells_neg (A : Option Addr) (n cp : Nat) (most : Int) (hn : n ≤ 120) (h : most < 0) (w : World) : Calls Try.prog 3 #[.slice A n cp, .int .i64 most] w fun e w' => e = .returned (.bool true) ∧ Below w.heap.size w w' := by
  have d1 : decide (120 < (n : Int)) = false := decide_eq_false (by omega)
  have d2 : decide (3000 < most) = false := decide_eq_false (by omega)
  have C1 := Lib.hid (fun W => inflate_arg A n cp most (.inl h) W)
  have C2 := Lib.hid (fun W => rinflate_arg A n cp most (.inl h) W)
  go_enter Try.func3, Try.ntmps3
  go_wp2_with fail
  refine (fixed_any w).mono ?_; rintro e w1 ⟨rfl, hb1⟩; have B1 := Lib.hid hb1; clear hb1
  go_wp2_with fail
  refine (C1.out _).mono ?_; rintro e w2 ⟨rfl, rfl⟩
  go_wp2_with fail
  refine (C2.out _).mono ?_; rintro e w3 ⟨rfl, rfl⟩
  have cv := conv_nil w1
  go_wp2_with fail
  go_ret
  exact ⟨by simp, B1.out⟩

set_option maxHeartbeats 1000000 in
theorem tells_near (A : Option Addr) (n cp : Nat) (most : Nat) (hn : n ≤ 120) (hm : most ≤ 3000) (bs : List Nat) (hb : bs.length = n) (h256 : ∀ y ∈ bs, y < 256) (w : World) (hs : Seen w w.heap.size 1 A n cp (bx bs)) :
    Calls Try.prog 3 #[.slice A n cp, .int .i64 most] w fun e w' => e = .returned (.bool true) ∧ Below w.heap.size w w' := by
  have d1 : decide (120 < (n : Int)) = false := decide_eq_false (by omega)
  have d2 : decide (3000 < (most : Int)) = false := decide_eq_false (by omega)
  have C1 : Hid (∀ W, Below w.heap.size w W → Calls Try.prog 8 #[.slice A n cp, .int .i64 most] W (InfRes (unpack bs) most W)) := Lib.hid (fun W hB => inflate_any A n cp w.heap.size bs most (by omega) hb (by omega) h256 W (hs.below hB) hB.size)
  have C2 : Hid (∀ W, Below w.heap.size w W → Calls Try.prog 9 #[.slice A n cp, .int .i64 most] W (InfRes (unpack bs) most W)) := Lib.hid (fun W hB => rinflate_any A n cp w.heap.size bs most (by omega) hb (by omega) h256 W (hs.below hB) hB.size)
  clear hs hb h256
  go_enter Try.func3, Try.ntmps3
  go_wp2_with fail
  refine (fixed_any w).mono ?_; rintro e w1 ⟨rfl, hb1⟩; have B1 := Lib.hid hb1; clear hb1
  go_wp2_with fail
  refine (C1.out w1 B1.out).mono ?_
  rintro e w2 (⟨a, o, v, hR, _, _, rfl, hown, hb2⟩ | ⟨er, e0, e1, hR, rfl, hb2⟩)
  · have B2 := Lib.hid (B1.out.trans (hb2.mono B1.out.size))
    obtain ⟨Av, cv, rfl, _, hsv⟩ := own_seen hown
    have SV := Lib.hid hsv
    have HR := Lib.hid hR
    clear hR hown hb2 hsv
    obtain ⟨nr, hnr⟩ : ∃ nr, (a + 7) / 8 = nr := ⟨_, rfl⟩
    rw [hnr]
    have HNR := Lib.hid hnr; clear hnr
    go_wp2_with fail
    refine (C2.out w2 B2.out).mono ?_
    rintro e w3 hres
    obtain ⟨v3, rfl, hown3, hb3⟩ := inf_ok hres HR.out
    rw [HNR.out]
    have B3 := Lib.hid (B2.out.trans (hb3.mono B2.out.size))
    obtain ⟨A3, c3, rfl, _, hs3⟩ := own_seen hown3
    have cv1 : (convert 22 9 (.slice Av o.length cv)).run Try.prog w3 = .ok (.string (strOf o)) w3 := conv_seen (SV.out.below hb3)
    have cv2 : (convert 22 9 (.slice A3 o.length c3)).run Try.prog w3 = .ok (.string (strOf o)) w3 := conv_seen hs3
    clear hres hown3 hb3 hs3
    obtain ⟨T, hT⟩ : ∃ T, strOf o = T := ⟨_, rfl⟩
    rw [hT] at cv1 cv2
    obtain ⟨ol, hol⟩ : ∃ ol, o.length = ol := ⟨_, rfl⟩
    rw [hol] at cv1 cv2 ⊢
    clear hT hol
    go_wp2_with fail
    go_ret
    exact ⟨by simp, B3.out⟩
  · have B2 := Lib.hid (B1.out.trans (hb2.mono B1.out.size))
    have HR := Lib.hid hR
    clear hR hb2
    go_wp2_with fail
    refine (C2.out w2 B2.out).mono ?_
    rintro e w3 hres
    obtain ⟨rfl, hb3⟩ := inf_er hres HR.out
    have B3 := Lib.hid (B2.out.trans (hb3.mono B2.out.size))
    have cv := conv_nil w3
    clear hres hb3
    go_wp2_with fail
    go_ret
    exact ⟨by simp, B3.out⟩

theorem tells_law (A : Option Addr) (n cp : Nat) (_ : n ≤ 9223372036854775807) (most : Int) (_ : (Lit.int .i64 most).wf = true) (w : World)
    (hp : ∃ bs : List Nat, bs.length = n ∧ (∀ y ∈ bs, y < 256) ∧ Seen w w.heap.size 1 A n cp (bv bs)) :
    Calls Try.prog 3 #[.slice A n cp, .int .i64 most] w fun e w' => e = .returned (.bool true) ∧ Below w.heap.size w w' := by
  obtain ⟨bs, h1, h2, h3⟩ := hp
  by_cases hf : 120 < n ∨ 3000 < most
  · exact tells_far A n cp most hf w
  · by_cases hneg : most < 0
    · exact tells_neg A n cp most (by omega) hneg w
    · obtain ⟨m, rfl⟩ := Int.eq_ofNat_of_zero_le (show 0 ≤ most by omega)
      exact tells_near A n cp m (by omega) (by omega) bs h1 h2 w h3
end Go.Proofs.Ytobchlakjgeadaa
