/-
  The walk of PrefixWords: it answers true, and changes nothing that was there. Conditions: the slice is read as told (Seen).
-/
import Derived.Test.YtijjcecboepiiaaF1
import Derived.Test.YtijjcecboepiiaaO1
namespace Go.Proofs.Ytijjcecboepiiaa
open Go.RowKit

theorem wb_num {l : List Int} (h : kindOf l ≠ 0) (j : Nat) (hj : j < l.length) : bnum (wb l j) = wv l j := by
  unfold wb
  rw [bnum_hi]
  rcases wv_small h j hj with h1 | h1
  · exact Nat.mod_eq_of_lt h1
  · rw [wv_none l j h1]; simp

set_option maxHeartbeats 1000000 in
set_option maxRecDepth 100000 in
theorem words_law (A : Option Addr) (n c : Nat) (hm : n ≤ 9223372036854775807) (w : World) (hp : ∃ l : List Int, l.length = n ∧ (∀ y ∈ l, -9223372036854775808 ≤ y ∧ y < 9223372036854775808) ∧ Seen w w.heap.size 1 A n c (iv l)) :
    Calls Try.prog 7 #[.slice A n c] w fun e w' => e = .returned (.bool true) ∧ Below w.heap.size w w' := by
  obtain ⟨l, hn, _, hs⟩ := hp
  have HS := Lib.hid hs; clear hs
  have HN := Lib.hid hn; clear hn
  by_cases h300 : 300 < n
  · go_enter Try.func7, Try.ntmps7
    go_wp2_with (go_at_call 17; refine (fixed_any _).mono ?_; rintro e w1 ⟨rfl, hb1⟩; have B1 := Lib.hid hb1; clear hb1)
    go_ret
    exact ⟨rfl, B1.out⟩
  by_cases hk : kindOf l = 0
  · have HK := Lib.hid hk; clear hk
    go_enter Try.func7, Try.ntmps7
    go_wp2_with (first
      | (go_at_call 17; refine (fixed_any _).mono ?_; rintro e w1 ⟨rfl, hb1⟩; have B1 := Lib.hid hb1; clear hb1)
      | (go_at_call 18; refine (words_bad A n c w.heap.size l HN.out (by omega) HK.out _ (HS.out.below B1.out)).mono ?_; rintro e w2 ⟨rfl, rfl⟩)
      | (go_at_call 19; refine (refWords_bad A n c w.heap.size l HN.out (by omega) HK.out _ (HS.out.below B1.out) B1.out.size).mono ?_; rintro e w3 ⟨rfl, hb3⟩; have B3 := Lib.hid (B1.out.trans (hb3.mono B1.out.size)); clear hb3)
      | (go_at_call 20; refine (new_bad A n c w.heap.size l HN.out (by omega) HK.out _ (HS.out.below B3.out)).mono ?_; rintro e w4 ⟨rfl, rfl⟩))
    go_ret
    exact ⟨rfl, B3.out⟩
  · have HK := Lib.hid hk; clear hk
    go_enter Try.func7, Try.ntmps7
    go_wp2_with fail
    refine (fixed_any _).mono ?_; rintro e w1 ⟨rfl, hb1⟩; have B1 := Lib.hid hb1; clear hb1
    go_wp2_with fail
    refine (words_any A n c w.heap.size l HN.out (by omega) HK.out _ (HS.out.below B1.out) B1.out.size).mono ?_
    rintro e w2 ⟨v2, rfl, ho2, hb2⟩
    obtain ⟨A2, c2, rfl, _, hs2⟩ := own_seen ho2
    have S2 := Lib.hid hs2
    have B2 := Lib.hid (B1.out.trans (hb2.mono B1.out.size)); clear hb2 ho2 hs2
    go_wp2_with fail
    refine (refWords_any A n c w.heap.size l HN.out (by omega) HK.out _ (HS.out.below B2.out) B2.out.size).mono ?_
    rintro e w3 ⟨v3, rfl, ho3, hb3⟩
    obtain ⟨A3, c3, rfl, _, hs3⟩ := own_seen ho3
    have S3 := Lib.hid hs3
    have S23 := Lib.hid ((S2.out.below hb3).more hb3.size)
    have B3 := Lib.hid (B2.out.trans (hb3.mono B2.out.size)); clear hb3 ho3 hs3 S2
    go_wp2_with fail
    refine (new_any A n c w.heap.size l HN.out (by omega) HK.out _ (HS.out.below B3.out) B3.out.size).mono ?_
    rintro e w4 ⟨g4, rfl, _, _, hb4⟩
    have S34 := Lib.hid ((S3.out.below hb4).more hb4.size)
    have S24 := Lib.hid ((S23.out.below hb4).more hb4.size)
    have B4 := Lib.hid (B3.out.trans (hb4.mono B3.out.size)); clear hb4 S3 S23
    go_wp2_with fail
    go_loopw [9, 58] (fun _ i wr => ∃ k : Nat, k ≤ n ∧ i = .int .i64 k ∧ Below w4.heap.size w4 wr) (fun _ i _ => n - (intOf i).toNat)
    case atStart => exact ⟨0, by omega, rfl, Below.refl _ _⟩
    case round =>
      obtain ⟨k, hk, rfl, hbel⟩ := hrel
      have HB := Lib.hid hbel; clear hbel
      by_cases hlt : k < n
      · have hkl : k < l.length := by rw [HN.out]; exact hlt
        obtain ⟨b2, o2, u2, rfl, hbb2, q2, x2⟩ := (S24.out.below HB.out).at hlt
        obtain ⟨b3, o3, u3, rfl, hbb3, q3, x3⟩ := (S34.out.below HB.out).at hlt
        have hz := HB.out.size
        have hu2 : u2 = .int .u32 (wv l k : Nat) := by
          unfold wrow at q2
          rw [mr_get _ _ _ hlt, if_pos hlt] at q2
          injection q2 with q2; exact q2.symm
        have hu3 : u3 = .string (tx (wb l k)) := by
          unfold twords at q3
          rw [mr_get _ _ _ hlt] at q3
          injection q3 with q3; exact q3.symm
        subst hu2 hu3
        clear q2 q3
        have EN := Lib.hid (wb_num HK.out k hkl)
        have CN := Lib.hid (number_any (wb l k) (len l k) (wb_length l k) (len_le (right_ok HK.out) k))
        rw [EN.out] at CN
        obtain ⟨x, hx⟩ : ∃ x, wv l k = x := ⟨_, rfl⟩
        obtain ⟨s, hs⟩ : ∃ s, tx (wb l k) = s := ⟨_, rfl⟩
        rw [hx] at x2 CN
        rw [hs] at x3 CN
        clear hx hs EN hkl
        have kk0 : (0 : Int) ≤ k := by omega
        have kkn : (k : Int) < n := by omega
        have X2 := Lib.hid x2; clear x2
        have X3 := Lib.hid x3; clear x3
        go_wp2_with fail
        refine wp_region_held_drew (S := fun W => Below wr.heap.size wr W) (by kernel_rfl) (Below.refl _ _).drew (fun hHeld => ?_)
        refine wpAnyH_take (i := 0) (oi := ⟨some 61, _, _, _, _, _⟩) (v := ?v0) rfl (by kernel_rfl) (by kernel_rfl) (by kernel_rfl) (fun _ _ _ h => h) (Or.inl ⟨by rfl, ?hy0⟩) (by assumption) ?rest0
        case hy0 => intro W hSW; go_simp; try rfl
        try simp only [Act.put, List.setIfInBounds_toArray, List.set_cons_zero, List.set_cons_succ]
        refine wpAnyH_take (i := 1) (oi := ⟨some 62, _, _, _, _, _⟩) (v := ?v1) rfl (by kernel_rfl) (by kernel_rfl) (by kernel_rfl) (fun _ _ _ h => h) (Or.inl ⟨by rfl, ?hy1⟩) (by assumption) ?rest1
        case hy1 => intro W hSW; go_simp; try rfl
        try simp only [Act.put, List.setIfInBounds_toArray, List.set_cons_zero, List.set_cons_succ]
        refine wpAnyH_take (i := 2) (oi := ⟨some 63, _, _, _, _, _⟩) (v := ?v2) rfl (by kernel_rfl) (by kernel_rfl) (by kernel_rfl) (fun _ _ _ h => h) (Or.inl ⟨by rfl, ?hy2⟩) (by assumption) ?rest2
        case hy2 => intro W hSW; go_simp; try rfl
        try simp only [Act.put, List.setIfInBounds_toArray, List.set_cons_zero, List.set_cons_succ]
        refine wpAnyH_take (i := 3) (oi := ⟨some 64, _, _, _, _, _⟩) (v := ?v3) rfl (by kernel_rfl) (by kernel_rfl) (by kernel_rfl) (fun _ _ _ h => h) (Or.inl ⟨by rfl, ?hy3⟩) (by assumption) ?rest3
        case hy3 => intro W hSW; have lx := (hSW.cell (p := ⟨b2, o2 + k, none⟩) (by show b2 < wr.heap.size; omega)).trans X2.out; go_simp; try rfl
        try simp only [Act.put, List.setIfInBounds_toArray, List.set_cons_zero, List.set_cons_succ]
        refine wpAnyH_take (i := 4) (oi := ⟨some 65, _, _, _, _, _⟩) (v := ?v4) rfl (by kernel_rfl) (by kernel_rfl) (by kernel_rfl) (fun _ _ _ h => h) (Or.inl ⟨by rfl, ?hy4⟩) (by assumption) ?rest4
        case hy4 => intro W hSW; go_simp; try rfl
        try simp only [Act.put, List.setIfInBounds_toArray, List.set_cons_zero, List.set_cons_succ]
        refine wpAnyH_take (i := 5) (oi := ⟨some 66, _, _, _, _, _⟩) (v := ?v5) rfl (by kernel_rfl) (by kernel_rfl) (by kernel_rfl) (fun _ _ _ h => h) (Or.inl ⟨by rfl, ?hy5⟩) (by assumption) ?rest5
        case hy5 => intro W hSW; go_simp; try rfl
        try simp only [Act.put, List.setIfInBounds_toArray, List.set_cons_zero, List.set_cons_succ]
        refine wpAnyH_take (i := 6) (oi := ⟨some 67, _, _, _, _, _⟩) (v := ?v6) rfl (by kernel_rfl) (by kernel_rfl) (by kernel_rfl) (fun _ _ _ h => h) (Or.inl ⟨by rfl, ?hy6⟩) (by assumption) ?rest6
        case hy6 => intro W hSW; go_simp; try rfl
        try simp only [Act.put, List.setIfInBounds_toArray, List.set_cons_zero, List.set_cons_succ]
        refine wpAnyH_take (i := 7) (oi := ⟨some 68, _, _, _, _, _⟩) (v := ?v7) rfl (by kernel_rfl) (by kernel_rfl) (by kernel_rfl) (fun _ _ _ h => h) (Or.inl ⟨by rfl, ?hy7⟩) (by assumption) ?rest7
        case hy7 => intro W hSW; have lx := (hSW.cell (p := ⟨b3, o3 + k, none⟩) (by show b3 < wr.heap.size; omega)).trans X3.out; go_simp; try rfl
        try simp only [Act.put, List.setIfInBounds_toArray, List.set_cons_zero, List.set_cons_succ]
        refine wpAnyH_ready (rs := [8]) (by kernel_rfl) (by simp) ?_
        refine AllReadyH.cons (o := ⟨some 69, _, _, _, _, _⟩) rfl (fun K hK => ?_) AllReadyH.nil
        go_simp
        refine (CN.out _).mono ?_; rintro e w5 ⟨rfl, hb5⟩; have B5 : Hid (Below wr.heap.size wr w5) := Lib.hid ⟨hb5.os, hb5.tape, hb5.output, hb5.size, hb5.block⟩; clear hb5
        refine hK.out _ _ ?_ (fun hHeld2 => ?_)
        · exact B5.out
        clear hK K hHeld
        have hHeld := hHeld2; clear hHeld2
        try simp only [Act.put, List.setIfInBounds_toArray, List.set_cons_zero, List.set_cons_succ]
        refine wpAnyH_take (i := 9) (oi := ⟨some 70, _, _, _, _, _⟩) (v := ?v9) rfl (by kernel_rfl) (by kernel_rfl) (by kernel_rfl) (fun _ _ _ h => h) (Or.inl ⟨by rfl, ?hy9⟩) (by assumption) ?rest9
        case hy9 => intro W hSW; go_simp; try rfl
        try simp only [Act.put, List.setIfInBounds_toArray, List.set_cons_zero, List.set_cons_succ]
        refine wpAnyH_done (by kernel_rfl) ?_ _
        have B45 := Lib.hid (HB.out.trans (B5.out.mono hz))
        go_wp2_with fail
        go_roundw
        case rel => exact ⟨k + 1, by omega, by go_num, B45.out⟩
        case measure => simp [intOf]; omega
      · go_wp2_with fail
        go_ret
        exact ⟨rfl, B4.out.trans (HB.out.mono B4.out.size)⟩
end Go.Proofs.Ytijjcecboepiiaa
