/-
  The document of layer 2, where it puts numbers: Little, Big. Conditions: each theorem names the range of its arguments.
-/
import Derived.Test.YtplilajgncfieaaC1
namespace Go.Proofs.Ytplilajgncfieaa
open Go.RowKit

set_option maxHeartbeats 1000000 in
theorem refLittle_go (A : Option Addr) (c B : Nat) (bs : List Nat) (w : World) (hs : Seen w B 1 A bs.length c (bv bs)) (hB : B ≤ w.heap.size) (hn : bs.length ≤ 1000000) (v : Nat) (hv : v < 18446744073709551616) (k : Nat) (hk : k ≤ 8) (n : Int) (hw : (Wide n ∧ n = k) ∨ (¬ Wide n ∧ k = 0)) :
    Calls Try.prog 47 #[.slice A bs.length c, .int .u64 v, .int .i64 n] w (GivesRow w 5 1 (bs.length + k) (bv (bs ++ leb v k))) := by
  obtain ⟨i0, hi0, hz0, hz1, hz2⟩ := info_parts byte_info
  have HS := Lib.hid hs; clear hs
  obtain ⟨m, hm⟩ : ∃ m, bs.length = m := ⟨_, rfl⟩
  have HM := Lib.hid hm
  rw [hm] at hn ⊢
  have HS2 : Hid (Seen w B 1 A m c (bv bs)) := by rw [← hm]; exact HS.out
  clear hm HS
  rcases hw with ⟨hw, rfl⟩ | ⟨hw, rfl⟩
  · have HWd := Lib.hid hw; clear hw
    go_enter Try.func47, Try.ntmps47
    go_wp2_with (first
      | (go_at_call 52; refine (sizeR_yes _ HWd.out _).mono ?_; rintro e w' ⟨rfl, rfl⟩)
      | (at_builtin; refine wpList_append_seen _ rfl (.tmp 9) (.tmp 10) _ rfl w.heap.size 5 i0 _ 1 1 Try.underlying29 hi0 hz0 hz1 hz2 rfl (by omega) (.slice (some ⟨w.heap.size, 0, none⟩) 0 0) 0 [] rfl (World.ownsRow_made w #[] 0 (Nat.le_refl _) (by simp [maxLen]) rfl) B A m c (bv bs) rfl (HS2.out.below ((Below.refl _ _).alloc hB _)) (bv_oneCell _) (by simp only [maxLen]; omega) (by omega) (by simp) ?_; intro v1 w1 hown1 hg1 hat1))
    have HO1 := Lib.hid (show w1.ownsRow w.heap.size 5 1 v1 m (bv bs) by simpa using hown1)
    have HB1 := Lib.hid (((Below.refl _ _).alloc (Nat.le_refl _) _).grown hg1 (by simp) (by simp [Value.ownBlock]))
    clear hown1 hg1 hat1
    go_loopw [1, 7, 8] (fun x s i wr => ∃ j : Nat, j ≤ k ∧ i = .int .i64 j ∧ x = .int .u64 (v / 256 ^ j : Nat) ∧ wr.ownsRow w.heap.size 5 1 s (m + j) (bv (bs ++ leb v j)) ∧ Below w.heap.size w wr) (fun _ _ i _ => k - (intOf i).toNat)
    case atStart => exact ⟨0, Nat.zero_le _, rfl, by simp, by simpa [leb] using HO1.out, HB1.out⟩
    case round =>
      obtain ⟨j, hj, rfl, rfl, hown, hbel⟩ := hrel
      by_cases hlt : j < k
      · have hx1 : v / 256 ^ j < 18446744073709551616 := Nat.lt_of_le_of_lt (Nat.div_le_self _ _) hv
        have hd : Hid (v / 256 ^ (j + 1) = v / 256 ^ j / 256) := by
          show _ = _
          rw [Nat.pow_succ, Nat.div_div_eq_div_mul]
        have hls := Lib.hid (leb_succ v j)
        have hsz := hbel.size
        have HLT := Lib.hid hown.lt
        generalize v / 256 ^ j = x at *
        go_wp2_with (at_builtin; refine wpList_append_seen _ rfl (.tmp 21) (.tmp 25) _ rfl w.heap.size 5 i0 _ 1 1 Try.underlying29 hi0 hz0 hz1 hz2 rfl (by omega) u7 (m + j) _ rfl (hown.alloc _) _ _ 1 1 _ rfl (seen_one _ _ _) (by simp [Value.oneCell']) (by simp only [maxLen]; omega) (by omega) (by simp only [World.size_alloc]; omega) ?_; intro v2 w2 hown2 hg2 hat2)
        go_roundw
        case rel =>
          refine ⟨j + 1, by omega, by go_num, by rw [hd.out]; rfl, ?_, (hbel.alloc hsz _).grown hg2 (by simp; omega) (fun i hi => (HLT.out i hi).1)⟩
          rw [hls.out, ← List.append_assoc, bv_append]
          exact hown2
        case measure => simp [intOf]; omega
      · obtain rfl : k = j := by omega
        go_wp2_with fail
        go_ret
        exact ⟨_, rfl, hown, hbel⟩
  · have HWd := Lib.hid hw; clear hw
    go_enter Try.func47, Try.ntmps47
    go_wp2_with (first
      | (go_at_call 52; refine (sizeR_no _ HWd.out _).mono ?_; rintro e w' ⟨rfl, rfl⟩)
      | (at_builtin; refine wpList_append_seen _ rfl (.tmp 9) (.tmp 10) _ rfl w.heap.size 5 i0 _ 1 1 Try.underlying29 hi0 hz0 hz1 hz2 rfl (by omega) (.slice (some ⟨w.heap.size, 0, none⟩) 0 0) 0 [] rfl (World.ownsRow_made w #[] 0 (Nat.le_refl _) (by simp [maxLen]) rfl) B A m c (bv bs) rfl (HS2.out.below ((Below.refl _ _).alloc hB _)) (bv_oneCell _) (by simp only [maxLen]; omega) (by omega) (by simp) ?_; intro v1 w1 hown1 hg1 hat1))
    go_ret
    exact ⟨_, rfl, by simpa [leb] using hown1, ((Below.refl _ _).alloc (Nat.le_refl _) _).grown hg1 (by simp) (by simp [Value.ownBlock])⟩

end Go.Proofs.Ytplilajgncfieaa
