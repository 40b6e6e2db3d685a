/-
  The document of layer 2, where it puts numbers: Little, Big. Conditions: each theorem names the range of its arguments.
-/
import Derived.Test.YtmojclbejmnikaaC1
import Derived.Test.YtmojclbejmnikaaV
namespace Go.Proofs.Ytmojclbejmnikaa
open Go.RowKit

set_option maxHeartbeats 1000000 in
theorem refLittle_go (A : Option Addr) (c B : Nat) (bs : List Nat) (w : World) (hs : Seen w B 1 A bs.length c (bv bs)) (hB : B ≤ w.heap.size) (hn : bs.length ≤ 1000000) (v : Nat) (hv : v < 18446744073709551616) (k : Nat) (hk : k ≤ 8) (n : Int) (hw : (Wide n ∧ n = k) ∨ (¬ Wide n ∧ k = 0)) :
    Calls Try.prog 49 #[.slice A bs.length c, .int .u64 v, .int .i64 n] w (GivesRow w 5 1 (bs.length + k) (bv (bs ++ leb v k))) := by
  obtain ⟨i0, hi0, hz0, hz1, hz2⟩ := info_parts byte_info
  have HS := Lib.hid hs; clear hs
  obtain ⟨m, hm⟩ : ∃ m, bs.length = m := ⟨_, rfl⟩
  have HM := Lib.hid hm
  rw [hm] at hn ⊢
  have HS2 : Hid (Seen w B 1 A m c (bv bs)) := by rw [← hm]; exact HS.out
  clear hm HS
  rcases hw with ⟨hw, rfl⟩ | ⟨hw, rfl⟩
  · have HWd := Lib.hid hw; clear hw
    go_enter Try.func49, Try.ntmps49
    go_wp2_with (first
      | (go_at_call 45; refine (sizeR_yes _ HWd.out _).mono ?_; rintro e w' ⟨rfl, rfl⟩)
      | (at_builtin; refine wpList_append_seen _ rfl (.tmp 9) (.tmp 10) _ rfl w.heap.size 5 i0 _ 1 1 Try.underlying22 hi0 hz0 hz1 hz2 rfl (by omega) (.slice (some ⟨w.heap.size, 0, none⟩) 0 0) 0 [] rfl (World.ownsRow_made w #[] 0 (Nat.le_refl _) (by simp [maxLen]) rfl) B A m c (bv bs) rfl (HS2.out.below ((Below.refl _ _).alloc hB _)) (bv_oneCell _) (by simp only [maxLen]; omega) (by omega) (by simp) ?_; intro v1 w1 hown1 hg1 hat1))
    have HO1 := Lib.hid (show w1.ownsRow w.heap.size 5 1 v1 m (bv bs) by simpa using hown1)
    have HB1 := Lib.hid (((Below.refl _ _).alloc (Nat.le_refl _) _).grown hg1 (by simp) (by simp [Value.ownBlock]))
    clear hown1 hg1 hat1
    go_loopw [1, 7, 8] (fun x s i wr => ∃ j : Nat, j ≤ k ∧ i = .int .i64 j ∧ x = .int .u64 (v / 256 ^ j : Nat) ∧ wr.ownsRow w.heap.size 5 1 s (m + j) (bv (bs ++ leb v j)) ∧ Below w.heap.size w wr) (fun _ _ i _ => k - (intOf i).toNat)
    case atStart => exact ⟨0, Nat.zero_le _, rfl, by simp, by simpa [leb] using HO1.out, HB1.out⟩
    case round =>
      obtain ⟨j, hj, rfl, rfl, hown, hbel⟩ := hrel
      by_cases hlt : j < k
      · have hx1 : v / 256 ^ j < 18446744073709551616 := Nat.lt_of_le_of_lt (Nat.div_le_self _ _) hv
        have hd : Hid (v / 256 ^ (j + 1) = v / 256 ^ j / 256) := by
          show _ = _
          rw [Nat.pow_succ, Nat.div_div_eq_div_mul]
        have hls := Lib.hid (leb_succ v j)
        have hsz := hbel.size
        have HLT := Lib.hid hown.lt
        generalize v / 256 ^ j = x at *
        go_wp2_with (at_builtin; refine wpList_append_seen _ rfl (.tmp 21) (.tmp 25) _ rfl w.heap.size 5 i0 _ 1 1 Try.underlying22 hi0 hz0 hz1 hz2 rfl (by omega) u7 (m + j) _ rfl (hown.alloc _) _ _ 1 1 _ rfl (seen_one _ _ _) (by simp [Value.oneCell']) (by simp only [maxLen]; omega) (by omega) (by simp only [World.size_alloc]; omega) ?_; intro v2 w2 hown2 hg2 hat2)
        go_roundw
        case rel =>
          refine ⟨j + 1, by omega, by go_num, by rw [hd.out]; rfl, ?_, (hbel.alloc hsz _).grown hg2 (by simp; omega) (fun i hi => (HLT.out i hi).1)⟩
          rw [hls.out, ← List.append_assoc, bv_append]
          exact hown2
        case measure => simp [intOf]; omega
      · obtain rfl : k = j := by omega
        go_wp2_with fail
        go_ret
        exact ⟨_, rfl, hown, hbel⟩
  · have HWd := Lib.hid hw; clear hw
    go_enter Try.func49, Try.ntmps49
    go_wp2_with (first
      | (go_at_call 45; refine (sizeR_no _ HWd.out _).mono ?_; rintro e w' ⟨rfl, rfl⟩)
      | (at_builtin; refine wpList_append_seen _ rfl (.tmp 9) (.tmp 10) _ rfl w.heap.size 5 i0 _ 1 1 Try.underlying22 hi0 hz0 hz1 hz2 rfl (by omega) (.slice (some ⟨w.heap.size, 0, none⟩) 0 0) 0 [] rfl (World.ownsRow_made w #[] 0 (Nat.le_refl _) (by simp [maxLen]) rfl) B A m c (bv bs) rfl (HS2.out.below ((Below.refl _ _).alloc hB _)) (bv_oneCell _) (by simp only [maxLen]; omega) (by omega) (by simp) ?_; intro v1 w1 hown1 hg1 hat1))
    go_ret
    exact ⟨_, rfl, by simpa [leb] using hown1, ((Below.refl _ _).alloc (Nat.le_refl _) _).grown hg1 (by simp) (by simp [Value.ownBlock])⟩

set_option maxHeartbeats 1000000 in
theorem refBig_go (A : Option Addr) (c B : Nat) (bs : List Nat) (w : World) (hs : Seen w B 1 A bs.length c (bv bs)) (hB : B ≤ w.heap.size) (hn : bs.length ≤ 1000000) (v : Nat) (hv : v < 18446744073709551616) (k : Nat) (hk : k ≤ 8) (n : Int) (hw : (Wide n ∧ n = k) ∨ (¬ Wide n ∧ k = 0)) :
    Calls Try.prog 32 #[.slice A bs.length c, .int .u64 v, .int .i64 n] w (GivesRow w 5 1 (bs.length + k) (bv (bs ++ (leb v k).reverse))) := by
  obtain ⟨i0, hi0, hz0, hz1, hz2⟩ := info_parts byte_info
  have HS := Lib.hid hs; clear hs
  have HW := Lib.hid hw; clear hw
  obtain ⟨m, hm⟩ : ∃ m, bs.length = m := ⟨_, rfl⟩
  have HM := Lib.hid hm
  rw [hm] at hn ⊢
  have HS2 : Hid (Seen w B 1 A m c (bv bs)) := by rw [← hm]; exact HS.out
  clear hm HS
  go_enter Try.func32, Try.ntmps32
  go_wp2_with (at_builtin; refine wpList_append_seen _ rfl (.tmp 10) (.tmp 11) _ rfl w.heap.size 5 i0 _ 1 1 Try.underlying22 hi0 hz0 hz1 hz2 rfl (by omega) (.slice (some ⟨w.heap.size, 0, none⟩) 0 0) 0 [] rfl (World.ownsRow_made w #[] 0 (Nat.le_refl _) (by simp [maxLen]) rfl) B A m c (bv bs) rfl (HS2.out.below ((Below.refl _ _).alloc hB _)) (bv_oneCell _) (by simp only [maxLen]; omega) (by omega) (by simp) ?_; intro v1 w1 hown1 hg1 hat1)
  have HO1 := Lib.hid (show w1.ownsRow w.heap.size 5 1 v1 m (bv bs) by simpa using hown1)
  have HB1 := Lib.hid (((Below.refl _ _).alloc (Nat.le_refl _) _).grown hg1 (by simp) (by simp [Value.ownBlock]))
  clear hown1 hg1 hat1
  refine (refLittle_go none 0 0 [] _ (seen_nil _ _) (Nat.zero_le _) (by simp) v hv k hk n HW.out).mono ?_; rintro e w2 ⟨v2, rfl, hown2, hb2⟩
  rw [List.length_nil, Nat.zero_add, List.nil_append] at hown2
  obtain ⟨A2, c2, rfl, hc2, hs2⟩ := own_seen hown2
  have HS3 := Lib.hid hs2
  have HO2 := Lib.hid (own_only HO1.out (Only.of_below hb2 Nob) (fun _ _ h => h))
  have hb0 : w.heap.size ≤ w2.heap.size := Nat.le_trans HB1.out.size hb2.size
  have HB2 := Lib.hid (HB1.out.trans (hb2.mono HB1.out.size))
  have HLT0 := Lib.hid HO1.out.lt
  have HLT2 := Lib.hid (fun (i : Nat) (hi : (Value.slice A2 k c2).ownBlock = some i) => (own_whole hown2 hi).1)
  clear hs2 hown2 hb2
  go_wp2_with fail
  go_loopw [7, 9] (fun s i wr => ∃ j : Nat, j ≤ k ∧ i = .int .i64 ((j : Int) - 1) ∧ wr.ownsRow w.heap.size 5 1 s (m + (k - j)) (bv (bs ++ ((leb v k).drop j).reverse)) ∧ Only (fun i => v1.ownBlock = some i) w2 wr ∧ (∀ i, s.ownBlock = some i → v1.ownBlock = some i ∨ w2.heap.size ≤ i)) (fun _ i _ => (intOf i + 1).toNat)
  case atStart => exact ⟨k, Nat.le_refl _, rfl, by rw [Nat.sub_self, List.drop_of_length_le (by simp)]; simpa using HO2.out, Only.refl _ _, fun i hi => .inl hi⟩
  case round =>
    obtain ⟨j, hj, rfl, hown, hO, hBB⟩ := hrel
    have HOO := Lib.hid hO; clear hO
    have HBB := Lib.hid hBB; clear hBB
    by_cases hlt : 0 < j
    · obtain ⟨t, rfl⟩ : ∃ t, j = t + 1 := ⟨j - 1, by omega⟩
      have ht : t < (leb v k).length := by simp; omega
      obtain ⟨b, o, u, hA2, hb, hu, hcell⟩ := HS3.out.at (k := t) (by omega)
      have hu' : u = .int .u8 ((leb v k)[t] : Nat) := by rw [bv_get _ _ ht] at hu; exact (Option.some.inj hu).symm
      subst hu'
      have hnb : ¬ v1.ownBlock = some b := by
        intro h
        have h1 := HLT0.out b h
        have h2 := HLT2.out b (by rw [hA2]; rfl)
        omega
      have hc2 : wr.cell? ⟨b, o + t, none⟩ = some (.int .u8 ((leb v k)[t] : Nat)) := HOO.out.cell hcell hnb
      have hd : Hid ((leb v k).drop t = (leb v k)[t] :: (leb v k).drop (t + 1)) := List.drop_eq_getElem_cons ht
      have e1 : (((t + 1 : Nat) : Int) - 1) = (t : Int) := by omega
      rw [e1]
      subst hA2
      clear hu hcell
      have hsz := HOO.out.size
      have HLT := Lib.hid hown.lt
      generalize (leb v k)[t] = x at *
      go_wp2_with (at_builtin; refine wpList_append_seen _ rfl (.tmp 23) (.tmp 28) _ rfl w.heap.size 5 i0 _ 1 1 Try.underlying22 hi0 hz0 hz1 hz2 rfl (by omega) u7 (m + (k - (t + 1))) _ rfl (hown.alloc _) _ _ 1 1 _ rfl (seen_one _ _ _) (by simp [Value.oneCell']) (by simp only [maxLen]; omega) (by omega) (by simp only [World.size_alloc]; omega) ?_; intro v3 w3 hown3 hg3 hat3)
      go_roundw
      case rel =>
        refine ⟨t, by omega, by go_num, ?_, ?_, ?_⟩
        · rw [hd.out, List.reverse_cons, ← List.append_assoc, bv_append, show m + (k - t) = m + (k - (t + 1)) + 1 by omega]
          exact hown3
        · refine (HOO.out.alloc _).grown hg3 (fun i hi hi2 => ?_)
          rcases HBB.out i hi with h | h
          · exact h
          · omega
        · intro i hi
          rcases hat3 with h | h
          · exact HBB.out i (h ▸ hi)
          · rw [h] at hi
            simp at hi
            exact .inr (by omega)
      case measure => simp [intOf]
    · obtain rfl : j = 0 := by omega
      go_wp2_with fail
      go_ret
      refine ⟨_, rfl, by simpa using hown, HB2.out.trans (HOO.out.below hb0 (fun i hi => (HLT0.out i hi).1))⟩
end Go.Proofs.Ytmojclbejmnikaa
