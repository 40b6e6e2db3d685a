/-
  Contracts of layer 2 that put numbers: isWidth, grown, Big, Little. Conditions: each theorem names the range of its arguments.
-/
import Derived.Test.YtmojclbejmnikaaV
import Derived.Test.YtmojclbejmnikaaC0
namespace Go.Proofs.Ytmojclbejmnikaa
open Go.RowKit

/-- So many bytes may a number have. -/
def Wide (n : Int) : Prop := n = 1 ∨ n = 2 ∨ n = 4 ∨ n = 8

theorem widthC_yes (n : Int) (h : Wide n) (w : World) : Calls Try.prog 42 #[.int .i64 n] w fun e w' => e = .returned (.bool true) ∧ w = w' := by
  rcases h with rfl | rfl | rfl | rfl
  all_goals
    go_enter Try.func42, Try.ntmps42
    go_wp2
    go_ret
    exact ⟨rfl, rfl⟩
theorem widthC_no (n : Int) (h : ¬ Wide n) (w : World) : Calls Try.prog 42 #[.int .i64 n] w fun e w' => e = .returned (.bool false) ∧ w = w' := by
  have h1 : (n == 1) = false := by simp; intro e; exact h (.inl e)
  have h2 : (n == 2) = false := by simp; intro e; exact h (.inr (.inl e))
  have h4 : (n == 4) = false := by simp; intro e; exact h (.inr (.inr (.inl e)))
  have h8 : (n == 8) = false := by simp; intro e; exact h (.inr (.inr (.inr e)))
  clear h
  go_enter Try.func42, Try.ntmps42
  go_wp2
  go_ret
  exact ⟨rfl, rfl⟩
theorem sizeR_yes (n : Int) (h : Wide n) (w : World) : Calls Try.prog 45 #[.int .i64 n] w fun e w' => e = .returned (.bool true) ∧ w = w' := by
  rcases h with rfl | rfl | rfl | rfl
  all_goals
    go_enter Try.func45, Try.ntmps45
    go_wp2
    go_ret
    exact ⟨rfl, rfl⟩
theorem sizeR_no (n : Int) (h : ¬ Wide n) (w : World) : Calls Try.prog 45 #[.int .i64 n] w fun e w' => e = .returned (.bool false) ∧ w = w' := by
  have h1 : (n == 1) = false := by simp; intro e; exact h (.inl e)
  have h2 : (n == 2) = false := by simp; intro e; exact h (.inr (.inl e))
  have h4 : (n == 4) = false := by simp; intro e; exact h (.inr (.inr (.inl e)))
  have h8 : (n == 8) = false := by simp; intro e; exact h (.inr (.inr (.inr e)))
  clear h
  go_enter Try.func45, Try.ntmps45
  go_wp2
  go_ret
  exact ⟨rfl, rfl⟩

theorem Wide.nat {n : Int} (h : Wide n) : ∃ k : Nat, n = k ∧ 0 < k ∧ k ≤ 8 := by
  rcases h with rfl | rfl | rfl | rfl
  · exact ⟨1, rfl, by omega, by omega⟩
  · exact ⟨2, rfl, by omega, by omega⟩
  · exact ⟨4, rfl, by omega, by omega⟩
  · exact ⟨8, rfl, by omega, by omega⟩

/-- A new block with just these bytes. -/
def GivesBlock (w : World) (bs : List Nat) (e : Ending) (w' : World) : Prop :=
  ∃ g, e = .returned (.slice (some ⟨g, 0, none⟩) bs.length bs.length) ∧ Whole w' g 5 (bv bs).toArray ∧ w.heap.size ≤ g ∧ Below w.heap.size w w'

theorem bv_oneCell (l : List Nat) : ∀ u ∈ bv l, u.oneCell' = true := bytes_oneCell l
theorem byte_size : (Try.prog.info? 5).map (·.size) = some 1 := by kernel_rfl

theorem copy_min {bs : List Nat} {m : Nat} (h : bs.length = m) (k : Nat) : (bv bs).length = Nat.min m (m + k) := by
  rw [bv_length, h]
  exact (Nat.min_eq_left (by omega)).symm
theorem copy_min0 {bs : List Nat} {m : Nat} (h : bs.length = m) : (bv bs).length = Nat.min m m := copy_min h 0
theorem copy_src {w : World} {B : Nat} {A : Option Addr} {m c : Nat} {xs : List Value} (h : Seen w B 1 A m c xs) (d : Addr) : 0 < xs.length → some d = some d ∧ ∃ ad, A = some ad ∧ ∀ j v, xs[j]? = some v → w.cell? (ad.add j) = some v := by
  intro hpos
  refine ⟨rfl, ?_⟩
  obtain ⟨h1, h2, h3⟩ := h
  rcases h3 with ⟨rfl, h3⟩ | ⟨a, ha, h3⟩
  · omega
  · obtain ⟨g1, g2, g3⟩ := h3 (by rintro rfl; simp at hpos)
    obtain ⟨b, o, s⟩ := a
    simp only at g1 g2 g3
    subst g1
    refine ⟨_, ha, fun j v hj => ?_⟩
    rw [Addr.add_lit]
    exact g3 j v hj
theorem copy_made {w : World} {base g N : Nat} (h : w.ownsRow base 5 1 (.slice (some ⟨g, 0, none⟩) N N) N (madeCells (Value.int IntKind.u8 0).cells (N * 1)).toList) : w.heap[g]? = some (.cells (bv (List.replicate N 0)).toArray 5 (0, 0)) := by
  have h1 := own_full h
  rw [show (madeCells (Value.int IntKind.u8 0).cells (N * 1)).toList = bv (List.replicate N 0) by rw [show (Value.int IntKind.u8 0).cells = #[.int .u8 0] from rfl, toList_madeCells_one]; simp [bv]] at h1
  exact h1
theorem copy_done {bs : List Nat} {m : Nat} (h : bs.length = m) (k : Nat) : splice (bv (List.replicate (m + k) 0)) 0 (bv bs) = bv (bs ++ List.replicate k 0) := by
  rw [bv_append]
  unfold splice
  simp [bv, h]

theorem grown_go (A : Option Addr) (c B : Nat) (bs : List Nat) (w : World) (hs : Seen w B 1 A bs.length c (bv bs)) (hB : B ≤ w.heap.size) (hn : bs.length ≤ 1000000) (k : Nat) (hk : k ≤ 8) (n : Int) (hw : (Wide n ∧ n = k) ∨ (¬ Wide n ∧ k = 0)) :
    Calls Try.prog 57 #[.slice A bs.length c, .int .i64 n] w (GivesBlock w (bs ++ List.replicate k 0)) := by
  obtain ⟨i0, hi0, hz0, hz1, hz2⟩ := info_parts byte_info
  have HS := Lib.hid hs; clear hs
  obtain ⟨m, hm⟩ : ∃ m, bs.length = m := ⟨_, rfl⟩
  have HM := Lib.hid hm
  rw [hm] at hn
  have HS2 : Hid (Seen w B 1 A m c (bv bs)) := by rw [← hm]; exact HS.out
  rw [hm]
  clear hm HS
  have hO : i0.bytes * (m + k) ≤ 281474976710656 := by rw [hz2]; omega
  rcases hw with ⟨hw, rfl⟩ | ⟨hw, rfl⟩
  · have HWd := Lib.hid hw; clear hw
    go_enter Try.func57, Try.ntmps57
    go_wp2_with (first
      | (go_at_call 42; refine (widthC_yes _ HWd.out _).mono ?_; rintro e w' ⟨rfl, rfl⟩)
      | (at_make; refine wpList_make_full _ rfl _ _ 22 rfl w.heap.size 5 i0 _ 1 Try.underlying22 hi0 hz0 hz1 _ _ ((m : Int) + k) ((m : Int) + k) (m + k) rfl rfl (by simp) (by simp) hO (by simp only [maxLen]; omega) (Nat.le_refl _) ?_; intro w1 hown1 hg1)
      | (with_reducible refine wpList_copy_splice rfl (.tmp 14) (.tmp 15) 22 22 rfl 5 Try.underlying22 byte_size _ _ _ _ _ _ rfl rfl w.heap.size 0 (bv (List.replicate (m + k) 0)) 5 (copy_made hown1) (bv bs) (copy_min HM.out k) (copy_src (HS2.out.below ((Below.refl _ _).grown hg1 hB (by simp))) _) (by rw [bv_length, bv_length, List.length_replicate, HM.out]; omega) (bv_oneCell _) w.heap.size w ((Below.refl _ _).grown hg1 (Nat.le_refl _) (by simp)) (Nat.le_refl _) ?_; intro w2 hW2 hb2))
    go_ret
    refine ⟨w.heap.size, ?_, ?_, Nat.le_refl _, hb2⟩
    · simp [HM.out]
    · have h3 := hW2.out
      rw [copy_done HM.out] at h3
      exact h3
  · have HWd := Lib.hid hw; clear hw
    go_enter Try.func57, Try.ntmps57
    go_wp2_with (first
      | (go_at_call 42; refine (widthC_no _ HWd.out _).mono ?_; rintro e w' ⟨rfl, rfl⟩)
      | (at_make; refine wpList_make_full _ rfl _ _ 22 rfl w.heap.size 5 i0 _ 1 Try.underlying22 hi0 hz0 hz1 _ _ ((m : Int)) ((m : Int)) m rfl rfl rfl rfl hO (by simp only [maxLen]; omega) (Nat.le_refl _) ?_; intro w1 hown1 hg1)
      | (with_reducible refine wpList_copy_splice rfl (.tmp 14) (.tmp 15) 22 22 rfl 5 Try.underlying22 byte_size _ _ _ _ _ _ rfl rfl w.heap.size 0 (bv (List.replicate m 0)) 5 (copy_made hown1) (bv bs) (copy_min0 HM.out) (copy_src (HS2.out.below ((Below.refl _ _).grown hg1 hB (by simp))) _) (by rw [bv_length, bv_length, List.length_replicate, HM.out]; omega) (bv_oneCell _) w.heap.size w ((Below.refl _ _).grown hg1 (Nat.le_refl _) (by simp)) (Nat.le_refl _) ?_; intro w2 hW2 hb2))
    go_ret
    refine ⟨w.heap.size, ?_, ?_, Nat.le_refl _, hb2⟩
    · simp [HM.out]
    · have h3 := hW2.out
      rw [show splice (bv (List.replicate m 0)) 0 (bv bs) = bv (bs ++ List.replicate 0 0) from copy_done HM.out 0] at h3
      exact h3

theorem shr_byte (v k : Nat) : ((v : Int) / 2 ^ (8 * k)) % 256 = ((v / 256 ^ k % 256 : Nat) : Int) := by
  rw [show (256 : Nat) = 2 ^ 8 from rfl, ← Nat.pow_mul]
  simp
theorem little_set {bs : List Nat} {m : Nat} (hm : bs.length = m) (v j k : Nat) (h : j < k) : (bs ++ leb v j ++ List.replicate (k - j) 0).set (m + j) (v / 256 ^ j % 256) = bs ++ leb v (j + 1) ++ List.replicate (k - (j + 1)) 0 := by
  have h1 := set_back bs (leb v j) (k - (j + 1)) (v / 256 ^ j % 256)
  rw [leb_length, hm, show k - (j + 1) + 1 = k - j by omega] at h1
  rw [h1, leb_succ]
theorem big_set {bs : List Nat} {m : Nat} (hm : bs.length = m) (v j k : Nat) (h : j < k) : (bs ++ List.replicate (k - j) 0 ++ (leb v j).reverse).set (m + (k - j - 1)) (v / 256 ^ j % 256) = bs ++ List.replicate (k - (j + 1)) 0 ++ (leb v (j + 1)).reverse := by
  have h1 := set_front bs (leb v j).reverse (k - j - 1) (v / 256 ^ j % 256)
  rw [hm, show k - j - 1 + 1 = k - j by omega] at h1
  rw [h1, leb_succ, List.reverse_append, show k - (j + 1) = k - j - 1 by omega]
  rfl

set_option maxHeartbeats 1000000 in
theorem big_go (A : Option Addr) (c B : Nat) (bs : List Nat) (w : World) (hs : Seen w B 1 A bs.length c (bv bs)) (hB : B ≤ w.heap.size) (hn : bs.length ≤ 1000000) (v : Nat) (k : Nat) (hk : k ≤ 8) (n : Int) (hw : (Wide n ∧ n = k) ∨ (¬ Wide n ∧ k = 0)) :
    Calls Try.prog 50 #[.slice A bs.length c, .int .u64 v, .int .i64 n] w (GivesBlock w (bs ++ (leb v k).reverse)) := by
  have HS := Lib.hid hs; clear hs
  have HW := Lib.hid hw; clear hw
  go_enter Try.func50, Try.ntmps50
  go_wp2_with fail
  refine (grown_go A c B bs _ HS.out hB hn k hk n HW.out).mono ?_; rintro e w1 ⟨g, rfl, hWh, hg, hb1⟩
  have hlen : (bs ++ List.replicate k 0).length = bs.length + k := by simp
  rw [hlen]
  have HWh := Lib.hid hWh; clear hWh
  have HB1 := Lib.hid hb1; clear hb1 hlen
  obtain ⟨m, hm⟩ : ∃ m, bs.length = m := ⟨_, rfl⟩
  rw [hm] at hn ⊢
  have HM := Lib.hid hm; clear hm
  have e16 : (m : Int) + k - m = k := by omega
  go_wp2_with fail
  go_loopw [17] (fun i wr => ∃ j : Nat, j ≤ k ∧ i = .int .i64 j ∧ Whole wr g 5 (bv (bs ++ List.replicate (k - j) 0 ++ (leb v j).reverse)).toArray ∧ Below w.heap.size w wr) (fun i _ => k - (intOf i).toNat)
  case atStart => exact ⟨0, Nat.zero_le _, rfl, by simpa [leb] using HWh.out, HB1.out⟩
  case round =>
    obtain ⟨j, hj, rfl, hWr, hbel⟩ := hrel
    by_cases hlt : j < k
    · have eix : (m : Int) + k - 1 - j = ((m + (k - j - 1) : Nat) : Int) := by omega
      have hc : ∃ old, wr.cell? ⟨g, m + (k - j - 1), none⟩ = some old := by
        rw [hWr.cell, List.getElem?_toArray, List.getElem?_eq_getElem (by rw [bv_length]; have := HM.out; simp; omega)]
        exact ⟨_, rfl⟩
      obtain ⟨old, hc⟩ := hc
      have hf := hWr.frozen (m + (k - j - 1))
      have HWr := Lib.hid hWr; clear hWr
      have HBel := Lib.hid hbel; clear hbel
      have hx := Lib.hid (shr_byte v j)
      go_wp2_with fail
      go_roundw
      case rel =>
        refine ⟨j + 1, by omega, by go_num, ?_, HBel.out.setCell hg _⟩
        have h1 := HWr.out.put (m + (k - j - 1)) (.int .u8 ((v / 256 ^ j % 256 : Nat) : Int))
        rw [List.setIfInBounds_toArray, bv_set] at h1
        rw [hx.out, ← big_set HM.out v j k hlt]
        exact h1
      case measure => simp [intOf]; omega
    · obtain rfl : k = j := by omega
      go_wp2_with fail
      go_ret
      rw [Nat.sub_self] at hWr
      refine ⟨g, ?_, by simpa using hWr, hg, hbel⟩
      simp [HM.out]
end Go.Proofs.Ytmojclbejmnikaa
