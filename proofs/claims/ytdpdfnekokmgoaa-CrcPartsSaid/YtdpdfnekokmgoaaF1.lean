/-
  The first check of every statement on layer 3, called fixed, answers true; the document's Seal. Conditions: each theorem names the range of its arguments.
-/
import Derived.Test.YtdpdfnekokmgoaaD2
import Derived.Lib.SlBytesConst
namespace Go.Proofs.Ytdpdfnekokmgoaa
open Go.RowKit

theorem refSeal_any (A : Option Addr) (c B : Nat) (bs : List Nat) (h256 : ∀ x ∈ bs, x < 256) (hn : bs.length ≤ 1000) (w : World) (hs : Seen w B 1 A bs.length c (bv bs)) (hB : B ≤ w.heap.size) :
    Calls Try.prog 15 #[.slice A bs.length c] w (GivesRow w 5 1 (bs.length + 4) (bv (bs ++ leb (crc bs) 4))) := by
  have HS := Lib.hid hs; clear hs
  have H256 := Lib.hid h256; clear h256
  have hc32 := crc_lt bs
  have wc : IntKind.u64.wrap ((crc bs : Nat) : Int) = (crc bs : Nat) := IntWalk.u64_in _ (by omega)
  go_enter Try.func15, Try.ntmps15
  go_wp2_with (first
    | (go_at_call 10; refine (refSum_any A _ c B bs rfl H256.out hn _ HS.out hB).mono ?_; rintro e w1 ⟨rfl, hb1⟩)
    | (go_at_call 27; refine (refLittle_go A c B bs _ (HS.out.below (hb1.mono hB)) (Nat.le_trans hB hb1.size) (by omega) (crc bs) (by omega) 4 (by omega) 4 (.inl ⟨.inr (.inr (.inl rfl)), rfl⟩)).mono ?_; rintro e w2 ⟨v, rfl, ho2, hb2⟩))
  go_ret
  exact ⟨v, rfl, own_base ho2 hb1.size, hb1.trans (hb2.mono hb1.size)⟩

theorem seal_row (A : Option Addr) (c B : Nat) (bs : List Nat) (h256 : ∀ x ∈ bs, x < 256) (hn : bs.length ≤ 1000) (w : World) (hs : Seen w B 1 A bs.length c (bv bs)) (hB : B ≤ w.heap.size) :
    Calls Try.prog 14 #[.slice A bs.length c] w (GivesRow w 5 1 (bs.length + 4) (bv (bs ++ leb (crc bs) 4))) := by
  refine (seal_any A c B bs h256 (by omega) w hs hB).mono ?_
  rintro e w' ⟨g, rfl, hW, hg, hb⟩
  have hl : (bs ++ leb (crc bs) 4).length = bs.length + 4 := by simp
  refine ⟨_, rfl, ?_, hb⟩
  rw [hl]
  exact own_of_whole hW (by rw [bv_length, hl]) (by simp only [maxLen]; omega) hg

theorem open_all (A : Option Addr) (n c B : Nat) (bs : List Nat) (hl : bs.length = n) (h256 : ∀ x ∈ bs, x < 256) (hn : n ≤ 1000000) (w : World) (hs : Seen w B 1 A n c (bv bs)) (hB : B ≤ w.heap.size) :
    Calls Try.prog 13 #[.slice A n c] w (OpenRes w (opened bs)) := by
  subst hl
  by_cases h4 : 4 ≤ bs.length
  · exact open_any A c B bs h256 hn w hs hB h4
  · refine (open_end A bs.length c (by omega) w).mono ?_
    rintro e w' ⟨rfl, rfl⟩
    have : opened bs = ([], 6) := by unfold opened; rw [if_pos (by omega)]
    rw [this]
    exact ⟨_, rfl, World.ownsRow_nil _ _ _ _, Below.refl _ _⟩

theorem opened_sealed (bs : List Nat) : opened (bs ++ leb (crc bs) 4) = (bs, 0) := by
  have h := opened_yes (bs ++ leb (crc bs) 4) bs.length (by simp) (by
    rw [List.drop_left, List.take_left, len_leb]
    exact Nat.mod_eq_of_lt (crc_lt bs))
  rw [h, List.take_left]

theorem seal_lt (bs : List Nat) (h256 : ∀ x ∈ bs, x < 256) : ∀ x ∈ bs ++ leb (crc bs) 4, x < 256 := by
  intro x hx
  rcases List.mem_append.1 hx with h | h
  · exact h256 x h
  · exact leb_lt _ _ x h

theorem seen_mark (w : World) (t : TypeId) (xs : List Value) (fr : Nat × Nat) : Seen (w.alloc (.cells xs.toArray t fr)) (w.heap.size + 1) 1 (some ⟨w.heap.size, 0, none⟩) xs.length xs.length xs := by
  refine ⟨by simp, Nat.le_refl _, .inr ⟨_, rfl, fun _ => ⟨rfl, by simp, fun j x hx => ?_⟩⟩⟩
  rw [cell_of_row _ w.heap.size (0 + j) xs.toArray t fr (heap_alloc_new w _)]
  simpa using hx
theorem conv_same (W : World) (C : Array Value) (n c : Nat) : (convert 22 22 (.slice (some ⟨W.heap.size, 0, none⟩) n c)).run Try.prog (W.alloc (.cells C 5)) = .ok (.slice (some ⟨W.heap.size, 0, none⟩) n c) (W.alloc (.cells C 5 (C.size, C.size + 1))) :=
  Lib.run_convert_bytes_const W 22 5 C n c Try.underlying22 Try.underlying5

set_option maxHeartbeats 1000000 in
theorem fixed_yes (w : World) : Calls Try.prog 8 #[] w fun e w' => e = .returned (.bool true) ∧ Below w.heap.size w w' := by
  have cs := conv_same
  go_enter Try.func8, Try.ntmps8
  go_wp2_with fail
  refine (seal_row _ _ _ [97, 98] (by decide) (by simp) _ (seen_mark w 5 (bv [97, 98]) _) (by simp)).mono ?_; rintro e w1 ⟨v1, rfl, ho1, hb1⟩
  obtain ⟨A1, c1, rfl, hc1, hs1⟩ := own_seen ho1
  have HB1 : Hid (Below w.heap.size w w1) := Lib.hid (((Below.refl _ _).alloc (Nat.le_refl _) _).trans (hb1.mono (by simp)))
  have HS1 := Lib.hid hs1; clear hs1 ho1 hb1
  go_wp2_with fail
  refine (open_all A1 _ c1 _ ([97, 98] ++ leb (crc [97, 98]) 4) (by simp) (seal_lt _ (by decide)) (by simp) w1 HS1.out (Nat.le_refl _)).mono ?_; rintro e w2 ⟨v2, rfl, ho2, hb2⟩
  rw [opened_sealed] at ho2 ⊢
  obtain ⟨A2, c2, rfl, hc2, hs2⟩ := own_seen ho2
  have HB2 := Lib.hid (HB1.out.trans (hb2.mono HB1.out.size))
  have HS2 := Lib.hid hs2; clear hs2 ho2 hb2 HS1 HB1
  go_wp2_with fail
  refine (open_all _ 3 3 _ [97, 98, 99] rfl (by decide) (by omega) _ (seen_mark w2 5 (bv [97, 98, 99]) _) (by simp)).mono ?_; rintro e w3 ⟨v3, rfl, ho3, hb3⟩
  rw [show opened [97, 98, 99] = ([], 6) from rfl] at ho3 ⊢
  obtain ⟨A3, c3, rfl, hc3, _⟩ := own_seen ho3
  have HB3 : Hid (Below w.heap.size w w3) := Lib.hid (HB2.out.trans (((Below.refl _ _).alloc HB2.out.size _).trans (hb3.mono (by have := HB2.out.size; simp; omega))))
  have HS3 := Lib.hid (HS2.out.below ((((Below.refl _ _).alloc (Nat.le_refl _) _).trans (hb3.mono (by simp)))))
  have hz23 : w2.heap.size ≤ w3.heap.size := by have := hb3.size; simp at this; omega
  clear ho3 hb3 HB2 HS2
  go_wp2_with fail
  refine (sum_any _ 9 9 _ [49, 50, 51, 52, 53, 54, 55, 56, 57] rfl (by decide) (by omega) _ (seen_mark w3 5 (bv [49, 50, 51, 52, 53, 54, 55, 56, 57]) _) (by simp)).mono ?_; rintro e w4 ⟨rfl, hb4⟩
  rw [show crc [49, 50, 51, 52, 53, 54, 55, 56, 57] = 3421780262 by decide +kernel]
  have HB4 : Hid (Below w.heap.size w w4) := Lib.hid (HB3.out.trans (((Below.refl _ _).alloc HB3.out.size _).trans (hb4.mono (by have := HB3.out.size; simp; omega))))
  have HS4 := Lib.hid (HS3.out.below ((((Below.refl w3.heap.size w3).alloc (Nat.le_refl _) _).trans (hb4.mono (by simp))).mono hz23))
  have hz24 : w2.heap.size ≤ w4.heap.size := by have := hb4.size; simp at this; omega
  clear hb4 HB3 HS3 hz23
  go_wp2_with fail
  refine (sum_any none 0 0 0 [] rfl (by simp) (by omega) w4 (seen_nil _ _) (Nat.zero_le _)).mono ?_; rintro e w5 ⟨rfl, hb5⟩
  rw [show crc [] = 0 from rfl]
  have HB5 := Lib.hid (HB4.out.trans (hb5.mono HB4.out.size))
  have HS5 := Lib.hid (HS4.out.below (hb5.mono hz24))
  have cv5 := conv_seen HS5.out
  rw [show strOf [97, 98] = ⟨#[97, 98]⟩ from rfl, show ([97, 98] : List Nat).length = 2 from rfl] at cv5
  clear hb5 HB4 HS4 HS5
  go_wp2_with fail
  refine (burst_any _ 1 _ [0] 1 rfl (by decide) (by omega) 1 (by omega) (by omega) 3 (by omega) _ (seen_lit w5 5 (bv [0])) (by simp)).mono ?_; rintro e w6 ⟨v6, rfl, ho6, hb6⟩
  rw [show burst [0] 1 3 = [6] by decide] at ho6
  obtain ⟨A6, c6, rfl, hc6, hs6⟩ := own_seen ho6
  have cv6 := conv_seen hs6
  rw [show strOf [6] = ⟨#[6]⟩ from rfl] at cv6
  have HB6 : Hid (Below w.heap.size w w6) := Lib.hid (HB5.out.trans (((Below.refl _ _).alloc HB5.out.size _).trans (hb6.mono (by have := HB5.out.size; simp; omega))))
  clear ho6 hs6 hb6 HB5 cv5
  go_wp2_with fail
  go_ret
  exact ⟨rfl, HB6.out⟩
end Go.Proofs.Ytdpdfnekokmgoaa
