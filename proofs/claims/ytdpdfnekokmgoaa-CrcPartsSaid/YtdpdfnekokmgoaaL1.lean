/-
  The walk of CrcSums: it answers true, and changes nothing that was there. Conditions: the slices are read as told (Seen).
-/
import Derived.Test.YtdpdfnekokmgoaaF1
namespace Go.Proofs.Ytdpdfnekokmgoaa
open Go.RowKit

def LawPost (w : World) (e : Ending) (w' : World) : Prop := e = .returned (.bool true) ∧ Below w.heap.size w w'

theorem sums_long (A : Option Addr) (n c : Nat) (hn : 400 < n) (hm : n ≤ 9223372036854775807) (w : World) : Calls Try.prog 3 #[.slice A n c] w (LawPost w) := by
  have hd : decide ((400 : Int) < n) = true := by simp; omega
  go_enter Try.func3, Try.ntmps3
  go_wp2_with (go_at_call 8; refine (fixed_yes _).mono ?_; rintro e w1 ⟨rfl, hb1⟩)
  go_ret
  exact ⟨rfl, hb1⟩

theorem sums_short (A : Option Addr) (n c : Nat) (bs : List Nat) (hl : bs.length = n) (h256 : ∀ x ∈ bs, x < 256) (hn : n ≤ 400) (w : World) (hs : Seen w w.heap.size 1 A n c (bv bs)) : Calls Try.prog 3 #[.slice A n c] w (LawPost w) := by
  have hd : decide ((400 : Int) < n) = false := by simp; omega
  have HS := Lib.hid hs; clear hs
  have HL := Lib.hid hl; clear hl
  have H256 := Lib.hid h256; clear h256
  go_enter Try.func3, Try.ntmps3
  go_wp2_with fail
  refine (fixed_yes _).mono ?_; rintro e w1 ⟨rfl, hb1⟩
  have HB1 := Lib.hid hb1; clear hb1
  go_wp2_with fail
  refine (sum_any A n c w.heap.size bs HL.out H256.out (by omega) w1 (HS.out.below HB1.out) HB1.out.size).mono ?_; rintro e w2 ⟨rfl, hb2⟩
  have HB2 := Lib.hid (HB1.out.trans (hb2.mono HB1.out.size)); clear hb2
  go_wp2_with fail
  refine (refSum_any A n c w.heap.size bs HL.out H256.out (by omega) w2 (HS.out.below HB2.out) HB2.out.size).mono ?_; rintro e w3 ⟨rfl, hb3⟩
  have HB3 := Lib.hid (HB2.out.trans (hb3.mono HB2.out.size)); clear hb3
  go_wp2_with fail
  go_ret
  exact ⟨by simp, HB3.out⟩

theorem sums_law (A : Option Addr) (len c : Nat) (hm : len ≤ 9223372036854775807) (w : World) (h : ∃ bs : List Nat, bs.length = len ∧ (∀ y ∈ bs, y < 256) ∧ Seen w w.heap.size 1 A len c (bv bs)) :
    Calls Try.prog 3 #[.slice A len c] w (LawPost w) := by
  by_cases hl : len ≤ 400
  · obtain ⟨bs, h1, h2, h3⟩ := h
    exact sums_short A len c bs h1 h2 hl w h3
  · exact sums_long A len c (by omega) hm w
end Go.Proofs.Ytdpdfnekokmgoaa
