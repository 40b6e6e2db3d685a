/-
  The walk of LengthsKind: it answers true, and changes nothing that was there. Conditions: the slice is read as told (Seen).
-/
import Derived.Test.YtijjcecboepiiaaF2
import Derived.Test.YtijjcecboepiiaaO1
namespace Go.Proofs.Ytijjcecboepiiaa
open Go.RowKit

theorem kind_law (A : Option Addr) (n c : Nat) (hm : n ≤ 9223372036854775807) (w : World) (hp : ∃ l : List Int, l.length = n ∧ (∀ y ∈ l, -9223372036854775808 ≤ y ∧ y < 9223372036854775808) ∧ Seen w w.heap.size 1 A n c (iv l)) :
    Calls Try.prog 3 #[.slice A n c] w fun e w' => e = .returned (.bool true) ∧ Below w.heap.size w w' := by
  obtain ⟨l, hn, _, hs⟩ := hp
  have HS := Lib.hid hs; clear hs
  have HN := Lib.hid hn; clear hn
  by_cases h : 1000 < n
  · go_enter Try.func3, Try.ntmps3
    go_wp2_with (go_at_call 10; refine (fixed4_any _).mono ?_; rintro e w1 ⟨rfl, hb1⟩; have B1 := Lib.hid hb1; clear hb1)
    go_ret
    exact ⟨rfl, B1.out⟩
  · have d : decide ((1000 : Int) < n) = false := by simp; omega
    go_enter Try.func3, Try.ntmps3
    go_wp2_with (first
      | (go_at_call 10; refine (fixed4_any _).mono ?_; rintro e w1 ⟨rfl, hb1⟩; have B1 := Lib.hid hb1; clear hb1)
      | (go_at_call 11; refine (kind_any A n c w.heap.size l HN.out (by omega) _ (HS.out.below B1.out)).mono ?_; rintro e w2 ⟨rfl, rfl⟩)
      | (go_at_call 12; refine (refKind_any A n c w.heap.size l HN.out (by omega) _ (HS.out.below B1.out)).mono ?_; rintro e w3 ⟨rfl, rfl⟩))
    go_ret
    exact ⟨by simp, B1.out⟩
end Go.Proofs.Ytijjcecboepiiaa
