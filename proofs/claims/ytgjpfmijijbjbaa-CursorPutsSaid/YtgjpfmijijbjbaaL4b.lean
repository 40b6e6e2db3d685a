/-
  CursorPuts, whatever the arguments: the two walks joined. Conditions: the slice is read as told (Seen).
-/
import Derived.Test.YtgjpfmijijbjbaaL4
namespace Go.Proofs.Ytgjpfmijijbjbaa
open Go.RowKit

theorem u64_of_wf {x : Int} (h : (Lit.int .u64 x).wf = true) : 0 ≤ x ∧ x < 18446744073709551616 := by
  simp [Lit.wf, IntKind.min, IntKind.max, IntKind.signed, IntKind.bits] at h
  omega
theorem puts_law (A : Option Addr) (len c : Nat) (hm : len ≤ 9223372036854775807) (v n : Int) (hv : (Lit.int .u64 v).wf = true) (w : World) (h : ∃ bs : List Nat, bs.length = len ∧ (∀ y ∈ bs, y < 256) ∧ Seen w w.heap.size 1 A len c (bv bs)) :
    Calls Try.prog 8 #[.slice A len c, .int .u64 v, .int .i64 n] w (LawPost w) := by
  by_cases hl : len ≤ 500
  · obtain ⟨bs, rfl, _, hs⟩ := h
    obtain ⟨v, rfl⟩ := Int.eq_ofNat_of_zero_le (u64_of_wf hv).1
    have hv2 := (u64_of_wf hv).2
    by_cases hw : Wide n
    · obtain ⟨k, rfl, _, hk⟩ := hw.nat
      exact puts_short A c bs hl v (by omega) k hk k (.inl ⟨hw, rfl⟩) w hs
    · exact puts_short A c bs hl v (by omega) 0 (by omega) n (.inr ⟨hw, rfl⟩) w hs
  · exact puts_long A len c (by omega) hm v n w
end Go.Proofs.Ytgjpfmijijbjbaa
