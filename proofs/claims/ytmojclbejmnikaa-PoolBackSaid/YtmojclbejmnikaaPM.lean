/-
  The bytes of the program's constants. Conditions: texts of at most a hundred thousand bytes, bits of sixty-four.
-/
import Derived.Test.YtmojclbejmnikaaPC
import Derived.Deep.RegionHeld3
import Derived.Lib.AppendStr
namespace Go.Proofs.Ytmojclbejmnikaa
open Go Go.RowKit
set_option maxRecDepth 100000

theorem u64_conv (n : Int) : IntKind.u64.wrap n = ((u64N n : Nat) : Int) := by rw [IntKind.wrap_u64]; unfold u64N; omega
theorem u64_lt (n : Int) : u64N n < 18446744073709551616 := by unfold u64N; omega
/-- A row of bytes of a call's own, in a world that is else as it was. -/
def GivesB (w : World) (n : Nat) (l : List Nat) (e : Ending) (w' : World) : Prop := ∃ A c, e = .returned (.slice A n c) ∧ c ≤ maxLen ∧ w'.ownsRow w.heap.size 5 1 (.slice A n c) n (bv l) ∧ Below w.heap.size w w'
theorem GivesB.block {w w' : World} {l : List Nat} {n g : Nat} (hW : Whole w' g 5 (bv l).toArray) (hg : w.heap.size ≤ g) (hb : Below w.heap.size w w') (hn : l.length = n) (hm : n ≤ 1000000) : GivesB w n l (.returned (.slice (some ⟨g, 0, none⟩) n n)) w' :=
  ⟨_, _, rfl, by simp only [maxLen]; omega, own_of_whole hW (by simp [hn]) (by simp only [maxLen]; omega) hg, hb⟩
theorem GivesB.seen {w' : World} {B : Nat} {A : Option Addr} {n c : Nat} {l : List Nat} (h : w'.ownsRow B 5 1 (.slice A n c) n (bv l)) : Seen w' w'.heap.size 1 A n c (bv l) := Seen.of_own h

set_option maxHeartbeats 4000000 in
theorem two_any (n : Int) (w : World) : Calls Try.prog 33 #[.int .i64 n] w (GivesB w 2 (beN (u64N n) 2)) := by
  have hu := u64_conv n
  have BG := Lib.hid (big_go none 0 0 [] w (seen_nil _ _) (Nat.zero_le _) (by simp) (u64N n) 2 (by omega) 2 (.inl ⟨by unfold Wide; omega, rfl⟩))
  go_enter Try.func33, Try.ntmps33
  go_wp2_with fail
  refine BG.out.mono ?_
  rintro e w1 ⟨g, rfl, h1, h2, h3⟩
  have H1 := Lib.hid h1
  have H2 := Lib.hid (And.intro h2 h3)
  clear h1 h2 h3
  go_wp2_with fail
  go_ret
  exact GivesB.block (l := beN (u64N n) 2) H1.out H2.out.1 H2.out.2 (beN_len _ _) (by decide)
theorem num_bytes_any (v k : Nat) (hk : k = 4 ∨ k = 8) (w : World) : Calls Try.prog 78 #[.agg #[.int .u64 v, .int .i64 k]] w (GivesB w k (beN v k)) := by
  have BG := Lib.hid (big_go none 0 0 [] (w.alloc (.cells #[.int .u64 v, .int .i64 k] 80)) (seen_nil _ _) (Nat.zero_le _) (by simp) v k (by omega) k (.inl ⟨by unfold Wide; omega, rfl⟩))
  go_enter Try.func78, Try.ntmps78
  go_wp2_with fail
  refine BG.out.mono ?_
  rintro e w1 ⟨g, rfl, h1, h2, h3⟩
  have H1 := Lib.hid h1
  have H2 := Lib.hid h2
  have H3 := Lib.hid h3
  clear h1 h2 h3
  go_wp2_with fail
  go_ret
  refine GivesB.block (l := beN v k) H1.out ?_ ?_ (beN_len _ _) (by omega)
  · have := H2.out; rw [World.size_alloc] at this; omega
  · exact ((Below.refl _ _).alloc (Nat.le_refl _) _).trans (H3.out.mono (by rw [World.size_alloc]; omega))
theorem of_bytes_any (i : Int) (w : World) : Calls Try.prog 80 #[.agg #[.int .i64 i]] w (GivesB w 2 (beN (u64N i) 2)) := by
  have TW := Lib.hid (two_any i (w.alloc (.cells #[.int .i64 i] 82)))
  go_enter Try.func80, Try.ntmps80
  go_wp2_with fail
  refine TW.out.mono ?_
  rintro e w1 ⟨A, c, rfl, h0, h1, h2⟩
  have H1 := Lib.hid h1
  have H2 := Lib.hid h2
  clear h1 h2
  go_wp2_with fail
  go_ret
  exact ⟨A, c, rfl, h0, own_base H1.out (by rw [World.size_alloc]; omega), ((Below.refl _ _).alloc (Nat.le_refl _) _).trans (H2.out.mono (by rw [World.size_alloc]; omega))⟩
end Go.Proofs.Ytmojclbejmnikaa
