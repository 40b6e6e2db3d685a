/-
  The calls whose answers the document fixes (layer 5). Conditions: none.
-/
import Derived.Test.YtijjcecboepiiaaD4
namespace Go.Proofs.Ytijjcecboepiiaa
open Go.RowKit

def l122 : List Int := [1, 2, 2]
theorem k122 : kindOf l122 ≠ 0 := by decide
theorem iv122 : iv l122 = [.int .i64 1, .int .i64 2, .int .i64 2] := rfl
theorem wrow122 : wrow l122 3 3 = [.int .u32 0, .int .u32 2, .int .u32 3] := by rfl
theorem got122 {j er m : Nat} (h : CodeGot l122 ((unpack [1]).drop 0) j er m) : j = 1 ∧ er = 0 := by
  have e : lookup l122 ((unpack [1]).drop 0) = .found 2 2 := by rfl
  unfold CodeGot at h
  rw [e] at h
  obtain ⟨h1, h2, h3, h4, _⟩ := h
  refine ⟨?_, h4⟩
  have : j = 0 ∨ j = 1 ∨ j = 2 := by have : l122.length = 3 := rfl; omega
  rcases this with rfl | rfl | rfl
  · exact absurd h2 (by decide)
  · rfl
  · exact absurd h3 (by decide)

set_option maxHeartbeats 1000000 in
set_option maxRecDepth 100000 in
theorem fixed_any (w : World) : Calls Try.prog 17 #[] w fun e w' => e = .returned (.bool true) ∧ Below w.heap.size w w' := by
  go_enter Try.func17, Try.ntmps17
  go_wp2_with fail
  refine (words_any _ 3 3 (w.heap.size + 1) l122 rfl (by omega) k122 _ (by rw [iv122]; exact seen_lit w 3 [.int .i64 1, .int .i64 2, .int .i64 2]) (by simp)).mono ?_
  rintro e w1 ⟨v1, rfl, ho1, hb1⟩
  obtain ⟨A1, c1, rfl, _, hs1⟩ := own_seen ho1
  have B1 : Hid (Below w.heap.size w w1) := Lib.hid (((Below.refl _ _).alloc (Nat.le_refl _) _).trans (hb1.mono (by simp)))
  have S1 := Lib.hid hs1
  clear ho1 hb1 hs1
  go_wp2_with fail
  refine (new_any _ 3 3 (w1.heap.size + 1) l122 rfl (by omega) k122 _ (by rw [iv122]; exact seen_lit w1 3 [.int .i64 1, .int .i64 2, .int .i64 2]) (by simp)).mono ?_
  rintro e w2 ⟨g, rfl, hc2, hg2, hb2⟩
  have B2 : Hid (Below w1.heap.size w1 w2) := Lib.hid (((Below.refl _ _).alloc (Nat.le_refl _) _).trans (hb2.mono (by simp)))
  have C2 := Lib.hid hc2
  clear hc2 hb2 hg2
  go_wp2_with fail
  refine (newWriter_any _).mono ?_
  rintro e w3 ⟨rfl, hW3, hb3⟩
  have B3 := Lib.hid hb3
  have W3 := Lib.hid hW3
  have C3 := Lib.hid (C2.out.below hb3)
  clear hb3 hW3
  go_wp2_with fail
  refine (codePut_yes _ g l122 3 rfl k122 _ _ _ _ 1 _ C3.out W3.out (by simp) (by omega) (by decide)).mono ?_
  rintro e w4 ⟨rfl, sv4, hW4, hO4, _⟩
  have hz3 := B3.out.size
  have W4 : Hid (WriterAt w4 w2.heap.size w2.heap.size sv4 [true, false]) := Lib.hid hW4
  have B34 : Hid (Below w2.heap.size w3 w4) := Lib.hid (hO4.below hz3 (by intro k hk; rcases hk with rfl | hk; exact Nat.le_refl _; cases hk))
  have B24 : Hid (Below w2.heap.size w2 w4) := Lib.hid (B3.out.trans B34.out)
  clear hW4 hO4
  go_wp2_with fail
  refine (newReader_any _ 1 1 (w4.heap.size + 1) [1] _ rfl (by exact seen_lit w4 5 [.int .u8 1]) (by simp) (by omega)).mono ?_
  rintro e w5 ⟨gr, sv5, rfl, hR5, hb5⟩
  have hz24 := B24.out.size
  have hz5 := hb5.size
  have B45 : Hid (Below w4.heap.size w4 w5) := Lib.hid (((Below.refl _ _).alloc (Nat.le_refl _) _).trans (hb5.mono (by simp)))
  have R5 := Lib.hid hR5
  have C5 : Hid (CodeAt w5 w2.heap.size g l122 3) := Lib.hid (C2.out.below (B24.out.trans (B45.out.mono hz24)))
  have hgr : w2.heap.size ≤ gr := by have := hR5.1; simp at this; omega
  have hgr4 : w4.heap.size ≤ gr := by have := hR5.1; simp at this; omega
  clear hR5 hb5
  go_wp2_with fail
  refine (codeGet_any w2.heap.size g l122 3 rfl (by omega) k122 _ gr sv5 [1] 0 _ C5.out R5.out hgr (by simp) (by simp) (by simp)).mono ?_
  rintro e w6 ⟨j, er, m, hgot, rfl, hR6, hO6⟩
  obtain ⟨rfl, rfl⟩ := got122 hgot
  have B56 : Hid (Below w4.heap.size w5 w6) := Lib.hid (hO6.below B45.out.size (by intro k hk; have : k = gr := hk; omega))
  have B46 : Hid (Below w4.heap.size w4 w6) := Lib.hid (B45.out.trans B56.out)
  have B26 : Hid (Below w2.heap.size w2 w6) := Lib.hid (B24.out.trans (B46.out.mono hz24))
  have hz12 := B2.out.size
  have B16 : Hid (Below w1.heap.size w1 w6) := Lib.hid (B2.out.trans (B26.out.mono hz12))
  have hz1 := B1.out.size
  have B06 : Hid (Below w.heap.size w w6) := Lib.hid (B1.out.trans (B16.out.mono hz1))
  have W6 : Hid (WriterAt w6 w2.heap.size w2.heap.size sv4 [true, false]) := Lib.hid ⟨W4.out.1, (B46.out.block _ W4.out.2.1.lt).trans W4.out.2.1, own_only W4.out.2.2 (Only.of_below B46.out Nob) (fun _ _ h => h)⟩
  have C6 : Hid (CodeAt w6 w2.heap.size g l122 3) := Lib.hid (C2.out.below B26.out)
  have S6 := S1.out.below B16.out
  rw [wrow122] at S6
  obtain ⟨b, o, u0, rfl, _, q0, x0⟩ := S6.at (k := 0) (by omega)
  obtain ⟨b1, o1, u1, hA1, _, q1, x1⟩ := S6.at (k := 1) (by omega)
  obtain ⟨b2, o2, u2, hA2, _, q2, x2⟩ := S6.at (k := 2) (by omega)
  injection hA1 with hA1
  injection hA1 with hb1 ho1
  subst hb1 ho1
  injection hA2 with hA2
  injection hA2 with hb2 ho2
  subst hb2 ho2
  simp at q0 q1 q2
  subst q0 q1 q2
  simp only [Nat.add_zero] at x0
  have hL6 := Lib.hid (writerBytes_any w2.heap.size w2.heap.size sv4 [true, false] w6 W6.out (by simp))
  clear hgot hR6 hO6 S6
  go_wp2_with fail
  refine hL6.out.mono ?_
  rintro e w7 ⟨v7, rfl, ho7, hb7⟩
  obtain ⟨A7, c7, rfl, _, hs7⟩ := own_seen ho7
  have hs7' : Seen w7 w7.heap.size 1 A7 1 c7 ([1].map fun x : Nat => Value.int .u8 x) := hs7
  have hcv := conv_seen hs7'
  have es : strOf [1] = ⟨#[1]⟩ := rfl
  rw [es] at hcv
  have C7 : Hid (CodeAt w7 w2.heap.size g l122 3) := Lib.hid (C6.out.below (hb7.mono B26.out.size))
  have B07 : Hid (Below w.heap.size w w7) := Lib.hid (B06.out.trans (hb7.mono B06.out.size))
  clear ho7 hb7 hs7 hs7' es
  go_wp2_with (first
    | (go_at_call 24; refine (signs_any _ g l122 3 _ C7.out).mono ?_; rintro e w8 ⟨rfl, rfl⟩)
    | (go_at_call 25; refine (codePut_no _ g l122 3 rfl k122 _ 3 _ C7.out (.inr (.inl (by omega)))).mono ?_; rintro e w9 ⟨rfl, rfl⟩))
  go_ret
  exact ⟨rfl, B07.out⟩
end Go.Proofs.Ytijjcecboepiiaa
