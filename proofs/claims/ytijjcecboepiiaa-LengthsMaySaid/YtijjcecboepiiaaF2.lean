/-
  The calls whose answers the document fixes (layer 4). Conditions: none.
-/
import Derived.Test.YtijjcecboepiiaaK6
namespace Go.Proofs.Ytijjcecboepiiaa
open Go.Proofs Go.Shelf Go.RowKit Go.Sort Go.Lib

theorem best511 : orow 3 (bestF smallSorter [5, 1, 1] 15) = [.int .i64 1, .int .i64 2, .int .i64 2] := by
  have e0 : bestF smallSorter [5, 1, 1] 15 0 = 1 := by decide +kernel
  have e1 : bestF smallSorter [5, 1, 1] 15 1 = 2 := by decide +kernel
  have e2 : bestF smallSorter [5, 1, 1] 15 2 = 2 := by decide +kernel
  show [Value.int .i64 (bestF smallSorter [5, 1, 1] 15 0 : Nat), Value.int .i64 (bestF smallSorter [5, 1, 1] 15 1 : Nat), Value.int .i64 (bestF smallSorter [5, 1, 1] 15 2 : Nat)] = _
  rw [e0, e1, e2]
  rfl

set_option maxHeartbeats 1000000 in
set_option maxRecDepth 100000 in
theorem fixed4_any (w : World) : Calls Try.prog 10 #[] w fun e w' => e = .returned (.bool true) ∧ Below w.heap.size w w' := by
  go_enter Try.func10, Try.ntmps10
  go_wp2_with fail
  refine (best_ok smallSorter _ 3 3 (w.heap.size + 1) [5, 1, 1] rfl (by omega) (by omega) (by omega) (by omega) 15 (by omega) (by omega) (by decide) (by decide) _ (by exact seen_lit w 3 [.int .i64 5, .int .i64 1, .int .i64 1]) (by simp)).mono ?_
  rintro e w1 ⟨v1, rfl, ho1, hb1⟩
  rw [best511] at ho1
  obtain ⟨A1, c1, rfl, _, hs1⟩ := own_seen ho1
  have B1 : Hid (Below w.heap.size w w1) := Lib.hid (((Below.refl _ _).alloc (Nat.le_refl _) _).trans (hb1.mono (by simp)))
  have S1 := Lib.hid hs1
  clear ho1 hb1 hs1
  go_wp2_with fail
  refine (best_many smallSorter _ 3 3 (w1.heap.size + 1) [1, 1, 1] rfl (by omega) (by omega) (by omega) 1 (by omega) (by omega) (by decide) (.inl (by decide)) _ (by exact seen_lit w1 3 [.int .i64 1, .int .i64 1, .int .i64 1]) (by simp)).mono ?_
  rintro e w2 ⟨rfl, hb2⟩
  have B12 : Hid (Below w1.heap.size w1 w2) := Lib.hid (((Below.refl _ _).alloc (Nat.le_refl _) _).trans (hb2.mono (by simp)))
  have B2 : Hid (Below w.heap.size w w2) := Lib.hid (B1.out.trans (B12.out.mono B1.out.size))
  have S2 : Hid (Seen w2 w1.heap.size 1 A1 3 c1 [.int .i64 1, .int .i64 2, .int .i64 2]) := Lib.hid (S1.out.below B12.out)
  clear hb2
  obtain ⟨b, o, u0, rfl, hb, q0, x0⟩ := S2.out.at (k := 0) (by omega)
  obtain ⟨b1, o1, u1, hA1, _, q1, x1⟩ := S2.out.at (k := 1) (by omega)
  obtain ⟨b2, o2, u2, hA2, _, q2, x2⟩ := S2.out.at (k := 2) (by omega)
  injection hA1 with hA1
  injection hA1 with hb1 ho1
  subst hb1 ho1
  injection hA2 with hA2
  injection hA2 with hb2 ho2
  subst hb2 ho2
  simp at q0 q1 q2
  subst q0 q1 q2
  simp only [Nat.add_zero] at x0
  have hz2 := B2.out.size
  have K1 := Lib.hid (kind_any (some ⟨b, o, none⟩) 3 c1 w1.heap.size [1, 2, 2] rfl (by omega) w2 S2.out)
  have k1 : kindOf [1, 2, 2] = 3 := by decide
  rw [k1] at K1
  have K2 := Lib.hid (kind_any (some ⟨w2.heap.size, 0, none⟩) 2 2 (w2.heap.size + 1) [0, 1] rfl (by omega) _ (seen_lit w2 3 [.int .i64 0, .int .i64 1]))
  have k2 : kindOf [0, 1] = 2 := by decide
  rw [k2] at K2
  have K3 := Lib.hid (fun W : World => kind_any none 0 0 W.heap.size [] rfl (by omega) W (seen_nil W _))
  have k3 : kindOf [] = 1 := by decide
  rw [k3] at K3
  have K4 := Lib.hid (fun (W : World) (g : Nat) (hg : W.heap.size = g) => kind_any (some ⟨g, 0, none⟩) 1 1 (g + 1) [2] rfl (by omega) (W.alloc (.cells #[.int .i64 2] 3)) (by rw [← hg]; exact seen_lit W 3 [.int .i64 2]))
  have k4 : kindOf [2] = 0 := by decide
  rw [k4] at K4
  clear k1 k2 k3 k4
  go_wp2_with fail
  refine K1.out.mono ?_; rintro e w3 ⟨rfl, rfl⟩
  go_wp2_with fail
  refine K2.out.mono ?_; rintro e w3 ⟨rfl, rfl⟩
  go_wp2_with fail
  refine (K3.out _).mono ?_; rintro e w3 ⟨rfl, rfl⟩
  go_wp2_with fail
  refine (K4.out _ _ (by simp)).mono ?_; rintro e w3 ⟨rfl, rfl⟩
  go_wp2_with fail
  go_ret
  exact ⟨rfl, (B2.out.alloc hz2 _).alloc (by simp; omega) _⟩
def TrueBelow (w : World) (e : Ending) (w' : World) : Prop := e = .returned (.bool true) ∧ Below w.heap.size w w'
end Go.Proofs.Ytijjcecboepiiaa
