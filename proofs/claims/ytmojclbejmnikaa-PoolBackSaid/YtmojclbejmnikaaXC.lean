/-
  The document's Less of values. Conditions: none.
-/
import Derived.Test.YtmojclbejmnikaaXB
namespace Go.Proofs.Ytmojclbejmnikaa
open Go Go.RowKit
set_option maxRecDepth 100000

structure Val where
  tag : Int
  text : ByteArray
  bits : Nat
  cls : ByteArray
  name : ByteArray
  desc : ByteArray
def valA (v : Val) : Array Value := #[.int .i64 v.tag, .string v.text, .int .u64 v.bits, .string v.cls, .string v.name, .string v.desc]
def blt (a b : ByteArray) : Bool := Op.bytesLess a.toList b.toList
def lessV (a b : Val) : Bool :=
  if a.tag ≠ b.tag then decide (a.tag < b.tag) else if a.text ≠ b.text then blt a.text b.text else if a.bits ≠ b.bits then decide (a.bits < b.bits)
  else if a.cls ≠ b.cls then blt a.cls b.cls else if a.name ≠ b.name then blt a.name b.name else blt a.desc b.desc
theorem ba_beq (a b : ByteArray) : (a.toList == b.toList) = decide (a = b) := by
  rw [ByteArray.toList_eq, ByteArray.toList_eq, Bool.eq_iff_iff, beq_iff_eq, decide_eq_true_iff]
  exact ⟨fun h => ByteArray.ext (Array.toList_inj.1 h), fun h => by rw [h]⟩

set_option maxHeartbeats 8000000 in
theorem lessV_any (a b : Val) (w : World) : Calls Try.prog 19 #[.agg #[.int .i64 a.tag, .string a.text, .int .u64 a.bits, .string a.cls, .string a.name, .string a.desc], .agg #[.int .i64 b.tag, .string b.text, .int .u64 b.bits, .string b.cls, .string b.name, .string b.desc]] w (Gives w (.bool (lessV a b))) := by
  obtain ⟨a0, a1, a2, a3, a4, a5⟩ := a
  obtain ⟨b0, b1, b2, b3, b4, b5⟩ := b
  obtain ⟨R, hR⟩ : ∃ r, lessV ⟨a0, a1, a2, a3, a4, a5⟩ ⟨b0, b1, b2, b3, b4, b5⟩ = r := ⟨_, rfl⟩
  rw [hR]
  unfold lessV at hR
  simp only at hR ⊢
  obtain ⟨w2, hw2⟩ : ∃ W, (w.alloc (.cells #[.int .i64 a0, .string a1, .int .u64 a2, .string a3, .string a4, .string a5] 41)).alloc (.cells #[.int .i64 b0, .string b1, .int .u64 b2, .string b3, .string b4, .string b5] 41) = W := ⟨_, rfl⟩
  obtain ⟨g2, hg2⟩ : ∃ g, w.heap.size = g := ⟨_, rfl⟩
  have B2 : Hid (Below w.heap.size w w2) := Lib.hid (hw2 ▸ ((Below.refl w.heap.size w).alloc (Nat.le_refl _) _).alloc (by simp) _)
  have P2 : Whole w2 g2 41 #[.int .i64 a0, .string a1, .int .u64 a2, .string a3, .string a4, .string a5] := hw2 ▸ hg2 ▸ (Whole.new w 41 #[.int .i64 a0, .string a1, .int .u64 a2, .string a3, .string a4, .string a5]).alloc _
  have P3 : Whole w2 (g2 + 1) 41 #[.int .i64 b0, .string b1, .int .u64 b2, .string b3, .string b4, .string b5] := by
    rw [← hw2, ← hg2]
    have := Whole.new (w.alloc (.cells #[.int .i64 a0, .string a1, .int .u64 a2, .string a3, .string a4, .string a5] 41)) 41 #[.int .i64 b0, .string b1, .int .u64 b2, .string b3, .string b4, .string b5]
    rw [World.size_alloc] at this; exact this
  have c0 := P2.cell 0
  have c1 := P2.cell 1
  have c2 := P2.cell 2
  have c3 := P2.cell 3
  have c4 := P2.cell 4
  have c5 := P2.cell 5
  have k0 := P3.cell 0
  have k1 := P3.cell 1
  have k2 := P3.cell 2
  have k3 := P3.cell 3
  have k4 := P3.cell 4
  have k5 := P3.cell 5
  simp only [List.getElem?_toArray, List.getElem?_cons_zero, List.getElem?_cons_succ] at c0 c1 c2 c3 c4 c5 k0 k1 k2 k3 k4 k5
  clear P2 P3
  have e0 : (a0 == b0) = decide (a0 = b0) := by rw [Bool.eq_iff_iff]; simp
  have e1 := ba_beq a1 b1
  have e2 : ((a2 : Int) == (b2 : Int)) = decide (a2 = b2) := by rw [Bool.eq_iff_iff]; simp; omega
  have e3 := ba_beq a3 b3
  have e4 := ba_beq a4 b4
  unfold blt at hR
  by_cases h0 : a0 = b0
  rotate_left
  · rw [if_pos h0] at hR; rw [decide_eq_false h0] at e0; subst hR; clear h0
    go_enter Try.func19, Try.ntmps19
    go_wp2_with fail
    go_ret
    exact ⟨rfl, hw2 ▸ B2.out⟩
  rw [if_neg (fun h => h h0)] at hR; rw [decide_eq_true h0] at e0
  have H0 := Lib.hid h0
  clear h0
  by_cases h1 : a1 = b1
  rotate_left
  · rw [if_pos h1] at hR; rw [decide_eq_false h1] at e1; subst hR; clear h1
    go_enter Try.func19, Try.ntmps19
    go_wp2_with fail
    go_ret
    exact ⟨rfl, hw2 ▸ B2.out⟩
  rw [if_neg (fun h => h h1)] at hR; rw [decide_eq_true h1] at e1
  have H1 := Lib.hid h1
  clear h1
  by_cases h2 : a2 = b2
  rotate_left
  · rw [if_pos h2] at hR; rw [decide_eq_false h2] at e2; subst hR; clear h2
    go_enter Try.func19, Try.ntmps19
    go_wp2_with fail
    go_ret
    exact ⟨by simp, hw2 ▸ B2.out⟩
  rw [if_neg (fun h => h h2)] at hR; rw [decide_eq_true h2] at e2
  have H2 := Lib.hid h2
  clear h2
  by_cases h3 : a3 = b3
  rotate_left
  · rw [if_pos h3] at hR; rw [decide_eq_false h3] at e3; subst hR; clear h3
    go_enter Try.func19, Try.ntmps19
    go_wp2_with fail
    go_ret
    exact ⟨rfl, hw2 ▸ B2.out⟩
  rw [if_neg (fun h => h h3)] at hR; rw [decide_eq_true h3] at e3
  have H3 := Lib.hid h3
  clear h3
  by_cases h4 : a4 = b4
  rotate_left
  · rw [if_pos h4] at hR; rw [decide_eq_false h4] at e4; subst hR; clear h4
    go_enter Try.func19, Try.ntmps19
    go_wp2_with fail
    go_ret
    exact ⟨rfl, hw2 ▸ B2.out⟩
  rw [if_neg (fun h => h h4)] at hR; rw [decide_eq_true h4] at e4
  have H4 := Lib.hid h4
  clear h4
  subst hR
  go_enter Try.func19, Try.ntmps19
  go_wp2_with fail
  go_ret
  exact ⟨rfl, hw2 ▸ B2.out⟩
end Go.Proofs.Ytmojclbejmnikaa
