/-
  How values that came in are read; which value stands ahead of which: of two one stands ahead, or they are the same. Conditions: none.
-/
import Derived.Test.YtmojclbejmnikaaXC
import Derived.Test.YtmojclbejmnikaaYF
namespace Go.Proofs.Ytmojclbejmnikaa
open Go Go.ChangeShapes Go.WideShapes Go.ChangeAt Go.Deep Go.RowKit
set_option maxRecDepth 100000

/-- What a value that came in keeps. -/
def ValIn (v : Val) : Prop := v.bits < 18446744073709551616 ∧ (-9223372036854775808 ≤ v.tag ∧ v.tag ≤ 9223372036854775807) ∧ v.text.size ≤ maxLen ∧ v.cls.size ≤ maxLen ∧ v.name.size ≤ maxLen ∧ v.desc.size ≤ maxLen
section
variable {H : Type} {enc : TypeId × Value → H} {w : World} {held : Bool}
theorem cells27 : Try.prog.cellsOf 41 = 6 := by kernel_rfl
theorem val_cells {base : Nat} {spare : Nat → Bool} {fuel : Nat} {cs : List Value} {x : DataW H × List MemPlace} (h : DataW.trod enc Try.prog w base spare held fuel 41 cs = some x) :
    ∃ v : Val, cs = (valA v).toList ∧ ValIn v := by
  obtain ⟨xs, n, _, _, hlen, hxs, hf⟩ := DataW.trod_struct Try.underlying41 h
  rw [cells27] at hlen
  match cs, hlen with
  | [c0, c1, c2, c3, c4, c5], _ =>
    have g0 : DataW.trod enc Try.prog w base spare held n 3 ([c0, c1, c2, c3, c4, c5].take (Try.prog.cellsOf 3)) = xs[0]? := hf 0 _ rfl
    have g1 : DataW.trod enc Try.prog w base spare held n 9 ([c1, c2, c3, c4, c5].take (Try.prog.cellsOf 9)) = xs[1]? := hf 1 _ rfl
    have g2 : DataW.trod enc Try.prog w base spare held n 39 ([c2, c3, c4, c5].take (Try.prog.cellsOf 39)) = xs[2]? := hf 2 _ rfl
    have g3 : DataW.trod enc Try.prog w base spare held n 9 ([c3, c4, c5].take (Try.prog.cellsOf 9)) = xs[3]? := hf 3 _ rfl
    have g4 : DataW.trod enc Try.prog w base spare held n 9 ([c4, c5].take (Try.prog.cellsOf 9)) = xs[4]? := hf 4 _ rfl
    have g5 : DataW.trod enc Try.prog w base spare held n 9 ([c5].take (Try.prog.cellsOf 9)) = xs[5]? := hf 5 _ rfl
    have hl : xs.length = 6 := hxs
    match xs, hl with
    | [x0, x1, x2, x3, x4, x5], _ =>
      rw [cells3] at g0
      rw [cells9] at g1 g3 g4 g5
      rw [cells25] at g2
      obtain ⟨t, e0, _, h0⟩ := DataW.trod_int Try.underlying3 g0
      obtain ⟨s, e1, _, h1⟩ := DataW.trod_string Try.underlying9 g1
      obtain ⟨u, e2, _, h2⟩ := DataW.trod_int Try.underlying39 g2
      obtain ⟨c, e3, _, h3⟩ := DataW.trod_string Try.underlying9 g3
      obtain ⟨m, e4, _, h4⟩ := DataW.trod_string Try.underlying9 g4
      obtain ⟨d, e5, _, h5⟩ := DataW.trod_string Try.underlying9 g5
      obtain ⟨u, hu, rfl⟩ := u64_of_wf h2
      simp at e0 e1 e2 e3 e4 e5
      refine ⟨⟨t, s, u, c, m, d⟩, ?_, hu, i64_of_wf h0, h1, h3, h4, h5⟩
      rw [e0, e1, e2, e3, e4, e5]
      rfl
end

theorem bl_cons (a b : UInt8) (x y : List UInt8) : Op.bytesLess (a :: x) (b :: y) = if a.toNat < b.toNat then true else if a.toNat = b.toNat then Op.bytesLess x y else false := by
  rw [Op.bytesLess]
  by_cases h1 : a.toNat < b.toNat
  · have : a < b := UInt8.lt_iff_toNat_lt.2 h1
    simp [h1, this]
  · have h1' : ¬ a < b := fun h => h1 (UInt8.lt_iff_toNat_lt.1 h)
    by_cases h2 : a.toNat = b.toNat
    · have : a = b := UInt8.toNat_inj.1 h2
      subst this
      simp
    · have : ¬ a = b := fun e => h2 (by rw [e])
      simp [h1, h1', h2, this]
theorem ble_tri : ∀ x y : List UInt8, Op.bytesLess x y = false → Op.bytesLess y x = false → x = y
  | [], [], _, _ => rfl
  | [], _ :: _, h, _ => by simp [Op.bytesLess] at h
  | _ :: _, [], _, h => by simp [Op.bytesLess] at h
  | a :: x, b :: y, h, g => by
    rw [bl_cons] at h g
    by_cases h1 : a.toNat < b.toNat
    · rw [if_pos h1] at h; cases h
    by_cases h2 : b.toNat < a.toNat
    · rw [if_pos h2] at g; cases g
    rw [if_neg h1, if_pos (by omega)] at h
    rw [if_neg h2, if_pos (by omega)] at g
    rw [ble_tri x y h g, show a = b from UInt8.toNat_inj.1 (by omega)]
theorem ble_asymm : ∀ x y : List UInt8, Op.bytesLess x y = true → Op.bytesLess y x = false
  | [], [], h => by simp [Op.bytesLess] at h
  | [], _ :: _, _ => by simp [Op.bytesLess]
  | _ :: _, [], h => by simp [Op.bytesLess] at h
  | a :: x, b :: y, h => by
    rw [bl_cons] at h ⊢
    by_cases h1 : a.toNat < b.toNat
    · rw [if_neg (by omega), if_neg (by omega)]
    rw [if_neg h1] at h
    by_cases h2 : a.toNat = b.toNat
    · rw [if_pos h2] at h
      rw [if_neg (by omega), if_pos h2.symm]
      exact ble_asymm x y h
    · rw [if_neg h2] at h; cases h
theorem blt_tri {a b : ByteArray} (h : blt a b = false) (g : blt b a = false) : a = b := by
  have := ble_tri _ _ h g
  rw [ByteArray.toList_eq, ByteArray.toList_eq] at this
  exact ByteArray.ext (Array.toList_inj.1 this)
theorem blt_asymm {a b : ByteArray} (h : blt a b = true) : blt b a = false := ble_asymm _ _ h
theorem blt_self (a : ByteArray) : blt a a = false := by
  cases h : blt a a with
  | false => rfl
  | true => rw [blt_asymm h] at h; cases h

/-- Of two values one stands ahead, or they are the same. -/
theorem lessV_tri {a b : Val} (h : lessV a b = false) (g : lessV b a = false) : a = b := by
  obtain ⟨a0, a1, a2, a3, a4, a5⟩ := a
  obtain ⟨b0, b1, b2, b3, b4, b5⟩ := b
  unfold lessV at h g
  simp only at h g
  by_cases e0 : a0 = b0
  · subst e0
    simp only [ne_eq, not_true, if_false] at h g
    by_cases e1 : a1 = b1
    · subst e1
      simp only [not_true, if_false] at h g
      by_cases e2 : a2 = b2
      · subst e2
        simp only [not_true, if_false] at h g
        by_cases e3 : a3 = b3
        · subst e3
          simp only [not_true, if_false] at h g
          by_cases e4 : a4 = b4
          · subst e4
            simp only [not_true, if_false] at h g
            rw [blt_tri h g]
          · rw [if_pos e4] at h
            rw [if_pos (fun e => e4 e.symm)] at g
            exact absurd (blt_tri h g) e4
        · rw [if_pos e3] at h
          rw [if_pos (fun e => e3 e.symm)] at g
          exact absurd (blt_tri h g) e3
      · rw [if_pos e2, decide_eq_false_iff_not] at h
        rw [if_pos (fun e => e2 e.symm), decide_eq_false_iff_not] at g
        omega
    · rw [if_pos e1] at h
      rw [if_pos (fun e => e1 e.symm)] at g
      exact absurd (blt_tri h g) e1
  · rw [if_pos e0, decide_eq_false_iff_not] at h
    rw [if_pos (fun e => e0 e.symm), decide_eq_false_iff_not] at g
    omega
theorem lessV_asymm {a b : Val} (h : lessV a b = true) : lessV b a = false := by
  obtain ⟨a0, a1, a2, a3, a4, a5⟩ := a
  obtain ⟨b0, b1, b2, b3, b4, b5⟩ := b
  unfold lessV at h ⊢
  simp only at h ⊢
  by_cases e0 : a0 = b0
  · subst e0
    simp only [ne_eq, not_true, if_false] at h ⊢
    by_cases e1 : a1 = b1
    · subst e1
      simp only [not_true, if_false] at h ⊢
      by_cases e2 : a2 = b2
      · subst e2
        simp only [not_true, if_false] at h ⊢
        by_cases e3 : a3 = b3
        · subst e3
          simp only [not_true, if_false] at h ⊢
          by_cases e4 : a4 = b4
          · subst e4
            simp only [not_true, if_false] at h ⊢
            exact blt_asymm h
          · rw [if_pos e4] at h
            rw [if_pos (fun e => e4 e.symm)]
            exact blt_asymm h
        · rw [if_pos e3] at h
          rw [if_pos (fun e => e3 e.symm)]
          exact blt_asymm h
      · rw [if_pos e2, decide_eq_true_iff] at h
        rw [if_pos (fun e => e2 e.symm), decide_eq_false_iff_not]
        omega
    · rw [if_pos e1] at h
      rw [if_pos (fun e => e1 e.symm)]
      exact blt_asymm h
  · rw [if_pos e0, decide_eq_true_iff] at h
    rw [if_pos (fun e => e0 e.symm), decide_eq_false_iff_not]
    omega
theorem lessV_self (a : Val) : lessV a a = false := by
  cases h : lessV a a with
  | false => rfl
  | true => rw [lessV_asymm h] at h; cases h
end Go.Proofs.Ytmojclbejmnikaa
