/-
  The document's signs of a block, where a code is wrong, and as a whole. Conditions: its state stands as told (RSt), its things are where they should be (Rx.Good); there are more than 256 lengths of signs.
-/
import Derived.Test.YtobchlakjgeadaaRG
namespace Go.Proofs.Ytobchlakjgeadaa
open Go.RowKit
set_option maxRecDepth 100000

/-- What Words answers: a row, or none. -/
def WordsAns (w : World) (x : List Int) (n : Nat) (r : Ending) (w' : World) : Prop :=
  ∃ v, r = .returned (.tuple #[v, .bool (decide (kindOf x ≠ 0))]) ∧ (∃ A c, v = .slice A (if kindOf x = 0 then 0 else n) c) ∧ Below w.heap.size w w'
theorem words_ans (A : Option Addr) (n c B : Nat) (x : List Int) (hn : x.length = n) (hl : n ≤ 1000) (w : World) (hs : Seen w B 1 A n c (iv x)) (hB : B ≤ w.heap.size) :
    Calls Try.prog 42 #[.slice A n c] w (WordsAns w x n) := by
  by_cases hk : kindOf x = 0
  · refine (refWords_bad A n c B x hn hl hk w hs hB).mono ?_
    rintro r w' ⟨rfl, hb⟩
    exact ⟨.slice none 0 0, by simp [hk], ⟨none, 0, by simp [hk]⟩, hb⟩
  · refine (refWords_any A n c B x hn hl hk w hs hB).mono ?_
    rintro r w' ⟨v, rfl, hw, hb⟩
    obtain ⟨A', c', rfl, _⟩ := own_form hw
    exact ⟨.slice A' n c', by simp [hk], ⟨A', c', by simp [hk]⟩, hb⟩

set_option maxHeartbeats 2000000 in
theorem rsigns_bad {c : Rx} (hg : c.Good) (ov : Value) (a : Nat) (o : List Nat) (x y : List Int) (n m : Nat) (hn : x.length = n) (hm : y.length = m) (hl : n ≤ 1000) (hl2 : m ≤ 1000) (h257 : 256 < n) (hbad : x.getD 256 0 = 0 ∨ kindOf x = 0 ∨ kindOf y = 0) (A1 A2 : Option Addr) (c1 c2 : Nat) (w : World)
    (hs1 : Seen w w.heap.size 1 A1 n c1 (iv x)) (hs2 : Seen w w.heap.size 1 A2 m c2 (iv y)) (h : RSt c w ov a o 0) :
    Calls Try.prog 25 #[.pointer (some ⟨c.gs, 0, none⟩), .slice A1 n c1, .slice A2 m c2] w (RRes c (.er 12) w) := by
  have q3 := h.c3
  have H := Lib.hid h; clear h
  have HS1 := Lib.hid hs1; clear hs1
  have HS2 := Lib.hid hs2; clear hs2
  have HN := Lib.hid hn; clear hn
  have HM := Lib.hid hm; clear hm
  have hxl : 256 < x.length := by rw [HN.out]; exact h257
  obtain ⟨y0, hy0⟩ : ∃ y0, x[256] = y0 := ⟨_, rfl⟩
  have hyn : x.getD 256 0 = y0 := by simp [List.getD, hxl, hy0]
  rw [hyn] at hbad
  have HY0 := Lib.hid hy0; clear hy0 hyn
  have CW1 := Lib.hid (words_ans A1 n c1 w.heap.size x HN.out hl w HS1.out (Nat.le_refl _))
  have CW2 := Lib.hid (fun W (hB : Below w.heap.size w W) => words_ans A2 m c2 w.heap.size y HM.out hl2 W (HS2.out.below hB) hB.size)
  unfold WordsAns at CW1 CW2
  obtain ⟨kx, hkx⟩ : ∃ kx : Bool, decide (kindOf x ≠ 0) = kx := ⟨_, rfl⟩
  obtain ⟨ky, hky⟩ : ∃ ky : Bool, decide (kindOf y ≠ 0) = ky := ⟨_, rfl⟩
  obtain ⟨nx, hnx⟩ : ∃ nx : Nat, (if kindOf x = 0 then 0 else n) = nx := ⟨_, rfl⟩
  obtain ⟨ny, hny⟩ : ∃ ny : Nat, (if kindOf y = 0 then 0 else m) = ny := ⟨_, rfl⟩
  rw [hkx, hnx] at CW1
  rw [hky, hny] at CW2
  have hb2 : y0 = 0 ∨ kx = false ∨ ky = false := by
    rcases hbad with h | h | h
    · exact .inl h
    · exact .inr (.inl (by rw [← hkx]; simp [h]))
    · exact .inr (.inr (by rw [← hky]; simp [h]))
  have HB2 := Lib.hid hb2
  clear hkx hky hnx hny hbad hb2
  go_enter Try.func25, Try.ntmps25
  go_wp2_with fail
  refine CW1.out.mono ?_
  rintro r w1 ⟨v1, rfl, ⟨Aw, cw, rfl⟩, hb1⟩
  have B1 := Lib.hid hb1; clear hb1
  go_wp2_with fail
  refine (CW2.out w1 B1.out).mono ?_
  rintro r w2 ⟨v2, rfl, ⟨Av, cv, rfl⟩, hb2⟩
  have B2 := Lib.hid (B1.out.trans (hb2.mono B1.out.size))
  clear hb2 q3 B1
  obtain ⟨b, of, rfl, _, cy⟩ := (HS1.out.below B2.out).int HN.out h257
  rw [HY0.out] at cy
  have n256 : (256 : Int) < n := by omega
  have S2 := Lib.hid (H.out.below B2.out)
  have F2 := Lib.hid (Fq.of_below B2.out c.B0)
  have CF := Lib.hid (rfail_any hg ov a o 0 12 w2 S2.out)
  have hcase := HB2.out
  cases kx with
  | false =>
    go_wp2_with fail
    refine CF.out.mono ?_
    rintro r w3 ⟨rfl, hs3, hf3⟩
    first | rw [if_pos rfl] at hs3 | rw [if_pos trivial] at hs3
    have S3 := Lib.hid hs3; have F3 := Lib.hid (F2.out.trans hf3)
    have p3 := hs3.c3
    clear hs3 hf3 hcase
    go_wp2_with fail
    go_loop [10] (fun _ => True) (fun _ => 0)
    case atStart => trivial
    case round =>
      go_wp2_with fail
      go_end0
      exact ⟨rfl, F3.out, .inr ⟨12, a, o, _, by omega, by omega, rfl, S3.out⟩⟩
  | true =>
    cases ky with
    | false =>
      go_wp2_with fail
      refine CF.out.mono ?_
      rintro r w3 ⟨rfl, hs3, hf3⟩
      first | rw [if_pos rfl] at hs3 | rw [if_pos trivial] at hs3
      have S3 := Lib.hid hs3; have F3 := Lib.hid (F2.out.trans hf3)
      have p3 := hs3.c3
      clear hs3 hf3 hcase
      go_wp2_with fail
      go_loop [10] (fun _ => True) (fun _ => 0)
      case atStart => trivial
      case round =>
        go_wp2_with fail
        go_end0
        exact ⟨rfl, F3.out, .inr ⟨12, a, o, _, by omega, by omega, rfl, S3.out⟩⟩
    | true =>
      have hy00 : y0 = 0 := by simpa using hcase
      subst hy00
      clear hcase
      go_wp2_with fail
      refine CF.out.mono ?_
      rintro r w3 ⟨rfl, hs3, hf3⟩
      first | rw [if_pos rfl] at hs3 | rw [if_pos trivial] at hs3
      have S3 := Lib.hid hs3; have F3 := Lib.hid (F2.out.trans hf3)
      have p3 := hs3.c3
      clear hs3 hf3
      go_wp2_with fail
      go_loop [10] (fun _ => True) (fun _ => 0)
      case atStart => trivial
      case round =>
        go_wp2_with fail
        go_end0
        exact ⟨rfl, F3.out, .inr ⟨12, a, o, _, by omega, by omega, rfl, S3.out⟩⟩

/-- Both ways together. -/
theorem rsigns_any {c : Rx} (hg : c.Good) (ov : Value) (a : Nat) (o : List Nat) (x y : List Int) (n m : Nat) (hn : x.length = n) (hm : y.length = m) (hl : n ≤ 1000) (hl2 : m ≤ 1000) (h257 : 256 < n) (A1 A2 : Option Addr) (c1 c2 : Nat) (w : World)
    (hs1 : Seen w w.heap.size 1 A1 n c1 (iv x)) (hs2 : Seen w w.heap.size 1 A2 m c2 (iv y)) (h : RSt c w ov a o 0) :
    Calls Try.prog 25 #[.pointer (some ⟨c.gs, 0, none⟩), .slice A1 n c1, .slice A2 m c2] w (RRes c (if x.getD 256 0 = 0 ∨ kindOf x = 0 ∨ kindOf y = 0 then .er 12 else runF (signStep x y c.L c.most) (a, o)) w) := by
  by_cases hb : x.getD 256 0 = 0 ∨ kindOf x = 0 ∨ kindOf y = 0
  · rw [if_pos hb]
    exact rsigns_bad hg ov a o x y n m hn hm hl hl2 h257 hb A1 A2 c1 c2 w hs1 hs2 h
  · rw [if_neg hb]
    simp only [not_or] at hb
    exact rsigns_good hg ov a o x y n m hn hm hl hl2 h257 hb.2.1 hb.2.2 hb.1 A1 A2 c1 c2 w hs1 hs2 h
end Go.Proofs.Ytobchlakjgeadaa
