/-
  The document's Field, Named, Room. Conditions: texts of at most a hundred thousand bytes.
-/
import Derived.Test.YtibkdmliolebgaaDoorVB
namespace Go.Proofs.YtibkdmliolebgaaDoor
open Go Go.RowKit
set_option maxRecDepth 100000

def hdB (l : List UInt8) (x : UInt8) : Bool := l.getD 0 0 == x
def lsB (l : List UInt8) (x : UInt8) : Bool := l.getD (l.length - 1) 0 == x
def restF (l : List UInt8) : Bool :=
  if l.length = 1 then !woM l [66, 67, 68, 70, 73, 74, 83, 90] else hdB l 76 && lsB l 59 && classM ((l.take (l.length - 1)).drop 1)
def fieldM (l : List UInt8) : Bool := if 255 < dimsM l ∨ dimsM l = l.length then false else restF (l.drop (dimsM l))
def namedM (l : List UInt8) : Bool := classM l || !decide (l = []) && hdB l 91 && fieldM l
def roomM (l : List UInt8) : Int := if l = [74] ∨ l = [68] then 2 else if fieldM l = true then 1 else 0
theorem nB (a b : UInt8) (n : Nat) (hb : b.toNat = n) : ((a.toNat : Int) == (n : Int)) = (a == b) := by
  rw [Bool.eq_iff_iff, beq_iff_eq, beq_iff_eq]
  constructor
  · intro h
    exact UInt8.toNat_inj.1 (by omega)
  · intro h; rw [h, hb]
theorem hd_at {l : List UInt8} (h : 0 < l.length) (x : UInt8) : hdB l x = (l[0] == x) := by
  rw [hdB, List.getD_eq_getElem?_getD, List.getElem?_eq_getElem h]; rfl
theorem ls_at {l : List UInt8} {M : Nat} (h : M + 1 = l.length) (x : UInt8) : lsB l x = (l[M]'(by omega) == x) := by
  have e : l.length - 1 = M := by omega
  unfold lsB
  rw [e, List.getD_eq_getElem?_getD, List.getElem?_eq_getElem (show M < l.length by omega)]; rfl

set_option maxHeartbeats 8000000 in
theorem field_any (l : List UInt8) (hs : l.length ≤ 100000) (w : World) : Calls Tryd.prog 16 #[.string (tx l)] w (Gives w (.bool (fieldM l))) := by
  have C1 := Lib.hid (fun W => dims_any l hs W)
  have hdl := dims_le l
  obtain ⟨d, hd⟩ : ∃ d, dimsM l = d := ⟨_, rfl⟩
  obtain ⟨n, hn⟩ : ∃ n, l.length = n := ⟨_, rfl⟩
  have hts : (tx l).size = n := by rw [tx_size, hn]
  obtain ⟨R, hR⟩ : ∃ r, fieldM l = r := ⟨_, rfl⟩
  rw [hR]
  unfold fieldM at hR
  rw [hd] at C1 hdl hR
  rw [hn] at hdl hR hs
  by_cases h1 : 255 < d
  · rw [if_pos (.inl h1)] at hR
    subst hR
    have d1 : decide ((255 : Int) < (d : Int)) = true := by rw [decide_eq_true_iff]; omega
    clear hd hn
    go_enter Tryd.func16, Tryd.ntmps16
    go_wp2_with (go_at_call 20; refine (C1.out _).mono ?_; rintro e w1 ⟨rfl, rfl⟩)
    go_ret
    exact ⟨rfl, Below.refl _ _⟩
  have d1 : decide ((255 : Int) < (d : Int)) = false := by rw [decide_eq_false_iff_not]; omega
  by_cases h2 : d = n
  · rw [if_pos (.inr h2)] at hR
    subst hR
    have d2 : ((d : Int) == (n : Int)) = true := by rw [h2]; simp
    have H2 := Lib.hid h2
    clear hd hn h2
    go_enter Tryd.func16, Tryd.ntmps16
    go_wp2_with (go_at_call 20; refine (C1.out _).mono ?_; rintro e w1 ⟨rfl, rfl⟩)
    go_ret
    exact ⟨rfl, Below.refl _ _⟩
  have d2 : ((d : Int) == (n : Int)) = false := by rw [beq_eq_false_iff_ne]; omega
  rw [if_neg (by omega)] at hR
  have hcut := tx_cut l d n
  rw [List.take_of_length_le (by omega)] at hcut
  have hrl : (l.drop d).length = n - d := by rw [List.length_drop, hn]
  obtain ⟨r, hr⟩ : ∃ r, l.drop d = r := ⟨_, rfl⟩
  rw [hr] at hcut hrl hR
  obtain ⟨m, hm⟩ : ∃ m, r.length = m := ⟨_, rfl⟩
  rw [hm] at hrl
  have hrs : (tx r).size = m := by rw [tx_size, hm]
  have hm0 : 0 < m := by omega
  have hmb : m ≤ 100000 := by omega
  have x1 : (0 : Int) ≤ (d : Int) := by omega
  have x2 : (d : Int) ≤ (n : Int) := by omega
  unfold restF at hR
  rw [hm] at hR
  clear hr
  by_cases h3 : m = 1
  · rw [if_pos h3] at hR
    have d3 : ((m : Int) == 1) = true := by rw [h3]; rfl
    have C2 := Lib.hid (fun W => without_any r [66, 67, 68, 70, 73, 74, 83, 90] (by omega) (by decide) W)
    obtain ⟨b, hb⟩ : ∃ b, woM r [66, 67, 68, 70, 73, 74, 83, 90] = b := ⟨_, rfl⟩
    rw [hb] at C2 hR
    subst hR
    have H3 := Lib.hid h3
    have HRL := Lib.hid hrl
    clear hd hn hm h3 hb hrl
    unfold tx at C2
    go_enter Tryd.func16, Tryd.ntmps16
    go_wp2_with (first | (go_at_call 20; refine (C1.out _).mono ?_; rintro e w1 ⟨rfl, rfl⟩) | (go_at_call 28; refine (C2.out _).mono ?_; rintro e w2 ⟨rfl, b2⟩))
    go_ret
    exact ⟨rfl, b2⟩
  have d3 : ((m : Int) == 1) = false := by rw [beq_eq_false_iff_ne]; omega
  rw [if_neg h3] at hR
  obtain ⟨M, hM⟩ : ∃ M, M + 1 = m := ⟨m - 1, by omega⟩
  have e0 : 0 < (tx r).size := by rw [hrs]; omega
  have e1 : M < (tx r).size := by rw [hrs]; omega
  obtain ⟨x, hx⟩ : ∃ x, (r[0]'(by omega)).toNat = x := ⟨_, rfl⟩
  obtain ⟨y, hy⟩ : ∃ x, (r[M]'(by omega)).toNat = x := ⟨_, rfl⟩
  have hxt : ((tx r)[0]'e0).toNat = x := by rw [tx_at]; exact hx
  have hyt : ((tx r)[M]'e1).toNat = y := by rw [tx_at]; exact hy
  obtain ⟨p, hp⟩ : ∃ p, hdB r 76 = p := ⟨_, rfl⟩
  obtain ⟨q, hq⟩ : ∃ p, lsB r 59 = p := ⟨_, rfl⟩
  have k1 : ((x : Int) == 76) = p := by
    rw [← hp, hd_at (by omega), ← hx]; exact nB _ 76 76 rfl
  have k2 : ((y : Int) == 59) = q := by
    rw [← hq, ls_at (M := M) (by omega), ← hy]; exact nB _ 59 59 rfl
  have q1 : (m : Int) - 1 = (M : Int) := by omega
  have q2 : (M : Int) < (m : Int) := by omega
  have q3 : (1 : Int) ≤ (M : Int) := by omega
  have q4 : (M : Int) ≤ (m : Int) := by omega
  rw [hp, hq] at hR
  have hc2 := tx_cut r 1 M
  obtain ⟨s, hss⟩ : ∃ s, (r.take M).drop 1 = s := ⟨_, rfl⟩
  have hM2 : m - 1 = M := by omega
  rw [hM2, hss] at hR
  rw [hss] at hc2
  have C3 := Lib.hid (fun W => class_any s (by rw [← hss, List.length_drop, List.length_take]; omega) W)
  obtain ⟨b, hb⟩ : ∃ b, classM s = b := ⟨_, rfl⟩
  rw [hb] at C3 hR
  have H3 := Lib.hid (And.intro hM (And.intro hrl hM2))
  clear hd hn hm hM hx hy hp hq hss hb hrl hM2
  cases p with
  | false =>
    subst hR
    go_enter Tryd.func16, Tryd.ntmps16
    go_wp2_with (go_at_call 20; refine (C1.out _).mono ?_; rintro e w1 ⟨rfl, rfl⟩)
    go_ret
    exact ⟨rfl, Below.refl _ _⟩
  | true =>
  cases q with
  | false =>
    subst hR
    go_enter Tryd.func16, Tryd.ntmps16
    go_wp2_with (go_at_call 20; refine (C1.out _).mono ?_; rintro e w1 ⟨rfl, rfl⟩)
    go_ret
    exact ⟨rfl, Below.refl _ _⟩
  | true =>
    subst hR
    go_enter Tryd.func16, Tryd.ntmps16
    go_wp2_with (first | (go_at_call 20; refine (C1.out _).mono ?_; rintro e w1 ⟨rfl, rfl⟩) | (go_at_call 12; refine (C3.out _).mono ?_; rintro e w2 ⟨rfl, b2⟩))
    go_ret
    exact ⟨by simp, b2⟩

set_option maxHeartbeats 4000000 in
theorem room_any (l : List UInt8) (hs : l.length ≤ 100000) (w : World) : Calls Tryd.prog 18 #[.string (tx l)] w (Gives w (.int .i64 (roomM l))) := by
  have C1 := Lib.hid (fun W => field_any l hs W)
  have g1 := tl_lit l [74]
  have g2 := tl_lit l [68]
  obtain ⟨R, hR⟩ : ∃ r, roomM l = r := ⟨_, rfl⟩
  rw [hR]
  unfold roomM at hR
  by_cases h1 : l = [74]
  · rw [if_pos (.inl h1)] at hR
    rw [decide_eq_true h1] at g1
    subst hR
    have H1 := Lib.hid h1
    clear h1
    go_enter Tryd.func18, Tryd.ntmps18
    go_wp2_with fail
    go_ret
    exact ⟨rfl, Below.refl _ _⟩
  rw [decide_eq_false h1] at g1
  by_cases h2 : l = [68]
  · rw [if_pos (.inr h2)] at hR
    rw [decide_eq_true h2] at g2
    subst hR
    have H1 := Lib.hid (And.intro h1 h2)
    clear h1 h2
    go_enter Tryd.func18, Tryd.ntmps18
    go_wp2_with fail
    go_ret
    exact ⟨rfl, Below.refl _ _⟩
  rw [decide_eq_false h2] at g2
  rw [if_neg (by rintro (h | h); exact h1 h; exact h2 h)] at hR
  obtain ⟨b, hb⟩ : ∃ b, fieldM l = b := ⟨_, rfl⟩
  rw [hb] at C1 hR
  clear h1 h2 hb
  cases b with
  | true =>
    rw [if_pos rfl] at hR
    subst hR
    go_enter Tryd.func18, Tryd.ntmps18
    go_wp2_with (go_at_call 16; refine (C1.out _).mono ?_; rintro e w1 ⟨rfl, b1⟩)
    go_ret
    exact ⟨rfl, b1⟩
  | false =>
    rw [if_neg (by simp)] at hR
    subst hR
    go_enter Tryd.func18, Tryd.ntmps18
    go_wp2_with (go_at_call 16; refine (C1.out _).mono ?_; rintro e w1 ⟨rfl, b1⟩)
    go_ret
    exact ⟨rfl, b1⟩

set_option maxHeartbeats 4000000 in
theorem named_any (l : List UInt8) (hs : l.length ≤ 100000) (w : World) : Calls Tryd.prog 14 #[.string (tx l)] w (Gives w (.bool (namedM l))) := by
  have C1 := Lib.hid (fun W => class_any l hs W)
  have C2 := Lib.hid (fun W => field_any l hs W)
  have he := tl_empty l
  obtain ⟨n, hn⟩ : ∃ n, l.length = n := ⟨_, rfl⟩
  have hts : (tx l).size = n := by rw [tx_size, hn]
  obtain ⟨R, hR⟩ : ∃ r, namedM l = r := ⟨_, rfl⟩
  rw [hR]
  unfold namedM at hR
  obtain ⟨b1, hb1⟩ : ∃ b, classM l = b := ⟨_, rfl⟩
  obtain ⟨b2, hb2⟩ : ∃ b, fieldM l = b := ⟨_, rfl⟩
  rw [hb1] at C1 hR
  rw [hb2] at C2 hR
  clear hb1 hb2
  cases b1 with
  | true =>
    subst hR
    clear hn
    go_enter Tryd.func14, Tryd.ntmps14
    go_wp2_with (go_at_call 12; refine (C1.out _).mono ?_; rintro e w1 ⟨rfl, q1⟩)
    go_ret
    exact ⟨rfl, q1⟩
  | false =>
  by_cases h0 : l = []
  · rw [decide_eq_true h0] at he hR
    subst hR
    have H0 := Lib.hid h0
    clear h0 hn
    go_enter Tryd.func14, Tryd.ntmps14
    go_wp2_with (go_at_call 12; refine (C1.out _).mono ?_; rintro e w1 ⟨rfl, q1⟩)
    go_ret
    exact ⟨rfl, q1⟩
  rw [decide_eq_false h0] at he hR
  have hl0 : 0 < l.length := List.length_pos_iff.2 h0
  have e0 : 0 < (tx l).size := by rw [hts]; omega
  have hn0 : (0 : Int) < (n : Int) := by omega
  have hn1 : 0 < n := by omega
  obtain ⟨x, hx⟩ : ∃ x, l[0].toNat = x := ⟨_, rfl⟩
  have hxt : ((tx l)[0]'e0).toNat = x := by rw [tx_at]; exact hx
  obtain ⟨p, hp⟩ : ∃ p, hdB l 91 = p := ⟨_, rfl⟩
  have k1 : ((x : Int) == 91) = p := by rw [← hp, hd_at hl0, ← hx]; exact nB _ 91 91 rfl
  rw [hp] at hR
  have H0 := Lib.hid (And.intro h0 hl0)
  clear h0 hn hx hp hl0
  cases p with
  | false =>
    subst hR
    go_enter Tryd.func14, Tryd.ntmps14
    go_wp2_with (go_at_call 12; refine (C1.out _).mono ?_; rintro e w1 ⟨rfl, q1⟩)
    go_ret
    exact ⟨rfl, q1⟩
  | true =>
    subst hR
    go_enter Tryd.func14, Tryd.ntmps14
    go_wp2_with (first | (go_at_call 12; refine (C1.out _).mono ?_; rintro e w1 ⟨rfl, q1⟩) | (go_at_call 16; refine (C2.out _).mono ?_; rintro e w2 ⟨rfl, q2⟩))
    go_ret
    exact ⟨by simp, q1.trans (q2.mono q1.size)⟩
end Go.Proofs.YtibkdmliolebgaaDoor
