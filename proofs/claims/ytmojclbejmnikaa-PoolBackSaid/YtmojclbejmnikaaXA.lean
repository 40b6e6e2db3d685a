/-
  The document's Form, none, tagged. Conditions: a pool in memory, of at most a hundred thousand constants.
-/
import Derived.Test.YtmojclbejmnikaaUA
import Derived.Deep.MidRow
namespace Go.Proofs.Ytmojclbejmnikaa
open Go Go.RowKit
set_option maxRecDepth 100000

/-- A constant as it stands in a pool. -/
structure Raw where
  tag : Int
  text : ByteArray
  bits : Nat
  a : Int
  b : Int
def rawC (r : Raw) : List Value := [.int .i64 r.tag, .string r.text, .int .u64 r.bits, .int .i64 r.a, .int .i64 r.b]
def rv (l : List Raw) : List Value := l.flatMap rawC
theorem rv_length (l : List Raw) : (rv l).length = l.length * 5 := by
  induction l with
  | nil => rfl
  | cons t l ih =>
    have : rv (t :: l) = rawC t ++ rv l := rfl
    rw [this, List.length_append, ih]; simp [rawC]; omega
theorem rv_get : ∀ (l : List Raw) (k : Nat) (h : k < l.length) (j : Nat), j < 5 → (rv l)[k * 5 + j]? = (rawC l[k])[j]?
  | t :: l, 0, _, j, hj => by
    have e : rv (t :: l) = rawC t ++ rv l := rfl
    rw [e, Nat.zero_mul, Nat.zero_add, List.getElem?_append_left (by simp [rawC]; omega)]; rfl
  | t :: l, k + 1, h, j, hj => by
    have e : rv (t :: l) = rawC t ++ rv l := rfl
    have ih := rv_get l k (by simpa using h) j hj
    rw [e, List.getElem?_append_right (by simp [rawC]; omega), show (k + 1) * 5 + j - (rawC t).length = k * 5 + j by simp [rawC]; omega]
    simpa using ih
theorem Seen.raw {w : World} {B n c : Nat} {A : Option Addr} {l : List Raw} (h : Seen w B 5 A n c (rv l)) {k : Nat} (hk : k < l.length) (hn : l.length = n) : ∃ (b o : Nat), A = some ⟨b, o, none⟩ ∧ b < B ∧ ∀ j u, (rawC l[k])[j]? = some u → w.cell? ⟨b, o + (k * 5 + j), none⟩ = some u := by
  obtain ⟨h1, h2, h3⟩ := h
  rcases h3 with ⟨rfl, rfl⟩ | ⟨a, rfl, h3⟩
  · rw [rv_length] at h1; omega
  · obtain ⟨g1, g2, g3⟩ := h3 (by intro e; have := rv_length l; rw [e] at this; simp at this; omega)
    obtain ⟨b, o, s⟩ := a
    simp only at g1 g2 g3
    subst g1
    refine ⟨b, o, rfl, g2, fun j u hj => g3 _ _ ?_⟩
    have hj5 : j < 5 := by have := (List.getElem?_eq_some_iff.1 hj).1; simpa [rawC] using this
    rw [rv_get l k hk j hj5]; exact hj
/-- How a tag's constant is written. -/
def formM (t : Int) : Nat := if t = 1 then 116 else if t = 3 ∨ t = 4 then 52 else if t = 5 ∨ t = 6 then 56 else if t = 7 ∨ t = 8 then 97 else if t = 9 ∨ t = 10 ∨ t = 11 ∨ t = 12 then 98 else 0
def noneM (l : List Raw) (i : Int) : Bool := decide (i < 1 ∨ (l.length : Int) ≤ i) || (match l[i.toNat]?, l[i.toNat - 1]? with
  | some r, some p => decide (r.tag = 0) || decide (1 < i) && decide (formM p.tag = 56)
  | _, _ => true)
def taggedM (l : List Raw) (i t : Int) : Bool := !noneM l i && (match l[i.toNat]? with | some r => decide (r.tag = t) | none => false)

set_option maxHeartbeats 4000000 in
theorem form_any (t : Int) (w : World) : Calls Try.prog 28 #[.int .i64 t] w (Rets w (.int .u8 (formM t))) := by
  have key : ∀ k : Int, (t == k) = decide (t = k) := fun k => by rw [Bool.eq_iff_iff]; simp
  unfold formM
  by_cases h1 : t = 1
  · subst h1
    go_enter Try.func28, Try.ntmps28
    go_wp2_with fail
    go_ret
    exact ⟨rfl, rfl⟩
  rw [if_neg h1]
  by_cases h3 : t = 3
  · subst h3; go_enter Try.func28, Try.ntmps28; go_wp2_with fail; go_ret; exact ⟨rfl, rfl⟩
  by_cases h4 : t = 4
  · subst h4; go_enter Try.func28, Try.ntmps28; go_wp2_with fail; go_ret; exact ⟨rfl, rfl⟩
  rw [if_neg (by omega)]
  by_cases h5 : t = 5
  · subst h5; go_enter Try.func28, Try.ntmps28; go_wp2_with fail; go_ret; exact ⟨rfl, rfl⟩
  by_cases h6 : t = 6
  · subst h6; go_enter Try.func28, Try.ntmps28; go_wp2_with fail; go_ret; exact ⟨rfl, rfl⟩
  rw [if_neg (by omega)]
  by_cases h7 : t = 7
  · subst h7; go_enter Try.func28, Try.ntmps28; go_wp2_with fail; go_ret; exact ⟨rfl, rfl⟩
  by_cases h8 : t = 8
  · subst h8; go_enter Try.func28, Try.ntmps28; go_wp2_with fail; go_ret; exact ⟨rfl, rfl⟩
  rw [if_neg (by omega)]
  by_cases h9 : t = 9
  · subst h9; go_enter Try.func28, Try.ntmps28; go_wp2_with fail; go_ret; exact ⟨rfl, rfl⟩
  by_cases h10 : t = 10
  · subst h10; go_enter Try.func28, Try.ntmps28; go_wp2_with fail; go_ret; exact ⟨rfl, rfl⟩
  by_cases h11 : t = 11
  · subst h11; go_enter Try.func28, Try.ntmps28; go_wp2_with fail; go_ret; exact ⟨rfl, rfl⟩
  by_cases h12 : t = 12
  · subst h12; go_enter Try.func28, Try.ntmps28; go_wp2_with fail; go_ret; exact ⟨rfl, rfl⟩
  rw [if_neg (by omega)]
  have e1 : (t == 1) = false := by rw [beq_eq_false_iff_ne]; exact h1
  have e3 : (t == 3) = false := by rw [beq_eq_false_iff_ne]; exact h3
  have e4 : (t == 4) = false := by rw [beq_eq_false_iff_ne]; exact h4
  have e5 : (t == 5) = false := by rw [beq_eq_false_iff_ne]; exact h5
  have e6 : (t == 6) = false := by rw [beq_eq_false_iff_ne]; exact h6
  have e7 : (t == 7) = false := by rw [beq_eq_false_iff_ne]; exact h7
  have e8 : (t == 8) = false := by rw [beq_eq_false_iff_ne]; exact h8
  have e9 : (t == 9) = false := by rw [beq_eq_false_iff_ne]; exact h9
  have e10 : (t == 10) = false := by rw [beq_eq_false_iff_ne]; exact h10
  have e11 : (t == 11) = false := by rw [beq_eq_false_iff_ne]; exact h11
  have e12 : (t == 12) = false := by rw [beq_eq_false_iff_ne]; exact h12
  clear h1 h3 h4 h5 h6 h7 h8 h9 h10 h11 h12 key
  go_enter Try.func28, Try.ntmps28
  go_wp2_with fail
  go_ret
  exact ⟨rfl, rfl⟩

set_option maxHeartbeats 8000000 in
theorem none_any (l : List Raw) (A : Option Addr) (n c B : Nat) (i : Int) (hn : l.length = n) (hs : n ≤ 100000) (w : World) (hA : Seen w B 5 A n c (rv l)) :
    Calls Try.prog 56 #[.slice A n c, .int .i64 i] w (Rets w (.bool (noneM l i))) := by
  obtain ⟨R, hR⟩ : ∃ r, noneM l i = r := ⟨_, rfl⟩
  rw [hR]
  unfold noneM at hR
  by_cases h1 : i < 1
  · rw [decide_eq_true (.inl h1), Bool.true_or] at hR
    subst hR
    have d1 : decide (i < 1) = true := decide_eq_true h1
    have H1 := Lib.hid h1
    clear h1 hA
    go_enter Try.func56, Try.ntmps56
    go_wp2_with fail
    go_ret
    exact ⟨rfl, rfl⟩
  have d1 : decide (i < 1) = false := decide_eq_false h1
  by_cases h2 : (n : Int) ≤ i
  · rw [decide_eq_true (.inr (by rw [hn]; exact h2)), Bool.true_or] at hR
    subst hR
    have d2 : decide ((n : Int) ≤ i) = true := decide_eq_true h2
    have H2 := Lib.hid (And.intro h1 h2)
    clear h1 h2 hA
    go_enter Try.func56, Try.ntmps56
    go_wp2_with fail
    go_ret
    exact ⟨rfl, rfl⟩
  have d2 : decide ((n : Int) ≤ i) = false := decide_eq_false h2
  rw [decide_eq_false (by rw [hn]; omega), Bool.false_or] at hR
  obtain ⟨k, rfl⟩ : ∃ k : Nat, i = (k : Int) := ⟨i.toNat, by omega⟩
  have hk1 : 1 ≤ k := by omega
  have hkn : k < l.length := by omega
  rw [Int.toNat_natCast, List.getElem?_eq_getElem hkn, List.getElem?_eq_getElem (show k - 1 < l.length by omega)] at hR
  simp only at hR
  obtain ⟨M, hM⟩ : ∃ M, k = M + 1 := ⟨k - 1, by omega⟩
  obtain ⟨b, o, rfl, _, hc⟩ := hA.raw hkn hn
  obtain ⟨b2, o2, e2, _, hc2⟩ := hA.raw (show M < l.length by omega) hn
  cases e2
  have c0 := hc 0 _ rfl
  have c1 := hc2 0 _ rfl
  have e1 : l[k - 1] = l[M]'(by omega) := by congr 1; omega
  rw [e1] at hR
  obtain ⟨t, ht⟩ : ∃ t, l[k].tag = t := ⟨_, rfl⟩
  obtain ⟨t2, ht2⟩ : ∃ t, (l[M]'(by omega)).tag = t := ⟨_, rfl⟩
  rw [ht] at c0 hR
  rw [ht2] at c1 hR
  rw [Nat.add_zero] at c0 c1
  have d2n : decide (n ≤ k) = false := by rw [decide_eq_false_iff_not]; omega
  have q1 : (k : Int) - 1 = (M : Int) := by omega
  have q2 : (k : Int) < (n : Int) := by omega
  have q3 : (M : Int) < (n : Int) := by omega
  have HM := Lib.hid (And.intro hM (And.intro hk1 hkn))
  clear h1 h2 hA hc hc2 ht ht2 e1 hM hkn hn
  by_cases h0 : t = 0
  · rw [decide_eq_true h0, Bool.true_or] at hR
    subst hR
    have d3 : (t == 0) = true := by rw [h0]; rfl
    have H0 := Lib.hid h0
    clear h0 hk1
    go_enter Try.func56, Try.ntmps56
    go_wp2_with fail
    go_ret
    exact ⟨rfl, rfl⟩
  rw [decide_eq_false h0, Bool.false_or] at hR
  have d3 : (t == 0) = false := by rw [beq_eq_false_iff_ne]; exact h0
  clear h0
  by_cases h4 : 1 < k
  · have d4 : decide ((1 : Int) < (k : Int)) = true := by rw [decide_eq_true_iff]; omega
    rw [d4, Bool.true_and] at hR
    have F := Lib.hid (fun W => form_any t2 W)
    obtain ⟨f, hf⟩ : ∃ f, formM t2 = f := ⟨_, rfl⟩
    rw [hf] at F hR
    have d5 : ((f : Int) == 56) = R := by rw [← hR, Bool.eq_iff_iff]; simp; omega
    clear hf hR h4 hk1
    go_enter Try.func56, Try.ntmps56
    go_wp2_with (go_at_call 28; refine (F.out _).mono ?_; rintro e w' ⟨rfl, rfl⟩)
    go_ret
    exact ⟨rfl, rfl⟩
  · have d4 : decide ((1 : Int) < (k : Int)) = false := by rw [decide_eq_false_iff_not]; omega
    rw [d4, Bool.false_and] at hR
    subst hR
    clear h4 hk1
    go_enter Try.func56, Try.ntmps56
    go_wp2_with fail
    go_ret
    exact ⟨rfl, rfl⟩

set_option maxHeartbeats 8000000 in
theorem tagged_any (l : List Raw) (A : Option Addr) (n c B : Nat) (i t : Int) (hn : l.length = n) (hs : n ≤ 100000) (w : World) (hA : Seen w B 5 A n c (rv l)) :
    Calls Try.prog 48 #[.slice A n c, .int .i64 i, .int .i64 t] w (Rets w (.bool (taggedM l i t))) := by
  have C1 := Lib.hid (fun W (h : Seen W B 5 A n c (rv l)) => none_any l A n c B i hn hs W h)
  obtain ⟨R, hR⟩ : ∃ r, taggedM l i t = r := ⟨_, rfl⟩
  rw [hR]
  unfold taggedM at hR
  obtain ⟨f, hf⟩ : ∃ f, noneM l i = f := ⟨_, rfl⟩
  rw [hf] at C1 hR
  cases f with
  | true =>
    rw [Bool.not_true, Bool.false_and] at hR
    subst hR
    have HA := Lib.hid hA
    clear hA hf
    go_enter Try.func48, Try.ntmps48
    go_wp2_with (go_at_call 56; refine (C1.out _ HA.out).mono ?_; rintro e w' ⟨rfl, rfl⟩)
    go_ret
    exact ⟨rfl, rfl⟩
  | false =>
    have hi : ¬ (i < 1 ∨ (l.length : Int) ≤ i) := by
      intro h
      unfold noneM at hf
      rw [decide_eq_true h, Bool.true_or] at hf
      cases hf
    obtain ⟨k, rfl⟩ : ∃ k : Nat, i = (k : Int) := ⟨i.toNat, by omega⟩
    have hkn : k < l.length := by omega
    rw [Int.toNat_natCast, List.getElem?_eq_getElem hkn] at hR
    simp only [Bool.not_false, Bool.true_and] at hR
    obtain ⟨b, o, rfl, _, hc⟩ := hA.raw hkn hn
    have c0 := hc 0 _ rfl
    obtain ⟨t2, ht⟩ : ∃ t, l[k].tag = t := ⟨_, rfl⟩
    rw [ht] at c0 hR
    rw [Nat.add_zero] at c0
    have q2 : (k : Int) < (n : Int) := by omega
    have d3 : (t2 == t) = R := by rw [← hR, Bool.eq_iff_iff]; simp
    have HA := Lib.hid hA
    have HK := Lib.hid (And.intro hi hkn)
    clear hA hf hi hkn ht hR hc hn
    go_enter Try.func48, Try.ntmps48
    go_wp2_with (go_at_call 56; refine (C1.out _ HA.out).mono ?_; rintro e w' ⟨rfl, rfl⟩)
    go_ret
    exact ⟨rfl, rfl⟩
end Go.Proofs.Ytmojclbejmnikaa
