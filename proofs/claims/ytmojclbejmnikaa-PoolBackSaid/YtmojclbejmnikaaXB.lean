/-
  The document's right: do a constant's numbers lead to what they should. Conditions: a pool in memory, of at most a hundred thousand constants.
-/
import Derived.Test.YtmojclbejmnikaaXA
namespace Go.Proofs.Ytmojclbejmnikaa
open Go Go.RowKit
set_option maxRecDepth 100000

theorem Whole.bel2 {w w' : World} {g : Nat} {t : TypeId} {cs : Array Value} (h : Whole w g t cs) (hb : Below w.heap.size w w') : Whole w' g t cs := h.only (Only.of_below hb Nob) (fun h => h)
def rb (l : List Raw) (r : Raw) : Bool := if r.tag = 7 ∨ r.tag = 8 then taggedM l r.a 1 else if r.tag = 12 then taggedM l r.a 1 && taggedM l r.b 1 else decide (formM r.tag ≠ 0)
def rightM (l : List Raw) (r : Raw) : Bool :=
  if r.tag = 9 ∨ r.tag = 10 ∨ r.tag = 11 then taggedM l r.a 7 && taggedM l r.b 12 && (match l[r.a.toNat]?, l[r.b.toNat]? with | some x, some y => rb l x && rb l y | _, _ => false) else rb l r
theorem tagged_in {l : List Raw} {i t : Int} (h : taggedM l i t = true) : ∃ k : Nat, i = (k : Int) ∧ ∃ h : k < l.length, l[k].tag = t := by
  unfold taggedM at h
  rw [Bool.and_eq_true] at h
  obtain ⟨h1, h2⟩ := h
  have hi : ¬ (i < 1 ∨ (l.length : Int) ≤ i) := by
    intro h
    unfold noneM at h1
    rw [decide_eq_true h, Bool.true_or] at h1
    cases h1
  refine ⟨i.toNat, by omega, by omega, ?_⟩
  rw [List.getElem?_eq_getElem (by omega)] at h2
  simpa using h2

set_option maxHeartbeats 8000000 in
theorem rb_any (l : List Raw) (A : Option Addr) (n c B : Nat) (r : Raw) (hn : l.length = n) (hs : n ≤ 100000) (ht : ¬ (r.tag = 9 ∨ r.tag = 10 ∨ r.tag = 11)) (w : World) (hA : Seen w B 5 A n c (rv l)) (hB : B ≤ w.heap.size) :
    Calls Try.prog 31 #[.slice A n c, .agg #[.int .i64 r.tag, .string r.text, .int .u64 r.bits, .int .i64 r.a, .int .i64 r.b]] w (Gives w (.bool (rb l r))) := by
  obtain ⟨t, s, bits, a, b⟩ := r
  simp only at ht ⊢
  obtain ⟨w1, hw1⟩ : ∃ W, w.alloc (.cells #[.int .i64 t, .string s, .int .u64 bits, .int .i64 a, .int .i64 b] 47) = W := ⟨_, rfl⟩
  have B1 : Hid (Below w.heap.size w w1) := Lib.hid (hw1 ▸ (Below.refl w.heap.size w).alloc (Nat.le_refl _) _)
  have P1 : Whole w1 w.heap.size 47 #[.int .i64 t, .string s, .int .u64 bits, .int .i64 a, .int .i64 b] := hw1 ▸ Whole.new w 47 _
  have c0 := P1.cell 0
  have c3 := P1.cell 3
  have c4 := P1.cell 4
  simp only [List.getElem?_toArray, List.getElem?_cons_zero, List.getElem?_cons_succ] at c0 c3 c4
  have HA := Lib.hid (hA.below (B1.out.mono hB))
  have T1 := Lib.hid (fun i k => tagged_any l A n c B i k hn hs w1 HA.out)
  have FM := Lib.hid (fun W => form_any t W)
  unfold rb
  simp only
  have e9 : (t == 9) = false := by rw [beq_eq_false_iff_ne]; omega
  have e10 : (t == 10) = false := by rw [beq_eq_false_iff_ne]; omega
  have e11 : (t == 11) = false := by rw [beq_eq_false_iff_ne]; omega
  clear hA P1 hn
  by_cases h7 : t = 7
  · rw [if_pos (by omega)]
    obtain ⟨f, hf⟩ : ∃ f, taggedM l a 1 = f := ⟨_, rfl⟩
    have C1 := Lib.hid (T1.out a 1)
    rw [hf] at C1 ⊢
    have e7 : (t == 7) = true := by rw [beq_iff_eq]; omega
    have HH := Lib.hid h7
    clear h7 hf
    clear ht
    go_enter Try.func31, Try.ntmps31
    go_wp2_with (first | (go_at_call 48; refine C1.out.mono ?_; rintro e w2 ⟨rfl, rfl⟩))
    go_ret
    exact ⟨rfl, B1.out⟩
  by_cases h8 : t = 8
  · rw [if_pos (by omega)]
    obtain ⟨f, hf⟩ : ∃ f, taggedM l a 1 = f := ⟨_, rfl⟩
    have C1 := Lib.hid (T1.out a 1)
    rw [hf] at C1 ⊢
    have e7 : (t == 7) = false := by rw [beq_eq_false_iff_ne]; omega
    have e8 : (t == 8) = true := by rw [beq_iff_eq]; omega
    have HH := Lib.hid h8
    have HH7 := Lib.hid h7
    clear h7
    clear h8 hf
    clear ht
    go_enter Try.func31, Try.ntmps31
    go_wp2_with (first | (go_at_call 48; refine C1.out.mono ?_; rintro e w2 ⟨rfl, rfl⟩))
    go_ret
    exact ⟨rfl, B1.out⟩
  rw [if_neg (by omega)]
  by_cases h12 : t = 12
  · rw [if_pos h12]
    obtain ⟨f, hf⟩ : ∃ f, taggedM l a 1 = f := ⟨_, rfl⟩
    obtain ⟨g, hg⟩ : ∃ g, taggedM l b 1 = g := ⟨_, rfl⟩
    have C1 := Lib.hid (T1.out a 1)
    have C2 := Lib.hid (T1.out b 1)
    rw [hf] at C1 ⊢
    rw [hg] at C2 ⊢
    have e7 : (t == 7) = false := by rw [beq_eq_false_iff_ne]; omega
    have e8 : (t == 8) = false := by rw [beq_eq_false_iff_ne]; omega
    have e12 : (t == 12) = true := by rw [beq_iff_eq]; omega
    have HH := Lib.hid (And.intro h7 (And.intro h8 h12))
    clear h7 h8 h12 hf hg
    cases f with
    | false =>
      clear ht
      go_enter Try.func31, Try.ntmps31
      go_wp2_with (go_at_call 48; refine C1.out.mono ?_; rintro e w2 ⟨rfl, rfl⟩)
      go_ret
      exact ⟨rfl, B1.out⟩
    | true =>
      clear ht
      go_enter Try.func31, Try.ntmps31
      go_wp2_with fail
      refine C1.out.mono ?_; rintro e w2 ⟨rfl, rfl⟩
      go_wp2_with fail
      refine C2.out.mono ?_; rintro e w2 ⟨rfl, rfl⟩
      go_wp2_with fail
      go_ret
      exact ⟨by simp, B1.out⟩
  rw [if_neg h12]
  obtain ⟨f, hf⟩ : ∃ f, formM t = f := ⟨_, rfl⟩
  rw [hf] at FM ⊢
  have e7 : (t == 7) = false := by rw [beq_eq_false_iff_ne]; omega
  have e8 : (t == 8) = false := by rw [beq_eq_false_iff_ne]; omega
  have e12 : (t == 12) = false := by rw [beq_eq_false_iff_ne]; omega
  have d5 : ((f : Int) != 0) = decide (f ≠ 0) := by rw [Bool.eq_iff_iff]; simp
  have HH := Lib.hid (And.intro h7 (And.intro h8 h12))
  clear h7 h8 h12 hf
  clear ht
  go_enter Try.func31, Try.ntmps31
  go_wp2_with (go_at_call 28; refine (FM.out _).mono ?_; rintro e w2 ⟨rfl, rfl⟩)
  go_ret
  exact ⟨by rw [show decide (f ≠ 0) = !decide (f = 0) by simp]; rfl, B1.out⟩

set_option maxHeartbeats 8000000 in
theorem rightR_any (l : List Raw) (A : Option Addr) (n c B : Nat) (r : Raw) (hn : l.length = n) (hs : n ≤ 100000) (w : World) (hA : Seen w B 5 A n c (rv l)) (hB : B ≤ w.heap.size) :
    Calls Try.prog 31 #[.slice A n c, .agg #[.int .i64 r.tag, .string r.text, .int .u64 r.bits, .int .i64 r.a, .int .i64 r.b]] w (Gives w (.bool (rightM l r))) := by
  by_cases ht : r.tag = 9 ∨ r.tag = 10 ∨ r.tag = 11
  rotate_left
  · unfold rightM; rw [if_neg ht]; exact rb_any l A n c B r hn hs ht w hA hB
  obtain ⟨R, hR⟩ : ∃ R, rightM l r = R := ⟨_, rfl⟩
  rw [hR]
  unfold rightM at hR
  rw [if_pos ht] at hR
  obtain ⟨t, s, bits, a, b⟩ := r
  simp only at ht hR ⊢
  obtain ⟨w1, hw1⟩ : ∃ W, w.alloc (.cells #[.int .i64 t, .string s, .int .u64 bits, .int .i64 a, .int .i64 b] 47) = W := ⟨_, rfl⟩
  have B1 : Hid (Below w.heap.size w w1) := Lib.hid (hw1 ▸ (Below.refl w.heap.size w).alloc (Nat.le_refl _) _)
  have P1 : Whole w1 w.heap.size 47 #[.int .i64 t, .string s, .int .u64 bits, .int .i64 a, .int .i64 b] := hw1 ▸ Whole.new w 47 _
  have HP1 := Lib.hid P1
  have c0 := P1.cell 0
  have c3 := P1.cell 3
  have c4 := P1.cell 4
  simp only [List.getElem?_toArray, List.getElem?_cons_zero, List.getElem?_cons_succ] at c0 c3 c4
  have hA1 := hA.below (B1.out.mono hB)
  have HA := Lib.hid hA1
  have hB1 : B ≤ w1.heap.size := Nat.le_trans hB B1.out.size
  have T1 := Lib.hid (fun i k => tagged_any l A n c B i k hn hs w1 HA.out)
  have e7 : (t == 7) = false := by rw [beq_eq_false_iff_ne]; omega
  have e8 : (t == 8) = false := by rw [beq_eq_false_iff_ne]; omega
  have e12 : (t == 12) = false := by rw [beq_eq_false_iff_ne]; omega
  obtain ⟨f, hf⟩ : ∃ f, taggedM l a 7 = f := ⟨_, rfl⟩
  obtain ⟨g, hg⟩ : ∃ g, taggedM l b 12 = g := ⟨_, rfl⟩
  have C1 := Lib.hid (T1.out a 7)
  have C2 := Lib.hid (T1.out b 12)
  rw [hf] at C1 hR
  rw [hg] at C2 hR
  have hte : ((t == 9) = true ∨ (t == 9) = false ∧ (t == 10) = true) ∨ ((t == 9) = false ∧ (t == 10) = false ∧ (t == 11) = true) := by
    simp only [beq_iff_eq, beq_eq_false_iff_ne]; omega
  have HT := Lib.hid ht
  cases f with
  | false =>
    rw [Bool.false_and, Bool.false_and] at hR
    subst hR
    clear hA hA1 P1 hn ht hf hg
    rcases hte with (h9 | ⟨h9, h10⟩) | ⟨h9, h10, h11⟩
    all_goals
      go_enter Try.func31, Try.ntmps31
      go_wp2_with (go_at_call 48; refine C1.out.mono ?_; rintro e w2 ⟨rfl, rfl⟩)
      go_ret
      exact ⟨rfl, B1.out⟩
  | true =>
  cases g with
  | false =>
    rw [Bool.and_false, Bool.false_and] at hR
    subst hR
    clear hA hA1 P1 hn ht hf hg
    rcases hte with (h9 | ⟨h9, h10⟩) | ⟨h9, h10, h11⟩
    all_goals
      go_enter Try.func31, Try.ntmps31
      go_wp2_with fail
      refine C1.out.mono ?_; rintro e w2 ⟨rfl, rfl⟩
      go_wp2_with fail
      refine C2.out.mono ?_; rintro e w2 ⟨rfl, rfl⟩
      go_wp2_with fail
      go_ret
      exact ⟨rfl, B1.out⟩
  | true =>
    obtain ⟨i, hi, hil, hit⟩ := tagged_in hf
    obtain ⟨j, hj, hjl, hjt⟩ := tagged_in hg
    subst hi hj
    rw [Int.toNat_natCast, Int.toNat_natCast, List.getElem?_eq_getElem hil, List.getElem?_eq_getElem hjl] at hR
    simp only [Bool.true_and] at hR
    obtain ⟨bb, oo, rfl, hbb, hc⟩ := hA1.raw hil hn
    obtain ⟨b2, o2, e2, _, hc2⟩ := hA1.raw hjl hn
    cases e2
    have RA := Lib.hid (fun W (h : Below w1.heap.size w1 W) => rb_any l (some ⟨bb, oo, none⟩) n c B l[i] hn hs (by rw [hit]; decide) W (HA.out.below (h.mono hB1)) (Nat.le_trans hB1 h.size))
    have RB := Lib.hid (fun W (h : Below w1.heap.size w1 W) => rb_any l (some ⟨bb, oo, none⟩) n c B l[j] hn hs (by rw [hjt]; decide) W (HA.out.below (h.mono hB1)) (Nat.le_trans hB1 h.size))
    obtain ⟨x, hx⟩ : ∃ x, l[i] = x := ⟨_, rfl⟩
    obtain ⟨y, hy⟩ : ∃ x, l[j] = x := ⟨_, rfl⟩
    rw [hx] at hc RA hR
    rw [hy] at hc2 RB hR
    obtain ⟨f2, hf2⟩ : ∃ f, rb l x = f := ⟨_, rfl⟩
    obtain ⟨g2, hg2⟩ : ∃ g, rb l y = g := ⟨_, rfl⟩
    rw [hf2] at RA hR
    rw [hg2] at RB hR
    have q2 : (i : Int) < (n : Int) := by omega
    have q3 : (j : Int) < (n : Int) := by omega
    have m0 : w1.cell? ⟨bb, oo + i * 5, none⟩ = some (.int .i64 x.tag) := hc 0 _ rfl
    have m1 : w1.cell? ⟨bb, oo + i * 5 + 1, none⟩ = some (.string x.text) := by rw [Nat.add_assoc]; exact hc 1 _ rfl
    have m2 : w1.cell? ⟨bb, oo + i * 5 + 2, none⟩ = some (.int .u64 x.bits) := by rw [Nat.add_assoc]; exact hc 2 _ rfl
    have m3 : w1.cell? ⟨bb, oo + i * 5 + 3, none⟩ = some (.int .i64 x.a) := by rw [Nat.add_assoc]; exact hc 3 _ rfl
    have m4 : w1.cell? ⟨bb, oo + i * 5 + 4, none⟩ = some (.int .i64 x.b) := by rw [Nat.add_assoc]; exact hc 4 _ rfl
    have hbw : bb < w1.heap.size := Nat.lt_of_lt_of_le hbb hB1
    have n0 : w1.cell? ⟨bb, oo + j * 5, none⟩ = some (.int .i64 y.tag) := hc2 0 _ rfl
    have n1 : w1.cell? ⟨bb, oo + j * 5 + 1, none⟩ = some (.string y.text) := by rw [Nat.add_assoc]; exact hc2 1 _ rfl
    have n2 : w1.cell? ⟨bb, oo + j * 5 + 2, none⟩ = some (.int .u64 y.bits) := by rw [Nat.add_assoc]; exact hc2 2 _ rfl
    have n3 : w1.cell? ⟨bb, oo + j * 5 + 3, none⟩ = some (.int .i64 y.a) := by rw [Nat.add_assoc]; exact hc2 3 _ rfl
    have n4 : w1.cell? ⟨bb, oo + j * 5 + 4, none⟩ = some (.int .i64 y.b) := by rw [Nat.add_assoc]; exact hc2 4 _ rfl
    have HN := Lib.hid (And.intro n0 (And.intro n1 (And.intro n2 (And.intro n3 (And.intro n4 hbw)))))
    clear n0 n1 n2 n3 n4 hbw
    clear hA hA1 P1 hn ht hf hg hit hjt hil hjl hx hy hf2 hg2 hc hc2
    cases f2 with
    | false =>
      rw [Bool.false_and] at hR
      subst hR
      rcases hte with (h9 | ⟨h9, h10⟩) | ⟨h9, h10, h11⟩
      all_goals
        go_enter Try.func31, Try.ntmps31
        go_wp2_with fail
        refine C1.out.mono ?_; rintro e w2 ⟨rfl, rfl⟩
        go_wp2_with fail
        refine C2.out.mono ?_; rintro e w2 ⟨rfl, rfl⟩
        go_wp2_with fail
        refine (RA.out _ (Below.refl _ _)).mono ?_; rintro e w2 ⟨rfl, b2⟩
        obtain ⟨n0, n1, n2, n3, n4, hbw⟩ := HN.out
        have u0 := (b2.cell (p := ⟨bb, oo + j * 5, none⟩) hbw).trans n0
        have u1 := (b2.cell (p := ⟨bb, oo + j * 5 + 1, none⟩) hbw).trans n1
        have u2 := (b2.cell (p := ⟨bb, oo + j * 5 + 2, none⟩) hbw).trans n2
        have u3 := (b2.cell (p := ⟨bb, oo + j * 5 + 3, none⟩) hbw).trans n3
        have u4 := (b2.cell (p := ⟨bb, oo + j * 5 + 4, none⟩) hbw).trans n4
        have v4 := (HP1.out.bel2 b2).cell 4
        have v3 := (HP1.out.bel2 b2).cell 3
        simp only [List.getElem?_toArray, List.getElem?_cons_zero, List.getElem?_cons_succ] at v4 v3
        have B2 := Lib.hid b2
        clear n0 n1 n2 n3 n4 m0 m1 m2 m3 m4 b2 c0 c3 c4
        go_wp2_with fail
        go_ret
        exact ⟨rfl, B1.out.trans (B2.out.mono B1.out.size)⟩
    | true =>
      rw [Bool.true_and] at hR
      subst hR
      rcases hte with (h9 | ⟨h9, h10⟩) | ⟨h9, h10, h11⟩
      all_goals
        go_enter Try.func31, Try.ntmps31
        go_wp2_with fail
        refine C1.out.mono ?_; rintro e w2 ⟨rfl, rfl⟩
        go_wp2_with fail
        refine C2.out.mono ?_; rintro e w2 ⟨rfl, rfl⟩
        go_wp2_with fail
        refine (RA.out _ (Below.refl _ _)).mono ?_; rintro e w2 ⟨rfl, b2⟩
        obtain ⟨n0, n1, n2, n3, n4, hbw⟩ := HN.out
        have u0 := (b2.cell (p := ⟨bb, oo + j * 5, none⟩) hbw).trans n0
        have u1 := (b2.cell (p := ⟨bb, oo + j * 5 + 1, none⟩) hbw).trans n1
        have u2 := (b2.cell (p := ⟨bb, oo + j * 5 + 2, none⟩) hbw).trans n2
        have u3 := (b2.cell (p := ⟨bb, oo + j * 5 + 3, none⟩) hbw).trans n3
        have u4 := (b2.cell (p := ⟨bb, oo + j * 5 + 4, none⟩) hbw).trans n4
        have v4 := (HP1.out.bel2 b2).cell 4
        have v3 := (HP1.out.bel2 b2).cell 3
        simp only [List.getElem?_toArray, List.getElem?_cons_zero, List.getElem?_cons_succ] at v4 v3
        have B2 := Lib.hid b2
        clear n0 n1 n2 n3 n4 m0 m1 m2 m3 m4 b2 c0 c3 c4
        go_wp2_with (go_at_call 31; refine (RB.out _ B2.out).mono ?_; rintro e w3 ⟨rfl, b3⟩)
        go_ret
        exact ⟨by simp, B1.out.trans ((B2.out.trans (b3.mono B2.out.size)).mono B1.out.size)⟩
end Go.Proofs.Ytmojclbejmnikaa
