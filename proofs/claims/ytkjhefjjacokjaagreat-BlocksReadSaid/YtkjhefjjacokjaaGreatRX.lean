/-
  What is written in tokens and runs is read back: mathematics, nothing of the program. Conditions: each theorem names its own.
  What is written in blocks is read back: mathematics, nothing of the program. Conditions: each theorem names its own.
-/
import Derived.Test.YtkjhefjjacokjaaGreatID
import Derived.Test.YtkjhefjjacokjaaGreatDM
import Derived.Test.YtkjhefjjacokjaaGreatST
namespace Go.Proofs.YtkjhefjjacokjaaGreat
set_option maxRecDepth 100000
theorem hi_get (k d v : Nat) (h : k < (hi (k + 1 + d) v).length) : (hi (k + 1 + d) v)[k] = (v / 2 ^ d % 2 == 1) := by
  have e := hi_take (k + 1) d v
  rw [hi_snoc] at e
  have h1 : ((hi (k + 1 + d) v).take (k + 1))[k]? = some (v / 2 ^ d % 2 == 1) := by
    rw [e, List.getElem?_append_right (by simp)]
    simp
  rw [List.getElem?_take_of_lt (by omega), List.getElem?_eq_getElem h] at h1
  injection h1
theorem upTo_low {l : List Int} (n v : Nat) (h : fst l n ≤ v) : ∀ d, d + 1 ≤ n → upTo l (n - (d + 1)) ≤ v / 2 ^ (d + 1)
  | 0, hd => by
    obtain ⟨m, rfl⟩ : ∃ m, n = m + 1 := ⟨n - 1, by omega⟩
    have e : fst l (m + 1) = 2 * upTo l m := rfl
    simp only [Nat.zero_add, Nat.add_sub_cancel, Nat.pow_one]
    omega
  | d + 1, hd => by
    have ih := upTo_low n v h d (by omega)
    obtain ⟨m, hm⟩ : ∃ m, n - (d + 1) = m + 1 := ⟨n - (d + 1) - 1, by omega⟩
    rw [hm, upTo_succ] at ih
    rw [show n - (d + 1 + 1) = m by omega, Nat.pow_succ 2 (d + 1), ← Nat.div_div_eq_div_mul]
    omega
theorem look_word {l : List Int} (hr : kindOf l ≠ 0) (j : Nat) (hj : j < l.length) (bits : List Bool) (hb : bits.take (len l j) = wb l j) (hl : len l j ≤ bits.length) :
    ∀ d, d + 1 ≤ len l j → look l bits (16 - (len l j - (d + 1))) (len l j - (d + 1)) (wv l j / 2 ^ (d + 1)) = .found (len l j) (wv l j) := by
  intro d
  have hok := right_ok hr
  have h15 := len_le hok j
  have step : ∀ d, d + 1 ≤ len l j → look l bits (16 - (len l j - (d + 1))) (len l j - (d + 1)) (wv l j / 2 ^ (d + 1)) =
      if wv l j / 2 ^ d < upTo l (len l j - d) then .found (len l j - d) (wv l j / 2 ^ d) else look l bits (16 - (len l j - d)) (len l j - d) (wv l j / 2 ^ d) := by
    intro d hd
    obtain ⟨k, hk⟩ : ∃ k, len l j = k + 1 + d := ⟨len l j - 1 - d, by omega⟩
    have hlo := longer hok k j hj (by omega)
    have hkb : k < bits.length := by omega
    have hbit : bits[k] = (wv l j / 2 ^ d % 2 == 1) := by
      have h1 : (bits.take (len l j))[k]? = some bits[k] := by rw [List.getElem?_take_of_lt (by omega), List.getElem?_eq_getElem hkb]
      rw [hb] at h1
      unfold wb at h1
      rw [hk, List.getElem?_eq_getElem (by simp; omega), hi_get] at h1
      injection h1 with h1
      exact h1.symm
    have e := look_step (l := l) (bits := bits) (f := 16 - (k + 1)) (k := k) (v := wv l j / 2 ^ (d + 1)) (by omega) hkb
    have hv : 2 * (wv l j / 2 ^ (d + 1)) + bits[k].toNat = wv l j / 2 ^ d := by
      rw [hbit, Nat.pow_succ, ← Nat.div_div_eq_div_mul]
      generalize wv l j / 2 ^ d = x
      rcases Nat.mod_two_eq_zero_or_one x with h | h <;> rw [h] <;> simp <;> omega
    rw [hv] at e
    rw [show len l j - (d + 1) = k by omega, show len l j - d = k + 1 by omega]
    rw [show 16 - k = 16 - (k + 1) + 1 by omega]
    exact e
  have h0 : ∀ h : 1 ≤ len l j, wv l j < upTo l (len l j) := fun h => wv_lt hr j hj (by omega)
  induction d with
  | zero =>
    intro hd
    rw [step 0 hd]
    simp only [Nat.pow_zero, Nat.div_one, Nat.sub_zero]
    rw [if_pos (h0 hd)]
  | succ d ih =>
    intro hd
    rw [step (d + 1) hd, if_neg, ih (by omega)]
    have := upTo_low (l := l) (len l j) (wv l j) (by unfold wv; omega) d (by omega)
    omega
theorem lookup_word {l : List Int} (hr : kindOf l ≠ 0) (j : Nat) (hj : j < l.length) (h0 : len l j ≠ 0) (bits : List Bool) (hb : bits.take (len l j) = wb l j) : lookup l bits = .found (len l j) (wv l j) := by
  have hl : len l j ≤ bits.length := by
    have := congrArg List.length hb
    rw [List.length_take, wb_length] at this
    omega
  have h := look_word hr j hj bits hb hl (len l j - 1) (by omega)
  rw [show len l j - 1 + 1 = len l j by omega, Nat.sub_self] at h
  have hs := (wv_small hr j hj).resolve_right h0
  rw [Nat.div_eq_of_lt hs] at h
  exact h
/-- At place a the bits X stand, and nothing behind them. -/
def At (L : List Bool) (a : Nat) (X : List Bool) : Prop := L.drop a = X ∧ a ≤ L.length
theorem At.on {L : List Bool} {a : Nat} {X Y : List Bool} (h : At L a (X ++ Y)) : At L (a + X.length) Y := by
  obtain ⟨h1, h2⟩ := h
  have hl := congrArg List.length h1
  simp only [List.length_drop, List.length_append] at hl
  refine ⟨?_, by omega⟩
  rw [← List.drop_drop, h1, List.drop_left]
theorem At.bits {L : List Bool} {a v n : Nat} {Y : List Bool} (h : At L a (bitsOf v n ++ Y)) : bitsAt L a n = .ok (v % 2 ^ n) := by
  obtain ⟨h1, h2⟩ := h
  have hl := congrArg List.length h1
  simp only [List.length_drop, List.length_append, bitsOf_length] at hl
  unfold bitsAt
  rw [if_pos (by omega), h1, List.take_append_of_le_length (by simp), List.take_of_length_le (by simp), num_bitsOf]
theorem At.num {L : List Bool} {a n : Nat} {X Y : List Bool} (h : At L a (X ++ Y)) (hn : X.length = n) : bitsAt L a n = .ok (num X) := by
  obtain ⟨h1, h2⟩ := h
  have hl := congrArg List.length h1
  simp only [List.length_drop, List.length_append] at hl
  unfold bitsAt
  rw [if_pos (by omega), h1, List.take_append_of_le_length (by omega), List.take_of_length_le (by omega)]
theorem At.sign {l : List Int} (hr : kindOf l ≠ 0) {j : Nat} (hj : j < l.length) (h0 : len l j ≠ 0) {L : List Bool} {a : Nat} {Y : List Bool} (h : At L a (wb l j ++ Y)) : signAt l L a = .ok (j, a + len l j) := by
  have hb : (L.drop a).take (len l j) = wb l j := by rw [h.1, List.take_append_of_le_length (by simp), List.take_of_length_le (by simp)]
  exact (signAt_found hr (lookup_word hr j hj h0 _ hb) hj rfl rfl).1
theorem At.add {L : List Bool} {a v n b : Nat} {Y : List Bool} {o : Option (Nat × Nat)} (ho : o = some (b, n)) (hv : v < 2 ^ n) (h : At L a (bitsOf v n ++ Y)) : addAt o L a = .ok (b + v, a + n) := by
  unfold addAt
  rw [ho]
  simp only
  rw [h.bits, Nat.mod_eq_of_lt hv]
/-! Tokens. -/
theorem lenOf_some {s : Nat} (h1 : 257 ≤ s) (h2 : s < 286) : lenOf s = some (lenB s, lenM s) := by
  unfold lenB lenM
  cases h : lenOf s with
  | none => unfold lenOf at h; split at h <;> (try omega); split at h <;> (try cases h); split at h <;> cases h
  | some p => rfl
theorem dstOf_some {s : Nat} (h2 : s < 30) : dstOf s = some (dstB s, dstM s) := by
  unfold dstB dstM
  cases h : dstOf s with
  | none => unfold dstOf at h; split at h <;> (try omega); split at h <;> cases h
  | some p => rfl
theorem lenB_rise : ∀ k, k < 28 → lenB (257 + k + 1) ≤ lenB (257 + k) + 2 ^ lenM (257 + k) := by decide
theorem dstB_rise : ∀ k, k < 29 → dstB (k + 1) ≤ dstB k + 2 ^ dstM k := by decide
theorem lsn_part (n : Nat) (h1 : 3 ≤ n) (h2 : n ≤ 258) : 257 ≤ lsn n ∧ lsn n < 286 ∧ lenB (lsn n) ≤ n ∧ n - lenB (lsn n) < 2 ^ lenM (lsn n) := by
  obtain ⟨q1, q2, q3, q4⟩ := lsn_sign n h1
  refine ⟨q1, q2, q3, ?_⟩
  by_cases h : lsn n = 285
  · rw [h] at q3 ⊢
    rw [show lenB 285 = 258 by decide] at q3 ⊢
    have : n - 258 = 0 := by omega
    rw [this]
    exact Nat.pow_pos (by omega)
  · obtain ⟨k, hk⟩ : ∃ k, lsn n = 257 + k := ⟨lsn n - 257, by omega⟩
    have h3 := lenB_rise k (by omega)
    have h4 := q4 (257 + k + 1) (by omega) (by omega)
    rw [hk] at q3 ⊢
    omega
theorem dsn_part (n : Nat) (h1 : 1 ≤ n) (h2 : n ≤ 32768) : dsn n < 30 ∧ dstB (dsn n) ≤ n ∧ n - dstB (dsn n) < 2 ^ dstM (dsn n) := by
  obtain ⟨q1, q2, q3, q4⟩ := dsn_sign n h1
  refine ⟨by omega, q3, ?_⟩
  by_cases h : dsn n = 29
  · rw [h] at q3 ⊢
    rw [show dstB 29 = 24577 by decide] at q3 ⊢
    rw [show dstM 29 = 13 by decide]
    omega
  · have h3 := dstB_rise (dsn n) (by omega)
    have h4 := q4 (dsn n + 1) (by omega) (by omega)
    omega
theorem copyM_eq (d : Nat) : ∀ n o, copyM d n o = copyN d n o
  | 0, o => rfl
  | n + 1, o => by rw [copyM_succ, copyM_eq d n o]; rfl
theorem addT_len (t : Tok) (o : List Nat) : o.length ≤ (addT t o).length := by
  unfold addT
  split
  · simp
  · rw [copyN_length]; omega
theorem expT_len {most : Int} : ∀ (l : List Tok) (o p : List Nat), expT most l o = (0, p) → o.length ≤ p.length
  | [], o, p, h => by simp [expT] at h; subst h; exact Nat.le_refl _
  | t :: l, o, p, h => by
    by_cases hw : wrongT t o.length most = 0
    · rw [expT_cons_ok hw] at h
      exact Nat.le_trans (addT_len t o) (expT_len l _ p h)
    · rw [expT_cons_er hw] at h
      exact absurd (congrArg Prod.fst h) hw
theorem tokB_lit {x y : List Int} {t : Tok} (h : t.len = 0) : tokB x y t = wb x t.lit := by
  unfold tokB fpS fpM fpK
  simp [h, bitsOf]
theorem tokB_copy {x y : List Int} {t : Tok} (h : t.len ≠ 0) : tokB x y t = wb x (lsn t.len.toNat) ++ (bitsOf (t.len.toNat - lenB (lsn t.len.toNat)) (lenM (lsn t.len.toNat)) ++ (wb y (dsn t.dist.toNat) ++ bitsOf (t.dist.toNat - dstB (dsn t.dist.toNat)) (dstM (dsn t.dist.toNat)))) := by
  unfold tokB fpS fpM fpK
  simp only [h, if_false, List.append_assoc]
theorem copy_read {x y : List Int} (hy : kindOf y ≠ 0) {t : Tok} (ht : TokW x y x.length y.length t) (h0 : t.len ≠ 0) {L : List Bool} {most a : Nat} {o : List Nat} {R : List Bool}
    (h : At L a (bitsOf (t.len.toNat - lenB (lsn t.len.toNat)) (lenM (lsn t.len.toNat)) ++ (wb y (dsn t.dist.toNat) ++ (bitsOf (t.dist.toNat - dstB (dsn t.dist.toNat)) (dstM (dsn t.dist.toNat)) ++ R))))
    (hd : t.dist ≤ o.length) (hm : o.length + t.len.toNat ≤ most) :
    copyAt y L most (lsn t.len.toNat) a o = .ok (a + lenM (lsn t.len.toNat) + len y (dsn t.dist.toNat) + dstM (dsn t.dist.toNat), addT t o) := by
  obtain ⟨_, hr, _, h4, _⟩ := ht
  obtain ⟨r1, r2, r3, r4, r5⟩ := rightT_copy hr h0
  obtain ⟨p1, p2, p3, p4⟩ := lsn_part t.len.toNat (by omega) (by omega)
  obtain ⟨d1, d2, d3⟩ := dsn_part t.dist.toNat (by omega) (by omega)
  have a1 := h.add (lenOf_some p1 p2) p4
  have h' := h.on
  rw [bitsOf_length] at h'
  obtain ⟨g1, g2⟩ := h4 h0
  have a2 := h'.sign hy g1 g2
  have h'' := h'.on
  rw [wb_length] at h''
  have a3 := h''.add (dstOf_some d1) d3
  unfold copyAt
  rw [a1]
  simp only
  rw [a2]
  simp only
  rw [a3]
  simp only
  rw [show dstB (dsn t.dist.toNat) + (t.dist.toNat - dstB (dsn t.dist.toNat)) = t.dist.toNat by omega, show lenB (lsn t.len.toNat) + (t.len.toNat - lenB (lsn t.len.toNat)) = t.len.toNat by omega]
  rw [if_neg (by omega), if_neg (by omega), copyM_eq]
  unfold addT
  rw [if_neg h0]
theorem toks_read {x y : List Int} (hx : kindOf x ≠ 0) (hy : kindOf y ≠ 0) (h256 : 256 < x.length) (h0 : len x 256 ≠ 0) {L : List Bool} {most : Nat} {M : Int} {R : List Bool} : ∀ (l : List Tok) (a : Nat) (o p : List Nat),
    (∀ t ∈ l, TokW x y x.length y.length t) → expT M l o = (0, p) → p.length ≤ most → At L a (l.flatMap (tokB x y) ++ (wb x 256 ++ R)) →
    Runs (signStep x y L most) (a, o) (.ok (a + (l.flatMap (tokB x y)).length + len x 256, p))
  | [], a, o, p, _, he, _, h => by
    simp only [expT, Prod.mk.injEq, true_and] at he
    subst he
    apply Runs.fin
    unfold signStep
    have h' : At L a (wb x 256 ++ R) := h
    rw [h'.sign hx h256 h0]
    simp
  | t :: l, a, o, p, ht, he, hm, h => by
    have htt := ht t List.mem_cons_self
    obtain ⟨hl, hr, ⟨s1, s2⟩, hc, _⟩ := htt
    have hw : wrongT t o.length M = 0 := by
      by_cases hw : wrongT t o.length M = 0
      · exact hw
      · rw [expT_cons_er hw] at he; exact absurd (congrArg Prod.fst he) hw
    rw [expT_cons_ok hw] at he
    have hlen := expT_len l _ p he
    rw [List.flatMap_cons, List.append_assoc] at h
    have hnext := h.on
    have ih := toks_read hx hy h256 h0 l _ _ p (fun u hu => ht u (List.mem_cons_of_mem _ hu)) he hm hnext
    have key : signStep x y L most (a, o) = .go (a + (tokB x y t).length, addT t o) := by
      by_cases hz : t.len = 0
      · rw [tokB_lit hz] at h ⊢
        have e : fpS t = t.lit := by unfold fpS; rw [if_pos hz]
        rw [e] at s1 s2
        have ha : addT t o = o ++ [t.lit] := by unfold addT; rw [if_pos hz]
        rw [ha] at hlen ⊢
        simp only [List.length_append, List.length_cons, List.length_nil] at hlen
        unfold signStep
        rw [h.sign hx s1 s2]
        simp only
        rw [if_neg (by omega), if_pos hl, if_neg (by omega), wb_length]
      · have e : fpS t = lsn t.len.toNat := by unfold fpS; rw [if_neg hz]
        rw [e] at s1 s2
        obtain ⟨r1, r2, r3, r4, r5⟩ := rightT_copy hr hz
        obtain ⟨p1, p2, p3, p4⟩ := lsn_part t.len.toNat (by omega) (by omega)
        have hal : (addT t o).length = o.length + t.len.toNat := by unfold addT; rw [if_neg hz, copyN_length]
        rw [hal] at hlen
        rw [tokB_copy hz] at h ⊢
        simp only [List.append_assoc] at h
        have hs := h.sign hx s1 s2
        have h' := h.on
        rw [wb_length] at h'
        have hcp := copy_read (x := x) hy (ht t List.mem_cons_self) hz h' (wrongT_ok hw).2.1 (show o.length + t.len.toNat ≤ most by omega)
        unfold signStep
        rw [hs]
        simp only
        rw [if_neg (by omega), if_neg (by omega), hcp]
        simp only [List.length_append, wb_length, bitsOf_length]
        congr 2
        omega
    rw [List.flatMap_cons, List.length_append, ← Nat.add_assoc]
    exact Runs.go key ih
/-! Lengths in runs. -/
theorem bitsR_run {s : Int} (h : 16 ≤ s) (h2 : s ≤ 18) : (bitsR s).toNat = runBits s.toNat ∧ roomR s = ((2 ^ runBits s.toNat : Nat) : Int) ∧ leastR s = (runLeast s.toNat : Nat) := by
  have : s = 16 ∨ s = 17 ∨ s = 18 := by omega
  rcases this with rfl | rfl | rfl <;> decide
theorem run_read {c : List Int} (hc : kindOf c ≠ 0) (h19 : c.length = 19) {r : Rn} (hw : len c r.sign.toNat ≠ 0) {o : List Int} (hr : wrongR r o.length = 0) {L : List Bool} {a : Nat} {R : List Bool} (h : At L a (runB c r ++ R)) :
    runAt c L a o = .ok (toldR r.sign o, (leastR r.sign + r.more).toNat, a + (runB c r).length) := by
  obtain ⟨g1, g2, g3⟩ := wrongR_ok hr
  obtain ⟨n1, n2, n3, n4⟩ := rightR_nums g1
  unfold runB at h ⊢
  rw [List.append_assoc] at h
  have hs := h.sign hc (by omega) hw
  have h' := h.on
  rw [wb_length] at h'
  unfold runAt
  rw [hs]
  simp only
  by_cases h16 : r.sign < 16
  · rw [if_pos (by omega)]
    have e1 : bitsR r.sign = 0 := by unfold bitsR; rw [if_neg (by omega), if_neg (by omega), if_neg (by omega)]
    have e2 : roomR r.sign = 1 := by unfold roomR; rw [if_neg (by omega), if_neg (by omega), if_neg (by omega)]
    have e3 : leastR r.sign = 1 := by unfold leastR; rw [if_neg (by omega), if_neg (by omega), if_neg (by omega)]
    have e4 : toldR r.sign o = r.sign := by unfold toldR; rw [if_neg (by omega), if_neg (by omega), if_neg (by omega)]
    rw [e2] at n4
    have e5 : r.more = 0 := by omega
    rw [e1, e3, e4, e5]
    simp only [List.length_append, wb_length, bitsOf_length]
    congr 2
    omega
  · rw [if_neg (by omega)]
    obtain ⟨b1, b2, b3⟩ := bitsR_run (s := r.sign) (by omega) n2
    rw [b1] at h' ⊢
    rw [b2] at n4
    have hb := h'.bits
    rw [Nat.mod_eq_of_lt (by omega)] at hb
    rw [hb]
    simp only
    simp only [List.length_append, wb_length, bitsOf_length]
    rw [b3]
    have em : ((runLeast r.sign.toNat : Nat) + r.more : Int).toNat = runLeast r.sign.toNat + r.more.toNat := by omega
    rw [em]
    by_cases h17 : r.sign = 16
    · rw [if_neg (by omega), if_neg (by
        intro e
        rw [e] at g2
        exact g2 ⟨h17, rfl⟩)]
      have e4 : toldR r.sign o = o.getD (o.length - 1) 0 := by unfold toldR; rw [if_pos h17]
      rw [e4, Nat.add_assoc]
    · rw [if_pos (by omega)]
      have e4 : toldR r.sign o = 0 := by
        unfold toldR
        rw [if_neg h17]
        by_cases h18 : r.sign = 17
        · rw [if_pos h18]
        · rw [if_neg h18, if_pos (by omega)]
      rw [e4, Nat.add_assoc]
theorem expR_len : ∀ (l : List Rn) (o p : List Int), expR l o = (0, p) → o.length ≤ p.length
  | [], o, p, h => by simp [expR] at h; subst h; exact Nat.le_refl _
  | r :: l, o, p, h => by
    by_cases hw : wrongR r o.length = 0
    · rw [expR_ok hw] at h
      have := expR_len l _ p h
      have h2 := (addR_length hw).1
      omega
    · rw [expR_er hw] at h
      exact absurd (congrArg Prod.fst h) hw
theorem lens_read {c : List Int} (hc : kindOf c ≠ 0) (h19 : c.length = 19) {L : List Bool} {n : Nat} {R : List Bool} : ∀ (l : List Rn) (a : Nat) (o p : List Int), (∀ r ∈ l, len c r.sign.toNat ≠ 0) → expR l o = (0, p) → p.length = n →
    At L a (l.flatMap (runB c) ++ R) → Runs (lensStep c L n) (a, o) (.ok (a + (l.flatMap (runB c)).length, p))
  | [], a, o, p, _, he, hn, h => by
    simp only [expR, Prod.mk.injEq, true_and] at he
    subst he
    apply Runs.fin
    unfold lensStep
    rw [if_pos (by simp only; omega)]
    simp
  | r :: l, a, o, p, hs, he, hn, h => by
    have hw : wrongR r o.length = 0 := by
      by_cases hw : wrongR r o.length = 0
      · exact hw
      · rw [expR_er hw] at he; exact absurd (congrArg Prod.fst he) hw
    rw [expR_ok hw] at he
    have hlen := expR_len l _ p he
    obtain ⟨al, _⟩ := addR_length hw
    have hp := leastR_pos r.sign
    have hnum := rightR_nums (wrongR_ok hw).1
    rw [List.flatMap_cons, List.append_assoc] at h
    have ih := lens_read hc h19 l _ _ p (fun u hu => hs u (List.mem_cons_of_mem _ hu)) he hn h.on
    rw [List.flatMap_cons, List.length_append, ← Nat.add_assoc]
    refine Runs.go ?_ ih
    unfold lensStep
    simp only
    rw [if_neg (by omega), run_read hc h19 (hs r List.mem_cons_self) hw h]
    simp only
    rw [if_neg (by omega)]
    rfl
/-! What runs that are taken greedily stand for. -/
theorem runG_exp (x : Int) (t : Nat) (o : List Int) (hx : 0 ≤ x) (hx2 : x ≤ 15) (ht : o.length + t ≤ 320) : ∀ (f : Nat) (d : Nat) (rs : List Rn), t - d ≤ f → d ≤ t → (0 < x → 0 < d) → expR rs [] = (0, o ++ List.replicate d x) →
    expR (runG x t (t - d) (d, rs)) [] = (0, o ++ List.replicate t x)
  | f, d, rs, hf, hd, h0, h => by
    by_cases hdt : d = t
    · subst hdt
      rw [Nat.sub_self]
      exact h
    · cases f with
      | zero => omega
      | succ f =>
        obtain ⟨g, hg⟩ : ∃ g, greatR x ((t : Int) - d) = g := ⟨_, rfl⟩
        obtain ⟨c, hc⟩ : ∃ c, c = min ((t : Int) - d) (leastR g + roomR g - 1) := ⟨_, rfl⟩
        obtain ⟨q1, q2, q3⟩ := great_step rs o x d t hx hx2 (by omega) ht h0 h g c hg hc
        rw [runG_step x t d rs hx hx2 (by omega) (by omega) g c hg hc]
        exact runG_exp x t o hx hx2 ht f (d + c.toNat) _ (by omega) (by omega) (fun _ => by omega) q1
theorem appR_exp (x : Int) (t : Nat) (o : List Int) (rs : List Rn) (hx : 0 ≤ x) (hx2 : x ≤ 15) (ht : o.length + t ≤ 320) (h1 : 1 ≤ t) (h : expR rs [] = (0, o)) : expR (appR x t rs) [] = (0, o ++ List.replicate t x) := by
  unfold appR
  by_cases hp : 0 < x
  · rw [if_pos hp]
    exact runG_exp x t o hx hx2 ht t 1 _ (by omega) h1 (fun _ => by omega) (single_step rs o x hx hx2 (by omega) h)
  · rw [if_neg hp]
    have := runG_exp x t o hx hx2 ht t 0 rs (by omega) (by omega) (fun h => absurd h hp) (by simpa using h)
    simpa using this
theorem takeWhile_rep (l : List Int) (x : Int) : l.takeWhile (fun y => y == x) = List.replicate (l.takeWhile fun y => y == x).length x := by
  induction l with
  | nil => rfl
  | cons y l ih =>
    by_cases h : y = x
    · subst h
      rw [List.takeWhile_cons_of_pos (by simp)]
      rw [List.length_cons, List.replicate_succ, ← ih]
    · rw [List.takeWhile_cons_of_neg (by simpa using h)]
      rfl
theorem likeN_take (l : List Int) : l.take (likeN l) = List.replicate (likeN l) (l.getD 0 0) := by
  unfold likeN
  have h := takeWhile_rep l (l.getD 0 0)
  rw [← h]
  exact (List.prefix_iff_eq_take.1 (List.takeWhile_prefix _)).symm
theorem likeN_le (l : List Int) : likeN l ≤ l.length := (List.takeWhile_prefix _).length_le
theorem ofG_exp {l : List Int} (hl : l.length ≤ 320) (hb : ∀ x ∈ l, 0 ≤ x ∧ x ≤ 15) : ∀ (f : Nat) (d : Nat) (rs : List Rn), l.length - d ≤ f → d ≤ l.length → expR rs [] = (0, l.take d) → expR (ofG l (l.length - d) d rs) [] = (0, l)
  | f, d, rs, hf, hd, h => by
    by_cases he : d = l.length
    · subst he
      rw [Nat.sub_self]
      rw [List.take_length] at h
      exact h
    · cases f with
      | zero => omega
      | succ f =>
        have hdl : d < l.length := by omega
        obtain ⟨x, hx⟩ : ∃ x, (l.drop d).getD 0 0 = x := ⟨_, rfl⟩
        obtain ⟨k, hk⟩ : ∃ k, k = likeN (l.drop d) := ⟨_, rfl⟩
        have hxm : x ∈ l := by
          rw [← hx]
          have e : (l.drop d).getD 0 0 = l[d] := by
            rw [List.getD, List.getElem?_drop, Nat.add_zero, List.getElem?_eq_getElem hdl]
            rfl
          rw [e]
          exact List.getElem_mem hdl
        obtain ⟨b1, b2⟩ := hb x hxm
        have hk1 : 1 ≤ k := by rw [hk]; exact likeN_pos _ (by simp; omega)
        have hk2 : k ≤ l.length - d := by
          have := likeN_le (l.drop d)
          rw [List.length_drop] at this
          omega
        have ht : (l.drop d).take k = List.replicate k x := by rw [hk, ← hx]; exact likeN_take _
        rw [ofG_step l d k x rs hdl hx hk]
        refine ofG_exp hl hb f (d + k) _ (by omega) (by omega) ?_
        rw [appR_exp x k (l.take d) rs b1 b2 (by rw [List.length_take]; omega) hk1 h]
        rw [List.take_add, ht]
theorem ofL_exp {l : List Int} (hl : l.length ≤ 320) (hb : ∀ x ∈ l, 0 ≤ x ∧ x ≤ 15) : expR (ofL l) [] = (0, l) := by
  unfold ofL
  have := ofG_exp hl hb l.length 0 [] (by omega) (by omega) rfl
  simpa using this
end Go.Proofs.YtkjhefjjacokjaaGreat

namespace Go.Proofs.YtkjhefjjacokjaaGreat
set_option maxRecDepth 100000
/-! A dynamic block's header. -/
theorem flat3 (l : List Int) (L : List Bool) (a : Nat) (R : List Bool) (h : At L a (l.flatMap (fun n => bitsOf n.toNat 3) ++ R)) (hl : ∀ x ∈ l, 0 ≤ x ∧ x ≤ 7) (k : Nat) (hk : k < l.length) : num ((L.drop (a + 3 * k)).take 3) = (l.getD k 0).toNat ∧ a + 3 * k + 3 ≤ L.length := by
  induction l generalizing a k with
  | nil => simp at hk
  | cons x l ih =>
    rw [List.flatMap_cons, List.append_assoc] at h
    cases k with
    | zero =>
      obtain ⟨h1, h2⟩ := h
      have hx := hl x List.mem_cons_self
      have hln := congrArg List.length h1
      simp only [List.length_drop, List.length_append, bitsOf_length] at hln
      rw [Nat.mul_zero, Nat.add_zero, h1, List.take_append_of_le_length (by simp), List.take_of_length_le (by simp), num_bitsOf]
      refine ⟨?_, by omega⟩
      show x.toNat % 2 ^ 3 = x.toNat
      omega
    | succ k =>
      have h' := h.on
      rw [bitsOf_length] at h'
      have := ih (a + 3) h' (fun y hy => hl y (List.mem_cons_of_mem _ hy)) k (by simpa using hk)
      rw [show a + 3 * (k + 1) = a + 3 + 3 * k by omega]
      exact this
theorem gD_in (l : List Int) (i : Nat) (h : i < l.length) : l.getD i 0 = l[i] := by simp [List.getD, h]
theorem ordL_inj : ∀ i, i < 19 → ∀ j, j < 19 → ordL.getD i 0 = ordL.getD j 0 → i = j := by decide
theorem ordL_all : ∀ s, s < 19 → ∃ i, i < 19 ∧ ordL.getD i 0 = s := by decide
theorem llF_succ (L : List Bool) (a k : Nat) : llF L a (k + 1) = (llF L a k).set (ordL.getD k 0) (num ((L.drop (a + 3 * k)).take 3) : Nat) := rfl
theorem llF_get (L : List Bool) (a : Nat) : ∀ k, k ≤ 19 → ∀ i, i < 19 → (llF L a k).getD (ordL.getD i 0) 0 = if i < k then ((num ((L.drop (a + 3 * i)).take 3) : Nat) : Int) else 0
  | 0, _, i, hi => by
    rw [if_neg (by omega)]
    show (List.replicate 19 (0 : Int)).getD _ 0 = 0
    rw [List.getD, List.getElem?_replicate]
    split <;> rfl
  | k + 1, hk, i, hi => by
    rw [llF_succ]
    have ih := llF_get L a k (by omega) i hi
    by_cases e : i = k
    · subst e
      rw [if_pos (by omega)]
      have := ordL_lt i hi
      rw [List.getD, List.getElem?_set_self (by simpa using this)]
      rfl
    · have hne : ordL.getD k 0 ≠ ordL.getD i 0 := fun h => e (ordL_inj k (by omega) i hi h).symm
      rw [List.getD, List.getElem?_set_ne hne]
      rw [List.getD] at ih
      rw [ih]
      by_cases h : i < k
      · rw [if_pos h, if_pos (by omega)]
      · rw [if_neg h, if_neg (by omega)]
/-- The lengths of lengths are read as they were. -/
theorem llF_read {C : List Int} (h19 : C.length = 19) (h7 : ∀ x ∈ C, 0 ≤ x ∧ x ≤ 7) {n : Nat} (hn : n ≤ 19) (hz : ∀ i, n ≤ i → i < 19 → C.getD (ordL.getD i 0) 0 = 0) {L : List Bool} {a : Nat} {R : List Bool}
    (h : At L a ((((List.range 19).map (inO C)).take n).flatMap (fun n => bitsOf n.toNat 3) ++ R)) : llF L a n = C ∧ a + 3 * n ≤ L.length := by
  have hT : (((List.range 19).map (inO C)).take n).length = n := by simp; omega
  have hget : ∀ i, i < n → (((List.range 19).map (inO C)).take n).getD i 0 = C.getD (ordL.getD i 0) 0 := by
    intro i hi
    rw [List.getD, List.getElem?_take, if_pos hi, List.getElem?_map, List.getElem?_range (by omega)]
    rfl
  have hC : ∀ j, 0 ≤ C.getD j 0 ∧ C.getD j 0 ≤ 7 := by
    intro j
    by_cases hj : j < C.length
    · rw [List.getD, List.getElem?_eq_getElem hj]; exact h7 _ (List.getElem_mem hj)
    · rw [List.getD, List.getElem?_eq_none (by omega)]; simp
  have h7' : ∀ x ∈ (((List.range 19).map (inO C)).take n), 0 ≤ x ∧ x ≤ 7 := by
    intro x hx
    obtain ⟨i, _, rfl⟩ := List.mem_map.1 (List.mem_of_mem_take hx)
    exact hC _
  refine ⟨?_, ?_⟩
  · apply List.ext_getElem?
    intro j
    by_cases hj : j < 19
    · obtain ⟨i, hi, rfl⟩ := ordL_all j hj
      have e := llF_get L a n hn i hi
      have e2 : (llF L a n).getD (ordL.getD i 0) 0 = C.getD (ordL.getD i 0) 0 := by
        rw [e]
        by_cases hin : i < n
        · rw [if_pos hin, (flat3 _ L a R h h7' i (by omega)).1, hget i hin]
          have := hC (ordL.getD i 0)
          omega
        · rw [if_neg hin, hz i (by omega) hi]
      have b1 : ordL.getD i 0 < (llF L a n).length := by rw [llF_length]; exact hj
      have b2 : ordL.getD i 0 < C.length := by omega
      rw [gD_in _ _ b1, gD_in _ _ b2] at e2
      rw [List.getElem?_eq_getElem b1, List.getElem?_eq_getElem b2]
      exact congrArg some e2
    · rw [List.getElem?_eq_none (by rw [llF_length]; omega), List.getElem?_eq_none (by omega)]
  · by_cases hn0 : n = 0
    · subst hn0
      exact h.2
    · have := (flat3 _ L a R h h7' (n - 1) (by omega)).2
      omega
theorem num3 (a b c : Nat) (ha : a < 32) (hb : b < 32) (hc : c < 16) : num (bitsOf a 5 ++ (bitsOf b 5 ++ bitsOf c 4)) = a + 32 * (b + 32 * c) := by
  rw [num_append, num_append, num_bitsOf, num_bitsOf, num_bitsOf]
  simp only [bitsOf_length]
  omega
/-- A header of lengths s and d is read: C are the lengths of lengths, n of which are told. -/
theorem dyn_read {s d C : List Int} {n : Nat} (s1 : 257 ≤ s.length) (s2 : s.length ≤ 286) (d1 : 1 ≤ d.length) (d2 : d.length ≤ 30) (hok : ∀ x ∈ s ++ d, 0 ≤ x ∧ x ≤ 15)
    (h19 : C.length = 19) (h7 : ∀ x ∈ C, 0 ≤ x ∧ x ≤ 7) (hC : kindOf C ≠ 0) (n4 : 4 ≤ n) (n19 : n ≤ 19) (hz : ∀ i, n ≤ i → i < 19 → C.getD (ordL.getD i 0) 0 = 0) (hw : ∀ r ∈ ofL (s ++ d), len C r.sign.toNat ≠ 0)
    (ks : kindOf s ≠ 0) (kd : kindOf d ≠ 0) (h256 : len s 256 ≠ 0) {L : List Bool} {a : Nat} {R : List Bool}
    (h : At L a ((bitsOf (s.length - 257) 5 ++ (bitsOf (d.length - 1) 5 ++ (bitsOf (n - 4) 4 ++ ((((List.range 19).map (inO C)).take n).flatMap (fun n => bitsOf n.toNat 3) ++ (ofL (s ++ d)).flatMap (runB C))))) ++ R)) :
    dynAt L a = .ok (a + (bitsOf (s.length - 257) 5 ++ (bitsOf (d.length - 1) 5 ++ (bitsOf (n - 4) 4 ++ ((((List.range 19).map (inO C)).take n).flatMap (fun n => bitsOf n.toNat 3) ++ (ofL (s ++ d)).flatMap (runB C))))).length, s, d) := by
  obtain ⟨T, hT⟩ : ∃ T, (((List.range 19).map (inO C)).take n) = T := ⟨_, rfl⟩
  have hTl : T.length = n := by rw [← hT]; simp; omega
  have hT3 : (T.flatMap (fun n => bitsOf n.toNat 3)).length = 3 * n := by
    rw [← hTl]
    clear hTl hT h
    induction T with
    | nil => rfl
    | cons x T ih => rw [List.flatMap_cons, List.length_append, ih, bitsOf_length, List.length_cons]; omega
  rw [hT] at h
  have e : ((bitsOf (s.length - 257) 5 ++ (bitsOf (d.length - 1) 5 ++ (bitsOf (n - 4) 4 ++ (T.flatMap (fun n => bitsOf n.toNat 3) ++ (ofL (s ++ d)).flatMap (runB C))))) ++ R) = (bitsOf (s.length - 257) 5 ++ (bitsOf (d.length - 1) 5 ++ bitsOf (n - 4) 4)) ++ (T.flatMap (fun n => bitsOf n.toNat 3) ++ ((ofL (s ++ d)).flatMap (runB C) ++ R)) := by simp only [List.append_assoc]
  rw [e] at h
  have b14 := h.num (n := 14) (by simp)
  rw [num3 _ _ _ (by omega) (by omega) (by omega)] at b14
  have h1 := h.on
  have e14 : (bitsOf (s.length - 257) 5 ++ (bitsOf (d.length - 1) 5 ++ bitsOf (n - 4) 4)).length = 14 := by simp
  rw [e14] at h1
  have h1' := h1
  rw [← hT] at h1'
  obtain ⟨hll, hln⟩ := llF_read h19 h7 n19 hz h1'
  have h2 := h1.on
  rw [hT3] at h2
  have hr := lens_read hC h19 (n := s.length + d.length) (ofL (s ++ d)) _ [] (s ++ d) hw (ofL_exp (by simp; omega) hok) (by simp) h2
  obtain ⟨V, hV⟩ : ∃ V, s.length - 257 + 32 * (d.length - 1 + 32 * (n - 4)) = V := ⟨_, rfl⟩
  rw [hV] at b14
  have v1 : V % 32 + 257 = s.length := by omega
  have v2 : V / 32 % 32 + 1 = d.length := by omega
  have v3 : V / 1024 + 4 = n := by omega
  rw [hT]
  unfold dynAt
  rw [b14]
  simp only
  rw [v1, v2, v3, if_neg (by omega), if_neg (by omega), hll, if_neg hC, runF_eq hr]
  simp only
  rw [List.take_left, List.drop_left]
  have hg : (s ++ d).getD 256 0 ≠ 0 := by
    intro h0
    apply h256
    unfold len
    rw [List.getD, List.getElem?_append_left (by omega)] at h0
    rw [List.getD, h0]
    rfl
  rw [if_neg (by
    intro hh
    rcases hh with hh | hh | hh
    · exact hg hh
    · exact ks hh
    · exact kd hh)]
  congr 2
  simp only [List.length_append, bitsOf_length, hT3]
  omega
/-! Blocks. -/
theorem head_num (kind : Nat) (last : Bool) (hk : kind < 4) : num (headB kind last) = (if last then 1 else 0) + 2 * kind := by
  unfold headB
  rw [num_append, num_bitsOf, num_bitsOf]
  simp only [bitsOf_length]
  cases last
  · simp; omega
  · simp; omega
theorem headB_len (kind : Nat) (last : Bool) : (headB kind last).length = 3 := by simp [headB]
theorem pack_unpack : ∀ (bs : List Nat), (∀ x ∈ bs, x < 256) → pack (unpack bs) = bs
  | [], _ => rfl
  | b :: bs, h => by
    have ih := pack_unpack bs (fun x hx => h x (List.mem_cons_of_mem _ hx))
    have hb := h b List.mem_cons_self
    have e : unpack (b :: bs) = bitsOf b 8 ++ unpack bs := rfl
    apply List.ext_getElem?
    intro i
    by_cases hi : i < bs.length + 1
    · rw [pack_get _ _ (by rw [unpack_length]; simp; omega), e]
      cases i with
      | zero =>
        rw [Nat.mul_zero, List.drop_zero, List.take_append_of_le_length (by simp), List.take_of_length_le (by simp), num_bitsOf]
        simp; omega
      | succ i =>
        rw [show 8 * (i + 1) = (bitsOf b 8).length + 8 * i by simp; omega, ← List.drop_drop, List.drop_left]
        have h2 := pack_get (unpack bs) i (by rw [unpack_length]; omega)
        rw [ih] at h2
        rw [List.getElem?_cons_succ, h2]
    · rw [List.getElem?_eq_none (by rw [pack_length, unpack_length]; simp; omega), List.getElem?_eq_none (by simp; omega)]
/-- A block of bytes behind other bits. -/
theorem stored_read {P R : List Bool} {bs : List Nat} (hbs : ∀ x ∈ bs, x < 256) (hn : bs.length ≤ 65535) {last : Bool} {L : List Bool} (hL : L = (storedH P bs.length last ++ unpack bs) ++ R) {most : Nat} {o : List Nat} (hm : o.length + bs.length ≤ most) :
    blockStep L most (P.length, o) = if last then Step.fin ((storedH P bs.length last ++ unpack bs).length, o ++ bs) else Step.go ((storedH P bs.length last ++ unpack bs).length, o ++ bs) := by
  unfold storedH at hL ⊢
  obtain ⟨pad, hpad⟩ : ∃ q, List.replicate ((8 - (P ++ headB 0 last).length % 8) % 8) false = q := ⟨_, rfl⟩
  have hq : pad.length = (8 - (P.length + 3) % 8) % 8 := by rw [← hpad]; simp [headB]
  have ep : padTo (P ++ headB 0 last) = P ++ (headB 0 last ++ pad) := by unfold padTo; rw [hpad, List.append_assoc]
  rw [ep] at hL ⊢
  have h0 : At L P.length (headB 0 last ++ (pad ++ ((bitsOf bs.length 16 ++ bitsOf (4294967295 - bs.length) 16) ++ (unpack bs ++ R)))) := by
    rw [hL]
    refine ⟨?_, by simp⟩
    simp only [List.append_assoc]
    rw [List.drop_left]
  have b3 := h0.num (headB_len 0 last)
  rw [head_num 0 last (by omega)] at b3
  have h1 := h0.on.on
  rw [headB_len, hq] at h1
  have eat : (P.length + 3 + 7) / 8 * 8 = P.length + 3 + (8 - (P.length + 3) % 8) % 8 := by omega
  rw [← eat] at h1
  have b32 := h1.num (n := 32) (by simp)
  have hnum : num (bitsOf bs.length 16 ++ bitsOf (4294967295 - bs.length) 16) = bs.length + 65536 * (65535 - bs.length) := by
    rw [num_append, num_bitsOf, num_bitsOf]
    simp only [bitsOf_length]
    omega
  rw [hnum] at b32
  have h2 := h1.on
  have e32 : (bitsOf bs.length 16 ++ bitsOf (4294967295 - bs.length) 16).length = 32 := by simp
  rw [e32] at h2
  have hl2 := congrArg List.length h2.1
  simp only [List.length_drop, List.length_append, unpack_length] at hl2
  have h2b := h2.2
  obtain ⟨V, hV⟩ : ∃ V, bs.length + 65536 * (65535 - bs.length) = V := ⟨_, rfl⟩
  rw [hV] at b32
  have v1 : V % 65536 = bs.length := by omega
  have v2 : V / 65536 = 65535 - bs.length := by omega
  have hk : kindAt L most 0 (P.length + 3) o = .ok ((P.length + 3 + 7) / 8 * 8 + 32 + 8 * bs.length, o ++ bs) := by
    show storedAt L most (P.length + 3) o = _
    unfold storedAt
    rw [b32]
    simp only
    rw [v1, v2, if_neg (by omega), if_neg (by omega), if_neg (by omega), h2.1, List.take_append_of_le_length (by rw [unpack_length]; omega), List.take_of_length_le (by rw [unpack_length]; omega), pack_unpack bs hbs]
  have elen : (P ++ (headB 0 last ++ pad) ++ bitsOf bs.length 16 ++ bitsOf (4294967295 - bs.length) 16 ++ unpack bs).length = (P.length + 3 + 7) / 8 * 8 + 32 + 8 * bs.length := by
    simp only [List.length_append, headB_len, hq, bitsOf_length, unpack_length]
    omega
  rw [elen]
  unfold blockStep
  rw [b3]
  simp only
  cases last
  · simp only [Bool.false_eq_true, if_false, Nat.mul_zero, Nat.add_zero]
    rw [show 0 / 2 = 0 from rfl, hk]
    try simp
  · simp only [if_true, Nat.mul_zero, Nat.add_zero]
    rw [show 1 / 2 = 0 from rfl, hk]
    try simp
/-! Tokens behind bytes that stand ahead. -/
theorem copyN_behind (q o : List Nat) (d : Nat) (h1 : 1 ≤ d) (hd : d ≤ o.length) : ∀ n, copyN d n (q ++ o) = q ++ copyN d n o
  | 0 => rfl
  | n + 1 => by
    have ih := copyN_behind q o d h1 hd n
    have hl := copyN_length d n o
    unfold copyN
    rw [ih, List.append_assoc]
    congr 2
    rw [List.length_append, show q.length + (copyN d n o).length - d = q.length + ((copyN d n o).length - d) by omega]
    rw [List.getD, List.getD, List.getElem?_append_right (by omega), Nat.add_sub_cancel_left]
theorem addT_behind (q : List Nat) {t : Tok} {o : List Nat} (hr : rightT t = true) (hd : t.dist ≤ o.length) : addT t (q ++ o) = q ++ addT t o := by
  unfold addT
  by_cases h0 : t.len = 0
  · rw [if_pos h0, if_pos h0, List.append_assoc]
  · rw [if_neg h0, if_neg h0]
    obtain ⟨r1, r2, r3, r4, r5⟩ := rightT_copy hr h0
    exact copyN_behind q o _ (by omega) (by omega) _
theorem expT_behind (q : List Nat) {M M' : Int} (hM : M + q.length ≤ M') : ∀ (l : List Tok) (o p : List Nat), expT M l o = (0, p) → expT M' l (q ++ o) = (0, q ++ p)
  | [], o, p, h => by simp only [expT, Prod.mk.injEq, true_and] at h ⊢; rw [h]
  | t :: l, o, p, h => by
    by_cases hw : wrongT t o.length M = 0
    · rw [expT_cons_ok hw] at h
      obtain ⟨g1, g2, g3⟩ := wrongT_ok hw
      have hw' : wrongT t (q ++ o).length M' = 0 := by
        unfold wrongT
        rw [List.length_append, if_neg (by rw [g1]; simp), if_neg (by omega), if_neg (by omega)]
      rw [expT_cons_ok hw', addT_behind q g1 g2]
      exact expT_behind q hM l _ p h
    · rw [expT_cons_er hw] at h
      exact absurd (congrArg Prod.fst h) hw
/-! A block of tokens. -/
theorem toks_block {x y : List Int} (hx : kindOf x ≠ 0) (hy : kindOf y ≠ 0) (h256 : 256 < x.length) (h0 : len x 256 ≠ 0) {kind : Nat} (hk : kind < 4) {H : List Bool} {L : List Bool} {most : Nat}
    (hkind : ∀ a R, At L a (H ++ R) → ∀ o, kindAt L most kind a o = runF (signStep x y L most) (a + H.length, o)) {P R : List Bool} {l : List Tok} {last : Bool}
    (hL : L = P ++ ((headB kind last ++ (H ++ (l.flatMap (tokB x y) ++ wb x 256))) ++ R)) {M : Int} {o p : List Nat} (ht : ∀ t ∈ l, TokW x y x.length y.length t) (he : expT M l o = (0, p)) (hm : p.length ≤ most) :
    blockStep L most (P.length, o) = if last then Step.fin (P.length + (headB kind last ++ (H ++ (l.flatMap (tokB x y) ++ wb x 256))).length, p) else Step.go (P.length + (headB kind last ++ (H ++ (l.flatMap (tokB x y) ++ wb x 256))).length, p) := by
  have h1 : At L P.length (headB kind last ++ (H ++ (l.flatMap (tokB x y) ++ (wb x 256 ++ R)))) := by
    rw [hL]
    refine ⟨?_, by simp⟩
    simp only [List.append_assoc]
    rw [List.drop_left]
  have b3 := h1.num (headB_len kind last)
  rw [head_num kind last hk] at b3
  have h2 := h1.on
  rw [headB_len] at h2
  have hk1 := hkind _ _ h2 o
  have hr := toks_read hx hy h256 h0 l _ o p ht he hm h2.on
  rw [runF_eq hr] at hk1
  have el : (headB kind last ++ (H ++ (l.flatMap (tokB x y) ++ wb x 256))).length = 3 + H.length + (l.flatMap (tokB x y)).length + len x 256 := by
    simp only [List.length_append, headB_len, wb_length]; omega
  rw [el]
  unfold blockStep
  rw [b3]
  simp only
  cases last
  · simp only [Bool.false_eq_true, if_false, Nat.zero_add]
    rw [show 2 * kind / 2 = kind by omega, hk1]
    simp only
    rw [if_neg (by omega)]
    congr 2
    omega
  · simp only [if_true]
    rw [show (1 + 2 * kind) / 2 = kind by omega, hk1]
    simp only
    rw [if_pos (by omega)]
    congr 2
    omega
/-- Two blocks: bytes that stand ahead, and a last block behind them. -/
theorem two_read {L : List Bool} {most : Nat} {bs p : List Nat} (hbs : ∀ x ∈ bs, x < 256) (hn : bs.length ≤ 65535) (hm : bs.length ≤ most) {R : List Bool} (hL : L = (storedH [] bs.length false ++ unpack bs) ++ R) {a : Nat}
    (h : blockStep L most ((storedH [] bs.length false ++ unpack bs).length, bs) = .fin (a, p)) : Runs (blockStep L most) (0, []) (.ok (a, p)) := by
  have h1 := stored_read (P := []) hbs hn (last := false) hL (most := most) (o := []) (by simpa using hm)
  simp only [List.length_nil, Bool.false_eq_true, if_false, List.nil_append] at h1
  exact Runs.go h1 (Runs.fin h)
/-- The bits of packed bits. -/
theorem bits_num (l : List Bool) (h : l.length ≤ 8) : bitsOf (num l) 8 = l ++ List.replicate (8 - l.length) false := by
  have e : 8 = l.length + (8 - l.length) := by omega
  rw [e, bitsOf_add, bitsOf_num]
  congr 1
  · have : num l / 2 ^ l.length = 0 := Nat.div_eq_of_lt (num_lt l)
    rw [this, ← e]
    generalize 8 - l.length = k
    induction k with
    | zero => rfl
    | succ k ih => simp [bitsOf, List.replicate_succ, ih]
theorem unpack_packed : ∀ (n : Nat) (l : List Bool), l.length ≤ n → unpack (pack l) = l ++ List.replicate ((l.length + 7) / 8 * 8 - l.length) false
  | 0, l, h => by
    have : l = [] := List.eq_nil_of_length_eq_zero (by omega)
    subst this
    rfl
  | n + 1, l, h => by
    by_cases h8 : l.length ≤ 8
    · by_cases h0 : l.length = 0
      · have : l = [] := List.eq_nil_of_length_eq_zero h0
        subst this
        rfl
      · have e : pack l = [num l] := by
          apply List.ext_getElem?
          intro i
          by_cases hi : i < 1
          · obtain rfl : i = 0 := by omega
            rw [pack_get _ _ (by omega), Nat.mul_zero, List.drop_zero, List.take_of_length_le h8]
            rfl
          · rw [List.getElem?_eq_none (by rw [pack_length]; omega), List.getElem?_eq_none (by simp; omega)]
        rw [e]
        show bitsOf (num l) 8 ++ [] = _
        rw [List.append_nil, bits_num l h8]
        congr 2
        omega
    · have ih := unpack_packed n (l.drop 8) (by simp; omega)
      have e : pack l = num (l.take 8) :: pack (l.drop 8) := by
        apply List.ext_getElem?
        intro i
        by_cases hi : i < (l.length + 7) / 8
        · rw [pack_get _ _ hi]
          cases i with
          | zero => simp
          | succ i =>
            rw [List.getElem?_cons_succ, pack_get _ _ (by simp; omega), List.drop_drop, show 8 + 8 * i = 8 * (i + 1) by omega]
        · rw [List.getElem?_eq_none (by rw [pack_length]; omega), List.getElem?_eq_none (by simp; omega)]
      rw [e]
      show bitsOf (num (l.take 8)) 8 ++ unpack (pack (l.drop 8)) = _
      have h8' : (l.take 8).length = 8 := by simp; omega
      rw [ih, bits_num _ (by omega), h8', Nat.sub_self, List.replicate_zero, List.append_nil, ← List.append_assoc, List.take_append_drop, List.length_drop]
      congr 2
      omega
/-- A header that is written is read. -/
theorem hdr_read {s d : List Int} (ho : HdrOk s d) (ks : kindOf s ≠ 0) (kd : kindOf d ≠ 0) (h256 : len s 256 ≠ 0) {L : List Bool} {a : Nat} {R : List Bool} (h : At L a (hdrL s d ++ R)) : dynAt L a = .ok (a + (hdrL s d).length, s, d) := by
  have hb : beyondR (s ++ d) = false := by
    rw [beyondR, List.any_eq_false]
    intro x hx
    have := ho.ok x hx
    simp
    omega
  have hl : (s ++ d).length ≤ 320 := by have := ho.s2; have := ho.d2; simp; omega
  have hof := ofL_le hb hl
  have hO := often_rn (s := s) (d := d) (by omega)
  have h19 : (lenRn s d).length = 19 := by unfold lenRn; rw [bestL_length]; simp [ofRn]
  have hT : telN s d = trimN ((List.range 19).map (inO (lenRn s d))) 4 19 := rfl
  refine dyn_read ho.s1 ho.s2 ho.d1 ho.d2 ho.ok (C := lenRn s d) (n := telN s d) h19 (fun x hx => ?_) (best_ok_kind hO) ?_ ?_ ?_ ?_ ks kd h256 h
  · have := best_most hO x hx
    exact ⟨this.1, by have := this.2; omega⟩
  · rw [hT]; exact trimN_least _ _ _ (by omega)
  · rw [hT]; exact trimN_le _ _ _
  · intro i h1 h2
    rw [hT] at h1
    have := trimN_zero _ 4 19 i h1 h2
    rw [List.getD, List.getElem?_map, List.getElem?_range h2] at this
    exact this
  · intro r hr
    have hn := rightR_nums (expR_right _ _ _ (ofL_exp hl ho.ok) r hr)
    refine best_some hO _ (by omega) ?_
    have hp := rnC_pos (ofL (s ++ d)) (fun _ => 0) (fun _ => Int.le_refl _) r hr
    unfold ofRn
    rw [List.getD, List.getElem?_map, List.getElem?_range (by omega)]
    show 0 < rnC (ofL (s ++ d)) (fun _ => 0) r.sign.toNat
    omega
theorem fx_is : fixL = fxS ∧ fixD = fxD := by decide
theorem fx_kinds : kindOf fxS ≠ 0 ∧ kindOf fxD ≠ 0 ∧ 256 < fxS.length ∧ len fxS 256 ≠ 0 ∧ fxS.length = 288 ∧ fxD.length = 32 := by decide
/-- A fixed block that is written is read. -/
theorem fixW_read {L P R : List Bool} {l : List Tok} (hl : Tks l) {last : Bool} {most : Nat} (hL : L = P ++ (fixW l last ++ R)) {M : Int} {o p : List Nat} (he : expT M l o = (0, p)) (hm : p.length ≤ most) :
    blockStep L most (P.length, o) = if last then Step.fin (P.length + (fixW l last).length, p) else Step.go (P.length + (fixW l last).length, p) := by
  obtain ⟨k1, k2, k3, k4, k5, k6⟩ := fx_kinds
  have e : fixW l last = headB 1 last ++ ([] ++ (l.flatMap (tokB fxS fxD) ++ wb fxS 256)) := by unfold fixW; rw [List.nil_append, List.append_assoc]
  rw [e] at hL ⊢
  refine toks_block k1 k2 k3 k4 (kind := 1) (by omega) (H := []) (fun a R _ o => ?_) hL (fun t ht => ?_) he hm
  · rw [← fx_is.1, ← fx_is.2]; rfl
  · rw [k5, k6]; exact fx_toks hl t ht
/-- A dynamic block that is written is read. -/
theorem dynW_read {L P R : List Bool} {F : Nat → Int} {l : List Tok} (hc : CntW F l) {last : Bool} {most : Nat} (hL : L = P ++ (dynW F l last ++ R)) {M : Int} {o p : List Nat} (he : expT M l o = (0, p)) (hm : p.length ≤ most) :
    blockStep L most (P.length, o) = if last then Step.fin (P.length + (dynW F l last).length, p) else Step.go (P.length + (dynW F l last).length, p) := by
  have ho := hc.hdr
  have w1 := hc.w256
  have n1 : ((sgB F).take (sgN F)).length = sgN F := by rw [List.length_take, sgB_length]; have : sgN F ≤ 286 := trimN_le _ _ _; omega
  have n2 : ((dsB F).take (dsN F)).length = dsN F := by rw [List.length_take, dsB_length]; have : dsN F ≤ 30 := trimN_le _ _ _; omega
  have e : dynW F l last = headB 2 last ++ (hdrL ((sgB F).take (sgN F)) ((dsB F).take (dsN F)) ++ (l.flatMap (tokB ((sgB F).take (sgN F)) ((dsB F).take (dsN F))) ++ wb ((sgB F).take (sgN F)) 256)) := by unfold dynW; simp only [List.append_assoc]
  rw [e] at hL ⊢
  refine toks_block hc.k1 hc.k2 (by rw [n1]; exact w1.1) w1.2 (kind := 2) (by omega) (fun a R h o => ?_) hL (fun t ht => ?_) he hm
  · show (match dynAt L a with | Rs.er e => Rs.er e | Rs.ok (a1, x, y) => runF (signStep x y L most) (a1, o)) = _
    rw [hdr_read ho hc.k1 hc.k2 w1.2 h]
  · rw [n1, n2]; exact hc.toks t ht
end Go.Proofs.YtkjhefjjacokjaaGreat
