/-
  Mathematics of runs that are taken greedily. Conditions: each theorem names its own.
-/
import Derived.Test.YtnnpiblnjflceaaRA
namespace Go.Proofs.Ytnnpiblnjflceaa
open Go.RowKit
set_option maxRecDepth 100000


/-- The sign that tells the most. -/
def greatR (x u : Int) : Int := if 0 < x ∧ 3 ≤ u then 16 else if x = 0 ∧ 11 ≤ u then 18 else if x = 0 ∧ 3 ≤ u then 17 else x

theorem expR_append : ∀ (a b : List Rn) (o o1 : List Int), expR a o = (0, o1) → expR (a ++ b) o = expR b o1
  | [], b, o, o1, h => by
    injection h with _ h
    subst h
    rfl
  | r :: a, b, o, o1, h => by
    by_cases hw : wrongR r o.length = 0
    · rw [expR_ok hw] at h
      rw [List.cons_append, expR_ok hw]
      exact expR_append a b _ _ h
    · rw [expR_er hw] at h
      injection h with h _
      exact absurd h hw

/-- How many a sign stands for at most. -/
theorem great_nums (x u : Int) (hx : 0 ≤ x) (hx2 : x ≤ 15) (hu : 1 ≤ u) (hu2 : u ≤ 320) : 0 ≤ greatR x u ∧ greatR x u ≤ 18 ∧ leastR (greatR x u) ≤ u ∧ 1 ≤ leastR (greatR x u) ∧ leastR (greatR x u) ≤ 11 ∧ 1 ≤ roomR (greatR x u) ∧ roomR (greatR x u) ≤ 128 := by
  unfold greatR
  split
  · simp only [leastR, roomR]; simp; omega
  · split
    · simp only [leastR, roomR]; simp; omega
    · split
      · simp only [leastR, roomR]; simp; omega
      · have h16 : x ≠ 16 := by omega
        have h17 : x ≠ 17 := by omega
        have h18 : x ≠ 18 := by omega
        simp only [leastR, roomR, if_neg h16, if_neg h17, if_neg h18]
        omega

theorem last_rep (o : List Int) (x : Int) (d : Nat) (hd : 0 < d) : (o ++ List.replicate d x).getD ((o ++ List.replicate d x).length - 1) 0 = x := by
  obtain ⟨e, rfl⟩ : ∃ e, d = e + 1 := ⟨d - 1, by omega⟩
  rw [List.replicate_succ', ← List.append_assoc]
  simp

/-- One run more. -/
theorem great_step (rs : List Rn) (o : List Int) (x : Int) (d t : Nat) (hx : 0 ≤ x) (hx2 : x ≤ 15) (hd : d < t) (ht : o.length + t ≤ 320) (h0 : 0 < x → 0 < d) (h : expR rs [] = (0, o ++ List.replicate d x)) (g c : Int) (hg : greatR x ((t : Int) - d) = g) (hc : c = min ((t : Int) - d) (leastR g + roomR g - 1)) :
    expR (rs ++ [⟨g, c - leastR g⟩]) [] = (0, o ++ List.replicate (d + c.toNat) x) ∧ 1 ≤ c ∧ c ≤ (t : Int) - d := by
  have hn := great_nums x ((t : Int) - d) hx hx2 (by omega) (by omega)
  rw [hg] at hn
  obtain ⟨n1, n2, n3, n4, n5, n6, n7⟩ := hn
  have hc1 : leastR g ≤ c := by omega
  refine ⟨?_, by omega, by omega⟩
  rw [expR_append _ _ _ _ h]
  have hright : rightR ⟨g, c - leastR g⟩ = true := by
    simp only [rightR, Bool.and_eq_true, decide_eq_true_eq]
    omega
  have hlen : (o ++ List.replicate d x).length = o.length + d := by simp
  have hw : wrongR ⟨g, c - leastR g⟩ (o ++ List.replicate d x).length = 0 := by
    unfold wrongR
    rw [hright, if_neg (by simp), hlen]
    simp only
    rw [if_neg, if_neg (by omega)]
    rintro ⟨e1, e2⟩
    have hx0 : x = 0 := by
      rcases Int.lt_or_le 0 x with h | h
      · have := h0 h; omega
      · omega
    subst hx0
    rw [← hg] at e1
    unfold greatR at e1
    simp at e1
    split at e1
    · omega
    · split at e1 <;> omega
  rw [expR_ok hw]
  have htold : toldR g (o ++ List.replicate d x) = x := by
    by_cases h16 : g = 16
    · have hdp : 0 < d := by
        rcases Nat.eq_zero_or_pos d with h | h
        · subst h
          have hx0 : x = 0 := by
            rcases Int.lt_or_le 0 x with h | h
            · have := h0 h; omega
            · omega
          subst hx0
          rw [h16] at hg
          unfold greatR at hg
          simp at hg
          split at hg
          · omega
          · split at hg <;> omega
        · exact h
      unfold toldR
      rw [if_pos h16]
      exact last_rep o x d hdp
    · unfold toldR
      rw [if_neg h16]
      by_cases h17 : g = 17
      · rw [if_pos h17]
        rw [h17] at hg
        unfold greatR at hg
        split at hg
        · omega
        · split at hg
          · omega
          · split at hg <;> omega
      · rw [if_neg h17]
        by_cases h18 : g = 18
        · rw [if_pos h18]
          rw [h18] at hg
          unfold greatR at hg
          split at hg
          · omega
          · split at hg
            · omega
            · split at hg <;> omega
        · rw [if_neg h18]
          unfold greatR at hg
          split at hg
          · omega
          · split at hg
            · omega
            · split at hg <;> omega
  have hadd : addR ⟨g, c - leastR g⟩ (o ++ List.replicate d x) = o ++ List.replicate (d + c.toNat) x := by
    unfold addR
    simp only
    rw [htold]
    have e : leastR g + (c - leastR g) = c := by omega
    rw [e, List.append_assoc, List.replicate_append_replicate]
  rw [hadd]
  rfl

/-- A length by itself. -/
theorem single_step (rs : List Rn) (o : List Int) (x : Int) (hx : 0 ≤ x) (hx2 : x ≤ 15) (ho : o.length < 320) (h : expR rs [] = (0, o)) : expR (rs ++ [⟨x, 0⟩]) [] = (0, o ++ List.replicate 1 x) := by
  rw [expR_append _ _ _ _ h]
  have h16 : x ≠ 16 := by omega
  have h17 : x ≠ 17 := by omega
  have h18 : x ≠ 18 := by omega
  have hright : rightR ⟨x, 0⟩ = true := by
    simp [rightR, roomR, h16, h17, h18]
    omega
  have hl : leastR x = 1 := by simp [leastR, h16, h17, h18]
  have hw : wrongR ⟨x, 0⟩ o.length = 0 := by
    unfold wrongR
    rw [hright, if_neg (by simp)]
    simp only
    rw [if_neg (by omega), if_neg (by omega)]
  rw [expR_ok hw]
  have : addR ⟨x, 0⟩ o = o ++ List.replicate 1 x := by
    unfold addR
    simp only
    rw [hl]
    simp [toldR, h16, h17, h18]
  rw [this]
  rfl

/-- The next run of a length that comes so often. -/
def stp (x : Int) (t : Nat) (p : Nat × List Rn) : Nat × List Rn :=
  (p.1 + (min ((t : Int) - p.1) (leastR (greatR x ((t : Int) - p.1)) + roomR (greatR x ((t : Int) - p.1)) - 1)).toNat, p.2 ++ [⟨greatR x ((t : Int) - p.1), min ((t : Int) - p.1) (leastR (greatR x ((t : Int) - p.1)) + roomR (greatR x ((t : Int) - p.1)) - 1) - leastR (greatR x ((t : Int) - p.1))⟩])
def runG (x : Int) (t : Nat) : Nat → Nat × List Rn → List Rn
  | 0, p => p.2
  | f + 1, p => if p.1 < t then runG x t f (stp x t p) else p.2
theorem stp_more (x : Int) (t : Nat) (hx : 0 ≤ x) (hx2 : x ≤ 15) (ht : t ≤ 320) (p : Nat × List Rn) (h : p.1 < t) : p.1 < (stp x t p).1 := by
  have hn := great_nums x ((t : Int) - p.1) hx hx2 (by omega) (by omega)
  obtain ⟨n1, n2, n3, n4, n5, n6, n7⟩ := hn
  show p.1 < p.1 + _
  have : 1 ≤ min ((t : Int) - p.1) (leastR (greatR x ((t : Int) - p.1)) + roomR (greatR x ((t : Int) - p.1)) - 1) := by omega
  omega
theorem runG_more (x : Int) (t : Nat) (hx : 0 ≤ x) (hx2 : x ≤ 15) (ht : t ≤ 320) : ∀ (f g : Nat) (p : Nat × List Rn), t - p.1 ≤ f → t - p.1 ≤ g → runG x t f p = runG x t g p
  | 0, 0, p, _, _ => rfl
  | 0, g + 1, p, h, _ => by rw [runG, runG, if_neg (by omega)]
  | f + 1, 0, p, _, h => by rw [runG, runG, if_neg (by omega)]
  | f + 1, g + 1, p, hf, hg => by
    rw [runG, runG]
    split
    · rename_i h
      have := stp_more x t hx hx2 ht p h
      exact runG_more x t hx hx2 ht f g _ (by omega) (by omega)
    · rfl
theorem runG_step (x : Int) (t d : Nat) (rs : List Rn) (hx : 0 ≤ x) (hx2 : x ≤ 15) (ht : t ≤ 320) (hd : d < t) (g c : Int) (hg : greatR x ((t : Int) - d) = g) (hc : c = min ((t : Int) - d) (leastR g + roomR g - 1)) :
    runG x t (t - d) (d, rs) = runG x t (t - (d + c.toNat)) (d + c.toNat, rs ++ [⟨g, c - leastR g⟩]) := by
  obtain ⟨f, hf⟩ : ∃ f, t - d = f + 1 := ⟨t - d - 1, by omega⟩
  have e : stp x t (d, rs) = (d + c.toNat, rs ++ [⟨g, c - leastR g⟩]) := by
    unfold stp
    simp only [hg, ← hc]
  have hm := stp_more x t hx hx2 ht (d, rs) hd
  rw [e] at hm
  rw [hf, runG, if_pos hd, e]
  exact runG_more x t hx hx2 ht _ _ _ (by simp only at hm ⊢; omega) (Nat.le_refl _)
/-- The runs of a length that comes so often, behind others. -/
def appR (x : Int) (t : Nat) (rs : List Rn) : List Rn := if 0 < x then runG x t (t - 1) (1, rs ++ [⟨x, 0⟩]) else runG x t t (0, rs)
/-- How many of the first lengths are the same. -/
def likeN (l : List Int) : Nat := (l.takeWhile fun y => y == l.getD 0 0).length
theorem like_eq {l : List Int} {k : Nat} {x : Int} (hx : l.getD 0 0 = x) (h : l.take k = List.replicate k x) (hk : k ≤ l.length) (he : k = l.length ∨ l.getD k 0 ≠ x) : k = likeN l := by
  unfold likeN
  rw [hx]
  have e : l = List.replicate k x ++ l.drop k := by rw [← h, List.take_append_drop]
  have h2 : (l.takeWhile fun y => y == x) = List.replicate k x ++ (l.drop k).takeWhile fun y => y == x := by
    conv => lhs; rw [e]
    rw [List.takeWhile_append_of_pos (by intro a ha; rw [List.eq_of_mem_replicate ha]; simp)]
  have h3 : (l.drop k).takeWhile (fun y => y == x) = [] := by
    rcases he with he | he
    · rw [he, List.drop_length]; rfl
    · by_cases hlt : k < l.length
      · rw [List.drop_eq_getElem_cons hlt, List.takeWhile_cons_of_neg]
        simp [List.getD, hlt] at he
        simpa using he
      · rw [List.drop_eq_nil_of_le (by omega)]; rfl
  rw [h2, h3]
  simp
/-- The runs of lengths. -/
def ofG (l : List Int) : Nat → Nat → List Rn → List Rn
  | 0, _, rs => rs
  | f + 1, d, rs => if d < l.length then ofG l f (d + likeN (l.drop d)) (appR ((l.drop d).getD 0 0) (likeN (l.drop d)) rs) else rs
theorem likeN_pos (l : List Int) (h : 0 < l.length) : 1 ≤ likeN l := by
  cases l with
  | nil => simp at h
  | cons a l => simp [likeN]
theorem ofG_more (l : List Int) : ∀ (f g d : Nat) (rs : List Rn), l.length - d ≤ f → l.length - d ≤ g → ofG l f d rs = ofG l g d rs
  | 0, 0, d, rs, _, _ => rfl
  | 0, g + 1, d, rs, h, _ => by rw [ofG, ofG, if_neg (by omega)]
  | f + 1, 0, d, rs, _, h => by rw [ofG, ofG, if_neg (by omega)]
  | f + 1, g + 1, d, rs, hf, hg => by
    rw [ofG, ofG]
    split
    · rename_i h
      have := likeN_pos (l.drop d) (by rw [List.length_drop]; omega)
      exact ofG_more l f g _ _ (by omega) (by omega)
    · rfl
theorem ofG_step (l : List Int) (d k : Nat) (x : Int) (rs : List Rn) (hd : d < l.length) (hx : (l.drop d).getD 0 0 = x) (hk : k = likeN (l.drop d)) : ofG l (l.length - d) d rs = ofG l (l.length - (d + k)) (d + k) (appR x k rs) := by
  subst hx hk
  obtain ⟨f, hf⟩ : ∃ f, l.length - d = f + 1 := ⟨l.length - d - 1, by omega⟩
  have := likeN_pos (l.drop d) (by rw [List.length_drop]; omega)
  rw [hf, ofG, if_pos hd]
  exact ofG_more l _ _ _ _ (by omega) (Nat.le_refl _)
def ofL (l : List Int) : List Rn := ofG l l.length 0 []
end Go.Proofs.Ytnnpiblnjflceaa
