/-
  Mathematics of runs that are taken greedily: each run stands for what is left, and no more runs than lengths. Conditions: each theorem names its own. Nothing of the program stands here.
-/
import Derived.Test.YtnobeghnljjidaaA
namespace Go.Proofs.Ytnobeghnljjidaa

/-- The sign that tells the most. -/
def greatR (x u : Int) : Int := if 0 < x ∧ 3 ≤ u then 16 else if x = 0 ∧ 11 ≤ u then 18 else if x = 0 ∧ 3 ≤ u then 17 else x

theorem expR_append : ∀ (a b : List Rn) (o o1 : List Int), expR a o = (0, o1) → expR (a ++ b) o = expR b o1
  | [], b, o, o1, h => by
    injection h with _ h
    subst h
    rfl
  | r :: a, b, o, o1, h => by
    by_cases hw : wrongR r o.length = 0
    · rw [expR_ok hw] at h
      rw [List.cons_append, expR_ok hw]
      exact expR_append a b _ _ h
    · rw [expR_er hw] at h
      injection h with h _
      exact absurd h hw

/-- How many a sign stands for at most. -/
theorem great_nums (x u : Int) (hx : 0 ≤ x) (hx2 : x ≤ 15) (hu : 1 ≤ u) (hu2 : u ≤ 320) : 0 ≤ greatR x u ∧ greatR x u ≤ 18 ∧ leastR (greatR x u) ≤ u ∧ 1 ≤ leastR (greatR x u) ∧ leastR (greatR x u) ≤ 11 ∧ 1 ≤ roomR (greatR x u) ∧ roomR (greatR x u) ≤ 128 := by
  unfold greatR
  split
  · simp only [leastR, roomR]; simp; omega
  · split
    · simp only [leastR, roomR]; simp; omega
    · split
      · simp only [leastR, roomR]; simp; omega
      · have h16 : x ≠ 16 := by omega
        have h17 : x ≠ 17 := by omega
        have h18 : x ≠ 18 := by omega
        simp only [leastR, roomR, if_neg h16, if_neg h17, if_neg h18]
        omega

theorem last_rep (o : List Int) (x : Int) (d : Nat) (hd : 0 < d) : (o ++ List.replicate d x).getD ((o ++ List.replicate d x).length - 1) 0 = x := by
  obtain ⟨e, rfl⟩ : ∃ e, d = e + 1 := ⟨d - 1, by omega⟩
  rw [List.replicate_succ', ← List.append_assoc]
  simp

/-- One run more. -/
theorem great_step (rs : List Rn) (o : List Int) (x : Int) (d t : Nat) (hx : 0 ≤ x) (hx2 : x ≤ 15) (hd : d < t) (ht : o.length + t ≤ 320) (h0 : 0 < x → 0 < d) (h : expR rs [] = (0, o ++ List.replicate d x)) (g c : Int) (hg : greatR x ((t : Int) - d) = g) (hc : c = min ((t : Int) - d) (leastR g + roomR g - 1)) :
    expR (rs ++ [⟨g, c - leastR g⟩]) [] = (0, o ++ List.replicate (d + c.toNat) x) ∧ 1 ≤ c ∧ c ≤ (t : Int) - d := by
  have hn := great_nums x ((t : Int) - d) hx hx2 (by omega) (by omega)
  rw [hg] at hn
  obtain ⟨n1, n2, n3, n4, n5, n6, n7⟩ := hn
  have hc1 : leastR g ≤ c := by omega
  refine ⟨?_, by omega, by omega⟩
  rw [expR_append _ _ _ _ h]
  have hright : rightR ⟨g, c - leastR g⟩ = true := by
    simp only [rightR, Bool.and_eq_true, decide_eq_true_eq]
    omega
  have hlen : (o ++ List.replicate d x).length = o.length + d := by simp
  have hw : wrongR ⟨g, c - leastR g⟩ (o ++ List.replicate d x).length = 0 := by
    unfold wrongR
    rw [hright, if_neg (by simp), hlen]
    simp only
    rw [if_neg, if_neg (by omega)]
    rintro ⟨e1, e2⟩
    have hx0 : x = 0 := by
      rcases Int.lt_or_le 0 x with h | h
      · have := h0 h; omega
      · omega
    subst hx0
    rw [← hg] at e1
    unfold greatR at e1
    simp at e1
    split at e1
    · omega
    · split at e1 <;> omega
  rw [expR_ok hw]
  have htold : toldR g (o ++ List.replicate d x) = x := by
    by_cases h16 : g = 16
    · have hdp : 0 < d := by
        rcases Nat.eq_zero_or_pos d with h | h
        · subst h
          have hx0 : x = 0 := by
            rcases Int.lt_or_le 0 x with h | h
            · have := h0 h; omega
            · omega
          subst hx0
          rw [h16] at hg
          unfold greatR at hg
          simp at hg
          split at hg
          · omega
          · split at hg <;> omega
        · exact h
      unfold toldR
      rw [if_pos h16]
      exact last_rep o x d hdp
    · unfold toldR
      rw [if_neg h16]
      by_cases h17 : g = 17
      · rw [if_pos h17]
        rw [h17] at hg
        unfold greatR at hg
        split at hg
        · omega
        · split at hg
          · omega
          · split at hg <;> omega
      · rw [if_neg h17]
        by_cases h18 : g = 18
        · rw [if_pos h18]
          rw [h18] at hg
          unfold greatR at hg
          split at hg
          · omega
          · split at hg
            · omega
            · split at hg <;> omega
        · rw [if_neg h18]
          unfold greatR at hg
          split at hg
          · omega
          · split at hg
            · omega
            · split at hg <;> omega
  have hadd : addR ⟨g, c - leastR g⟩ (o ++ List.replicate d x) = o ++ List.replicate (d + c.toNat) x := by
    unfold addR
    simp only
    rw [htold]
    have e : leastR g + (c - leastR g) = c := by omega
    rw [e, List.append_assoc, List.replicate_append_replicate]
  rw [hadd]
  rfl

/-- A length by itself. -/
theorem single_step (rs : List Rn) (o : List Int) (x : Int) (hx : 0 ≤ x) (hx2 : x ≤ 15) (ho : o.length < 320) (h : expR rs [] = (0, o)) : expR (rs ++ [⟨x, 0⟩]) [] = (0, o ++ List.replicate 1 x) := by
  rw [expR_append _ _ _ _ h]
  have h16 : x ≠ 16 := by omega
  have h17 : x ≠ 17 := by omega
  have h18 : x ≠ 18 := by omega
  have hright : rightR ⟨x, 0⟩ = true := by
    simp [rightR, roomR, h16, h17, h18]
    omega
  have hl : leastR x = 1 := by simp [leastR, h16, h17, h18]
  have hw : wrongR ⟨x, 0⟩ o.length = 0 := by
    unfold wrongR
    rw [hright, if_neg (by simp)]
    simp only
    rw [if_neg (by omega), if_neg (by omega)]
  rw [expR_ok hw]
  have : addR ⟨x, 0⟩ o = o ++ List.replicate 1 x := by
    unfold addR
    simp only
    rw [hl]
    simp [toldR, h16, h17, h18]
  rw [this]
  rfl
end Go.Proofs.Ytnobeghnljjidaa
