/-
  The bytes of MatchFar: a word, a pattern, the word again; the longest copy for the second word. Conditions: the pattern has more than 32000 bytes. Nothing of the program stands here.
-/
import Derived.Test.YthlgceeldnhhbaaA
namespace Go.Proofs.Ythlgceeldnhhbaa

def patTo (k N : Nat) : List Nat := (List.range N).map fun i => if i < k then i % 7 + 10 else 0
theorem patTo_length (k N : Nat) : (patTo k N).length = N := by simp [patTo]
theorem patTo_zero (N : Nat) : patTo 0 N = List.replicate N 0 := by
  apply List.ext_getElem
  · simp [patTo]
  · intro i h1 h2
    simp [patTo]
theorem patTo_set (k N : Nat) : (patTo k N).set k (k % 7 + 10) = patTo (k + 1) N := by
  apply List.ext_getElem
  · simp [patTo]
  · intro i h1 h2
    rw [List.getElem_set]
    simp only [patTo, List.getElem_map, List.getElem_range]
    by_cases h : k = i
    · subst h; simp
    · rw [if_neg h]
      by_cases h3 : i < k
      · rw [if_pos h3, if_pos (by omega)]
      · rw [if_neg h3, if_neg (by omega)]

/-- A word, the pattern, the word again. -/
def farB (y N : Nat) : List Nat := [y, 201, 202, 250] ++ (patTo N N).drop 4 ++ [y, 201, 202, 250]
theorem farB_length {y N : Nat} (h : 32000 < N) : (farB y N).length = N + 4 := by simp [farB, patTo_length]; omega
theorem farB_low {y N i : Nat} (hi : i < 4) : (farB y N).getD i 0 = [y, 201, 202, 250].getD i 0 := by
  unfold farB
  rw [List.append_assoc, List.getD, List.getD, List.getElem?_append_left (by simpa using hi)]
theorem farB_mid {y N i : Nat} (h : 32000 < N) (h1 : 4 ≤ i) (h2 : i < N) : (farB y N).getD i 0 = i % 7 + 10 := by
  unfold farB
  have hl : ([y, 201, 202, 250] ++ (patTo N N).drop 4).length = N := by simp [patTo_length]; omega
  rw [List.getD, List.getElem?_append_left (by omega), List.getElem?_append_right (by simpa using h1)]
  rw [List.getElem?_drop]
  simp [patTo]
  rw [show 4 + (i - 4) = i by omega, List.getElem?_range h2]
  simp [h2]
theorem farB_high {y N j : Nat} (h : 32000 < N) : (farB y N).getD (N + j) 0 = [y, 201, 202, 250].getD j 0 := by
  unfold farB
  have hl : ([y, 201, 202, 250] ++ (patTo N N).drop 4).length = N := by simp [patTo_length]; omega
  rw [List.getD, List.getD, List.getElem?_append_right (by omega), hl, show N + j - N = j by omega]

theorem far_not {y N d : Nat} (hy : 200 ≤ y) (h : 32000 < N) (h1 : 1 ≤ d) (h2 : d < N) : mlen (farB y N) N d < 3 := by
  by_cases hm : 3 ≤ mlen (farB y N) N d
  · exfalso
    have s0 := upto_all _ _ 0 (show 0 < mlen (farB y N) N d by omega)
    have s1 := upto_all _ _ 1 (show 1 < mlen (farB y N) N d by omega)
    have e0 := of_decide_eq_true s0
    have e1 := of_decide_eq_true s1
    rw [farB_high h] at e0 e1
    simp only [List.getD, List.getElem?_cons_zero, List.getElem?_cons_succ, Option.getD_some] at e0 e1
    have e0' : y = (farB y N).getD (N + 0 - d) 0 := e0
    have e1' : 201 = (farB y N).getD (N + 1 - d) 0 := e1
    obtain ⟨p, hp⟩ : ∃ p, N - d = p := ⟨_, rfl⟩
    rw [show N + 0 - d = p by omega] at e0'
    rw [show N + 1 - d = p + 1 by omega] at e1'
    have hp1 : 1 ≤ p := by omega
    have hpN : p < N := by omega
    by_cases h4 : 4 ≤ p
    · rw [farB_mid h h4 hpN] at e0'; omega
    · have hc : p = 1 ∨ p = 2 ∨ p = 3 := by omega
      rcases hc with rfl | rfl | rfl
      · rw [farB_low (by omega)] at e1'; simp at e1'
      · rw [farB_low (by omega)] at e1'; simp at e1'
      · rw [farB_mid h (by omega) (by omega)] at e1'; omega
  · omega

theorem far_best {y N : Nat} (hy : 200 ≤ y) (h : 32000 < N) : ∀ D, D < N → bestT (farB y N) N D = ⟨y, 0, 0⟩
  | 0, _ => by
    unfold bestT
    have := farB_high (y := y) (j := 0) h
    rw [Nat.add_zero] at this
    rw [this]
    rfl
  | D + 1, hD => by
    unfold bestT
    rw [far_best hy h D (by omega)]
    have := far_not hy h (d := D + 1) (by omega) hD
    unfold longerT
    rw [if_neg (by omega)]

theorem far_find {y N : Nat} (hy : 200 ≤ y) (h : 32000 < N) : findT (farB y N) N = if N ≤ 32768 then ⟨0, 4, N⟩ else ⟨y, 0, 0⟩ := by
  unfold findT
  rw [if_neg (by rw [farB_length h]; omega), Int.toNat_natCast]
  by_cases hN : N ≤ 32768
  · rw [if_pos hN, show min N 32768 = N by omega]
    obtain ⟨M, rfl⟩ : ∃ M, N = M + 1 := ⟨N - 1, by omega⟩
    show longerT (farB y (M + 1)) (M + 1) (M + 1) (bestT (farB y (M + 1)) (M + 1) M) = _
    rw [far_best hy h M (by omega)]
    have hm : mostAt (farB y (M + 1)) (M + 1) = 4 := by unfold mostAt; rw [farB_length h]; omega
    have hl : mlen (farB y (M + 1)) (M + 1) (M + 1) = 4 := by
      unfold mlen
      rw [hm]
      refine upto_eq (Nat.le_refl _) (fun j hj => ?_) (.inl rfl)
      unfold sameB
      apply decide_eq_true
      rw [farB_high h, show M + 1 + j - (M + 1) = j by omega, farB_low hj]
    unfold longerT
    rw [hl, if_pos (by simp)]
    rfl
  · rw [if_neg hN, show min N 32768 = 32768 by omega]
    exact far_best hy h 32768 (by omega)
theorem farB_lt {y N : Nat} (hy : y < 256) : ∀ x ∈ farB y N, x < 256 := by
  intro x hx
  unfold farB at hx
  rcases List.mem_append.1 hx with hx | hx
  · rcases List.mem_append.1 hx with hx | hx
    · simp at hx; omega
    · have := List.mem_of_mem_drop hx
      simp only [patTo, List.mem_map] at this
      obtain ⟨i, _, rfl⟩ := this
      split <;> omega
  · simp at hx; omega
end Go.Proofs.Ythlgceeldnhhbaa
