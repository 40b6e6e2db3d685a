/-
  What Best's lengths are: from 1 on, whole, of the least cost. Conditions: as many signs as the sorts serve.
-/
import Derived.Test.YtijjcecboepiiaaK7
namespace Go.Proofs.Ytijjcecboepiiaa
open Go.Proofs Go.Shelf Go.RowKit Go.Sort Go.Lib

theorem sum_get (l : List Nat) (g h : Nat → Nat) (hh : ∀ i (hi : i < l.length), g l[i] = h i) : (l.map g).sum = sumTo l.length h := by
  unfold sumTo
  congr 1
  apply List.ext_getElem?
  intro i
  by_cases hi : i < l.length
  · simp [hi, hh i hi]
  · rw [List.getElem?_eq_none (by simp; omega), List.getElem?_eq_none (by simp; omega)]
theorem sum_filter (l : List Nat) (p : Nat → Bool) (F : Nat → Nat) (h : ∀ x ∈ l, p x = false → F x = 0) : ((l.filter p).map F).sum = (l.map F).sum := by
  induction l with
  | nil => rfl
  | cons a l ih =>
    have ih := ih fun x hx => h x (by simp [hx])
    cases hp : p a with
    | true => simp [hp, ih]
    | false => simp [hp, ih, h a (by simp) hp]

section
variable {N : Nat} (S : Sorter N) (lo : List Int) (L : Nat) (hN : lo.length ≤ N) (hN2 : 2 * lo.length ≤ N) (hb : lo.any beyond = false) (hL1 : 1 ≤ L) (hL : L ≤ 15) (hx : come lo ≤ 2 ^ L)

theorem come_le : come lo ≤ lo.length := cm_len lo lo.length
theorem bestF_none (s : Nat) (h : ¬ (s < lo.length ∧ 0 < lo.getD s 0)) (hN : lo.length ≤ N) : bestF S lo L s = 0 := by
  unfold bestF lenOf
  rw [if_neg]
  intro hm
  have hp := (order_ok S lo hN).perm.mem_iff.1 hm
  exact h ⟨cm_mem lo _ s hp, cm_pos lo _ s hp⟩
theorem cm_all {lo : List Int} (s : Nat) (h1 : s < lo.length) (h2 : 0 < lo.getD s 0) : s ∈ cm lo lo.length := List.mem_filter.2 ⟨List.mem_range.2 h1, by simpa using h2⟩

include hN hN2 hb hL1 hL hx in
theorem best_cut (hm : 2 ≤ come lo) : csOf S lo L = cut (tops S (wsOf lo (order S lo)) (L - 1)) (2 * come lo - 2) ∧ (csOf S lo L).length = L ∧ (∀ i, i < come lo → 1 ≤ lenAt (csOf S lo L) i) ∧ sumTo (come lo) (fun i => 2 ^ (15 - lenAt (csOf S lo L) i)) = 32768 ∧
    sumTo (come lo) (fun i => (wsOf lo (order S lo)).getD i 0 * lenAt (csOf S lo L) i) = pcost ((rowAt S (wsOf lo (order S lo)) (L - 1)).take (2 * come lo - 2)) := by
  have ok := order_ok S lo hN
  have hwl : (wsOf lo (order S lo)).length = come lo := by simp [wsOf, ok.len]
  have hcl := come_le lo
  have e : csOf S lo L = cut (tops S (wsOf lo (order S lo)) (L - 1)) (2 * come lo - 2) := by unfold csOf; rw [if_neg (by omega), if_neg (by omega)]
  have hR := tops_rows S (wsOf lo (order S lo)) (by rw [hwl]; omega) (ok.most hb) (L - 1)
  obtain ⟨rest, hr, hrl⟩ := tops_head S (wsOf lo (order S lo)) (L - 1)
  rw [hr] at hR
  have h1 := cut_whole ok.sorted ok.pos (by omega) hR (by rw [hrl, hwl, show L - 1 + 1 = L by omega]; exact hx) (by rw [hrl]; omega)
  have hen := rows_enough 2 hR (by rw [hrl, hwl, Nat.mul_comm, ← Nat.pow_succ, show (L - 1).succ = L by omega]; exact hx)
  rw [hwl] at hen h1
  have h2 := cut_cost ok.sorted (2 * come lo - 2) hR (by omega)
  have h3 := lenAt_cost (wsOf lo (order S lo)) (cut (rowAt S (wsOf lo (order S lo)) (L - 1) :: rest) (2 * come lo - 2))
  rw [hwl, h2] at h3
  refine ⟨e, ?_, ?_, ?_, ?_⟩
  · rw [e, cut_length, tops_len]; omega
  · rw [e, hr]; exact h1.1
  · rw [e, hr]; exact h1.2
  · rw [e, hr]; exact h3

include hN in
theorem bestF_at (i : Nat) (hi : i < (order S lo).length) : bestF S lo L (order S lo)[i] = lenAt (csOf S lo L) i := by
  have ok := order_ok S lo hN
  unfold bestF lenOf
  rw [if_pos (List.getElem_mem hi), idx_get _ ok.nodup i hi]

include hN hN2 hb hL1 hL hx in
theorem bestF_range (hm : 2 ≤ come lo) (s : Nat) (h1 : s < lo.length) (h2 : 0 < lo.getD s 0) : 1 ≤ bestF S lo L s ∧ bestF S lo L s ≤ L := by
  have ok := order_ok S lo hN
  obtain ⟨_, c2, c3, _, _⟩ := best_cut S lo L hN hN2 hb hL1 hL hx hm
  have hmem : s ∈ order S lo := ok.perm.mem_iff.2 (cm_all s h1 h2)
  obtain ⟨i, hi, rfl⟩ := List.getElem_of_mem hmem
  rw [bestF_at S lo L hN i hi]
  have := lenAt_le (csOf S lo L) i
  exact ⟨c3 i (by rw [← ok.len]; exact hi), by omega⟩

/-- Costs and lengths of the signs that come. -/
def zsOf (ss : List Nat) : List (Nat × Nat) := ss.map fun s => ((lo.getD s 0).toNat, bestF S lo L s)

include hN in
theorem zs_sum (g : Nat × Nat → Nat) (h : Nat → Nat) (hh : ∀ i, i < come lo → g ((wsOf lo (order S lo)).getD i 0, lenAt (csOf S lo L) i) = h i) : ((zsOf S lo L (cm lo lo.length)).map g).sum = sumTo (come lo) h := by
  have ok := order_ok S lo hN
  have hp : ((zsOf S lo L (cm lo lo.length)).map g).Perm ((zsOf S lo L (order S lo)).map g) := (ok.perm.symm.map _).map _
  rw [hp.sum_nat]
  unfold zsOf
  rw [List.map_map, ← ok.len]
  refine sum_get _ _ _ fun i hi => ?_
  simp only [Function.comp_def]
  rw [bestF_at S lo L hN i hi, ← hh i (by rw [← ok.len]; exact hi)]
  congr 2
  simp [wsOf, List.getD, hi]

include hN hN2 hb hL1 hL hx in
/-- NO OTHER LENGTHS COST LESS. -/
theorem best_least (hm : 2 ≤ come lo) : tryF L (wsOf lo (cm lo lo.length)) 0 = (costTo lo (bestF S lo L) lo.length : Nat) := by
  have ok := order_ok S lo hN
  obtain ⟨_, c2, c3, c4, c5⟩ := best_cut S lo L hN hN2 hb hL1 hL hx hm
  have hwl : (wsOf lo (order S lo)).length = come lo := by simp [wsOf, ok.len]
  have hdot : dot (zsOf S lo L (cm lo lo.length)) = pcost ((rowAt S (wsOf lo (order S lo)) (L - 1)).take (2 * come lo - 2)) := by
    rw [← c5]
    exact zs_sum S lo L hN (fun z => z.1 * z.2) _ (fun i _ => rfl)
  have hwide : wide (zsOf S lo L (cm lo lo.length)) = 32768 := by
    rw [← c4]
    exact zs_sum S lo L hN (fun z => 2 ^ (15 - z.2)) _ (fun i _ => rfl)
  have hcost : dot (zsOf S lo L (cm lo lo.length)) = costTo lo (bestF S lo L) lo.length := by
    unfold dot zsOf costTo sumTo
    rw [List.map_map]
    have := sum_filter (List.range lo.length) (fun i => decide (0 < lo.getD i 0)) (fun s => (lo.getD s 0).toNat * bestF S lo L s) (by
      intro s _ h
      rw [bestF_none S lo L s (by simp at h; simp; omega) hN]
      simp)
    exact this
  have key := tryF_eq L (wsOf lo (cm lo lo.length)) (zsOf S lo L (cm lo lo.length)) (by simp [zsOf, wsOf, Function.comp_def]) ⟨?_, by rw [hwide]⟩ ?_
  · rw [key, hcost]
  · intro z hz
    simp only [zsOf, List.mem_map] at hz
    obtain ⟨s, hs, rfl⟩ := hz
    exact bestF_range S lo L hN hN2 hb hL1 hL hx hm s (cm_mem lo _ s hs) (cm_pos lo _ s hs)
  · intro ys hy hf
    rw [hdot]
    have hcl := come_le lo
    have hR := tops_rows S (wsOf lo (order S lo)) (by rw [hwl]; omega) (ok.most hb) (L - 1)
    obtain ⟨rest, hr, hrl⟩ := tops_head S (wsOf lo (order S lo)) (L - 1)
    rw [hr] at hR
    have h1 := dot_least ok.sorted hR (by rw [hrl]; omega) ys (by rw [hy]; exact ok.perm.symm.map _) (fun z hz => by have := (hf.1 z hz).2; rw [hrl]; omega) (by have := hf.2; omega)
    rw [hwl] at h1
    exact h1
theorem bestF_le (s : Nat) (hL : L ≤ 15) (hL1 : 1 ≤ L) : bestF S lo L s ≤ 16 := by
  unfold bestF lenOf
  split
  · have h1 := lenAt_le (csOf S lo L) ((order S lo).idxOf s)
    have h2 : (csOf S lo L).length ≤ 16 := by
      unfold csOf
      split
      · simp
      · split
        · simp
        · rw [cut_length, tops_len]; omega
    omega
  · omega
end
end Go.Proofs.Ytijjcecboepiiaa
