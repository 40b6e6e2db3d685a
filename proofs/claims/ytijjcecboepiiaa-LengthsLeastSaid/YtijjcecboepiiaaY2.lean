/-
  Packages merged: the rows are long enough; what is taken makes words whole; what it costs is the least. Conditions: none. Nothing of the program stands here.
-/
import Derived.Test.YtijjcecboepiiaaY1
namespace Go.Proofs.Ytijjcecboepiiaa

theorem rows_length_ge {ws : List Nat} : ∀ {rest : List (List Pk)} {r : List Pk}, Rows ws (r :: rest) → ws.length ≤ r.length
  | [], r, h => by have h : r = singles ws := h; subst h; simp [singles]
  | r' :: rest, r, h => by have := h.2.1.length_eq; rw [List.length_append] at this; simp only [singles, List.length_map] at this; omega
theorem rows_length {ws : List Nat} {r r' : List Pk} {rest : List (List Pk)} (h : Rows ws (r :: r' :: rest)) : r.length = ws.length + r'.length / 2 := by
  have := h.2.1.length_eq
  rwa [List.length_append, pairs_length, singles, List.length_map] at this
/-- A row has 2n - 2 packs, if no more signs come than the bits can tell apart. -/
theorem rows_enough {ws : List Nat} : ∀ {rest : List (List Pk)} {r : List Pk} (x : Nat), Rows ws (r :: rest) → ws.length ≤ x * 2 ^ rest.length → 2 * ws.length ≤ r.length + x
  | [], r, x, h, hx => by
    have h : r = singles ws := h
    subst h
    simp [singles] at hx ⊢
    omega
  | r' :: rest, r, x, h, hx => by
    have e := rows_length h
    have := rows_enough (rest := rest) (r := r') (2 * x) h.2.2 (by rw [List.length_cons, Nat.pow_succ] at hx; rw [Nat.mul_comm 2 x, Nat.mul_assoc, Nat.mul_comm 2]; exact hx)
    omega

/-- The single ones taken, and the pairs. -/
theorem rows_split {ws : List Nat} (hws : SortedN ws) {r r' : List Pk} {rest : List (List Pk)} (h : Rows ws (r :: r' :: rest)) {m : Nat} (hm : m ≤ r.length) : Nonempty (Split ws (costs (pairs r')) r m) :=
  split_row hws (pairs_sorted r' (rows_sorted hws h.2.2)) (fun x hx => pairs_true r' x hx) h.1 h.2.1 hm
theorem cut_single (ws : List Nat) (m : Nat) : ((singles ws).take m).filter (!·.2) = (singles ws).take m :=
  List.filter_eq_self.2 (by intro a ha; have ha := List.mem_of_mem_take ha; simp only [singles, List.mem_map] at ha; obtain ⟨x, _, rfl⟩ := ha; rfl)
theorem singles_take (ws : List Nat) (m : Nat) : (singles ws).take m = singles (ws.take m) := by simp [singles, List.map_take]

def sums (ws : List Nat) (cs : List Nat) : Nat := (cs.map fun c => (ws.take c).sum).sum
/-- What is taken costs as much as the first packs of the top row. -/
theorem cut_cost {ws : List Nat} (hws : SortedN ws) : ∀ {rest : List (List Pk)} {r : List Pk} (m : Nat), Rows ws (r :: rest) → m ≤ r.length → sums ws (cut (r :: rest) m) = pcost (r.take m)
  | [], r, m, h, hm => by
    have h : r = singles ws := h
    subst h
    simp only [cut, cut_single, sums, List.map_cons, List.map_nil, List.sum_cons, List.sum_nil, Nat.add_zero]
    rw [singles_take, pcost, singles_costs]
    simp only [singles, List.length_map, List.length_take] at hm ⊢
    rw [Nat.min_eq_left hm]
  | r' :: rest, r, m, h, hm => by
    obtain ⟨⟨wa, wb, qa, qb, S_hw, S_hq, S_hs, S_hm, S_hc, S_h1, S_h2⟩⟩ := rows_split hws h hm
    have hq : (costs (pairs r')).length = r'.length / 2 := by simp [costs, pairs_length]
    have hqa : qa.length ≤ r'.length / 2 := by rw [← hq, S_hq, List.length_append]; omega
    have ih := cut_cost hws (rest := rest) (r := r') (2 * qa.length) h.2.2 (by omega)
    have e1 : wa = ws.take wa.length := by conv => rhs; rw [S_hw, List.take_left]
    have e2 : qa = costs ((pairs r').take qa.length) := by
      have := congrArg (List.take qa.length) S_hq
      rw [List.take_left] at this
      rw [← this]; simp [costs, List.map_take]
    have e3 : qa.sum = pcost (r'.take (2 * qa.length)) := by
      rw [← pairs_take r' qa.length (by omega)]
      exact congrArg List.sum e2
    rw [cut, ← S_hs]
    have hm2 : 2 * (m - wa.length) = 2 * qa.length := by have := S_hm; omega
    rw [hm2]
    have ih' : sums ws (cut (r' :: rest) (2 * qa.length)) = qa.sum := by rw [ih, e3]
    rw [S_hc, ← ih']
    simp only [sums, List.map_cons, List.sum_cons]
    rw [← e1]

/-- Widths. -/
def width : List Nat → Nat
  | [] => 0
  | c :: cs => c * 2 ^ cs.length + width cs
theorem cut_width {ws : List Nat} (hws : SortedN ws) : ∀ {rest : List (List Pk)} {r : List Pk} (m : Nat), Rows ws (r :: rest) → m ≤ r.length → width (cut (r :: rest) m) = m * 2 ^ rest.length
  | [], r, m, h, hm => by
    have h : r = singles ws := h
    subst h
    simp only [cut, cut_single, width, List.length_nil, List.length_take]
    rw [Nat.min_eq_left hm]; simp
  | r' :: rest, r, m, h, hm => by
    obtain ⟨⟨wa, wb, qa, qb, S_hw, S_hq, S_hs, S_hm, S_hc, S_h1, S_h2⟩⟩ := rows_split hws h hm
    have hqa : qa.length ≤ r'.length / 2 := by
      have hq : (costs (pairs r')).length = r'.length / 2 := by simp [costs, pairs_length]
      rw [← hq, S_hq, List.length_append]; omega
    have ih := cut_width hws (rest := rest) (r := r') (2 * qa.length) h.2.2 (by omega)
    rw [cut, ← S_hs]
    have hm2 : 2 * (m - wa.length) = 2 * qa.length := by have := S_hm; omega
    rw [hm2, width, ih, cut_length, List.length_cons, Nat.pow_succ, ← S_hm, Nat.add_mul]
    congr 1
    rw [Nat.mul_comm 2 qa.length, Nat.mul_assoc, Nat.mul_comm 2]
theorem rows_pos {ws : List Nat} (hp : ∀ x ∈ ws, 0 < x) : ∀ {rest : List (List Pk)} {r : List Pk}, Rows ws (r :: rest) → ∀ x ∈ r, 0 < x.1
  | [], r, h, x, hx => by
    have h : r = singles ws := h
    subst h
    simp only [singles, List.mem_map] at hx
    obtain ⟨y, hy, rfl⟩ := hx
    exact hp y hy
  | r' :: rest, r, h, x, hx => by
    have h2 := h.2.1.mem_iff.1 hx
    rcases List.mem_append.1 h2 with h2 | h2
    · simp only [singles, List.mem_map] at h2
      obtain ⟨y, hy, rfl⟩ := h2
      exact hp y hy
    · have ih := rows_pos hp h.2.2
      have key : ∀ l : List Pk, (∀ x ∈ l, 0 < x.1) → ∀ x ∈ pairs l, 0 < x.1 := by
        intro l
        induction l using pairs.induct with
        | case1 a b l ih =>
          intro hl x hx
          simp only [pairs, List.mem_cons] at hx
          rcases hx with rfl | hx
          · have := hl a (by simp); simp only; omega
          · exact ih (fun y hy => hl y (by simp [hy])) x hx
        | case2 l hne => intro _ x hx; rw [pairs] at hx; simp at hx; exact hne
      exact key r' ih x h2
/-- Of a row no fewer single ones are taken than of the row below. -/
theorem cut_falls {ws : List Nat} (hws : SortedN ws) (hp : ∀ x ∈ ws, 0 < x) : ∀ {rest : List (List Pk)} {r : List Pk} (m : Nat), Rows ws (r :: rest) → m ≤ r.length → (cut (r :: rest) m).Pairwise (· ≥ ·) ∧ ∀ c ∈ cut (r :: rest) m, c ≤ ws.length
  | [], r, m, h, hm => by
    have h : r = singles ws := h
    subst h
    simp only [cut, cut_single]
    refine ⟨List.pairwise_singleton _ _, ?_⟩
    intro c hc
    simp only [List.mem_singleton] at hc
    subst hc
    simp [singles]
    omega
  | r' :: rest, r, m, h, hm => by
    obtain ⟨⟨wa, wb, qa, qb, S_hw, S_hq, S_hs, S_hm, S_hc, S_h1, S_h2⟩⟩ := rows_split hws h hm
    have hq : (costs (pairs r')).length = r'.length / 2 := by simp [costs, pairs_length]
    have hqa : qa.length ≤ r'.length / 2 := by rw [← hq, S_hq, List.length_append]; omega
    have ih := cut_falls hws hp (rest := rest) (r := r') (2 * qa.length) h.2.2 (by omega)
    have hm2 : 2 * (m - wa.length) = 2 * qa.length := by have := S_hm; omega
    have hwl : wa.length ≤ ws.length := by rw [S_hw, List.length_append]; omega
    -- the row below: its single ones
    have step : ((r'.take (2 * qa.length)).filter (!·.2)).length ≤ wa.length := by
      rcases Nat.eq_zero_or_pos qa.length with h0 | h0
      · rw [h0]; simp
      · rcases Nat.lt_or_ge wa.length ((r'.take (2 * qa.length)).filter (!·.2)).length with hlt | hge
        · exfalso
          -- all single ones of the row below are ws's
          have hs' : SortedN (costs r') := rows_sorted hws h.2.2
          have e1 : costs (r'.filter (!·.2)) = ws := by
            cases rest with
            | nil =>
              have h : r' = singles ws := h.2.2
              have := cut_single ws r'.length
              rw [h] at this ⊢
              rw [List.take_length] at this
              rw [this, singles_costs]
            | cons r2 rest2 =>
              have hsub : SortedN (costs (r'.filter (!·.2))) := by
                have h := hs'
                simp only [SortedN, costs, List.pairwise_map] at h ⊢
                exact h.filter _
              refine sorted_eq hsub hws ?_
              have hp2 := (h.2.2.2.1.filter (!·.2)).map (·.1)
              rw [List.filter_append] at hp2
              have f1 : (singles ws).filter (!·.2) = singles ws := List.filter_eq_self.2 (by intro a ha; simp only [singles, List.mem_map] at ha; obtain ⟨x, _, rfl⟩ := ha; rfl)
              have f2 : (pairs r2).filter (!·.2) = [] := List.filter_eq_nil_iff.2 (by intro a ha; simp [pairs_true r2 a ha])
              rw [f1, f2, List.append_nil] at hp2
              have e := singles_costs ws
              rw [costs] at e
              rwa [e] at hp2
          have e2 : costs (r'.filter (!·.2)) = costs ((r'.take (2 * qa.length)).filter (!·.2)) ++ costs ((r'.drop (2 * qa.length)).filter (!·.2)) := by
            rw [← costs_append, ← List.filter_append, List.take_append_drop]
          -- the first one that isn't taken above is among them
          have hlen : (costs ((r'.take (2 * qa.length)).filter (!·.2))).length = ((r'.take (2 * qa.length)).filter (!·.2)).length := by simp [costs]
          have hk : wa.length < (costs ((r'.take (2 * qa.length)).filter (!·.2))).length := by rw [hlen]; exact hlt
          have hx1 : ws[wa.length]? = some ((costs ((r'.take (2 * qa.length)).filter (!·.2)))[wa.length]) := by
            rw [← e1, e2, List.getElem?_append_left hk, List.getElem?_eq_getElem hk]
          have hmem : (costs ((r'.take (2 * qa.length)).filter (!·.2)))[wa.length] ∈ costs ((r'.take (2 * qa.length)).filter (!·.2)) := List.getElem_mem hk
          generalize (costs ((r'.take (2 * qa.length)).filter (!·.2)))[wa.length] = x at hx1 hmem
          have hxb : x ∈ wb := by
            have h5 := hx1
            rw [S_hw, List.getElem?_append_right (Nat.le_refl _)] at h5
            exact List.mem_of_getElem? h5
          simp only [costs, List.mem_map] at hmem
          obtain ⟨y, hy, hyx⟩ := hmem
          have hy2 := (List.mem_filter.1 hy).1
          -- the last pair that is taken
          obtain ⟨t, ht⟩ : ∃ t, qa.length = t + 1 := ⟨qa.length - 1, by omega⟩
          have hb : 2 * t + 1 < r'.length := by omega
          have hpg := pairs_get r' t hb
          have hpq : (costs (pairs r'))[t]? = some (r'[2 * t].1 + r'[2 * t + 1].1) := by simp [costs, hpg]
          rw [S_hq, List.getElem?_append_left (by omega)] at hpq
          have hle := S_h2 _ (List.mem_of_getElem? hpq) x hxb
          have hpos := rows_pos hp h.2.2 r'[2 * t] (List.getElem_mem _)
          -- y is at most the last one of the row below
          have hyl : y.1 ≤ r'[2 * t + 1].1 := by
            obtain ⟨i, hi, rfl⟩ := List.getElem_of_mem hy2
            rw [List.length_take] at hi
            rw [List.getElem_take]
            rcases Nat.lt_or_ge i (2 * t + 1) with h6 | h6
            · have h7 := hs'
              simp only [SortedN, costs, List.pairwise_map] at h7
              exact List.pairwise_iff_getElem.1 h7 i (2 * t + 1) (by omega) hb h6
            · obtain rfl : i = 2 * t + 1 := by omega
              exact Nat.le_refl _
          omega
        · exact hge
    rw [cut, ← S_hs, hm2]
    have hhead : ∀ c ∈ cut (r' :: rest) (2 * qa.length), c ≤ wa.length := by
      intro c hc
      rw [cut] at hc ih
      rcases List.mem_cons.1 hc with rfl | hc
      · exact step
      · have := (List.pairwise_cons.1 ih.1).1 c hc
        omega
    refine ⟨List.pairwise_cons.2 ⟨fun c hc => hhead c hc, ih.1⟩, ?_⟩
    intro c hc
    rcases List.mem_cons.1 hc with rfl | hc
    · exact hwl
    · exact ih.2 c hc

/-- So wide a choice has no more than the row. -/
theorem width_fits {ws : List Nat} : ∀ {rest : List (List Pk)} {r : List Pk} (cs : List Nat) (m : Nat), Rows ws (r :: rest) → cs.length = rest.length + 1 → (∀ c ∈ cs, c ≤ ws.length) → m * 2 ^ rest.length ≤ width cs → m ≤ r.length
  | [], r, cs, m, h, hl, hc, hw => by
    have h : r = singles ws := h
    subst h
    obtain ⟨c, rfl⟩ : ∃ c, cs = [c] := List.length_eq_one_iff.1 (by simpa using hl)
    have := hc c (by simp)
    simp [width, singles] at hw ⊢
    omega
  | r' :: rest, r, cs, m, h, hl, hc, hw => by
    obtain ⟨c, cs, rfl⟩ : ∃ c cs', cs = c :: cs' := by cases cs with | nil => simp at hl | cons c cs => exact ⟨c, cs, rfl⟩
    have hcl : cs.length = rest.length + 1 := by simpa using hl
    have e := rows_length h
    have hc1 := hc c (by simp)
    rcases Nat.le_total m c with h1 | h1
    · omega
    · have := width_fits (rest := rest) (r := r') cs (2 * (m - c)) h.2.2 hcl (fun x hx => hc x (by simp [hx])) (by
        rw [width, hcl, List.length_cons, Nat.pow_succ] at hw
        have e2 : m * (2 ^ rest.length * 2) = c * (2 ^ rest.length * 2) + (m - c) * (2 ^ rest.length * 2) := by rw [← Nat.add_mul]; congr 1; omega
        have e3 : 2 * (m - c) * 2 ^ rest.length = (m - c) * (2 ^ rest.length * 2) := by rw [Nat.mul_comm 2 (m - c), Nat.mul_assoc, Nat.mul_comm 2]
        rw [e3]
        omega)
      omega
/-- No choice that is so wide costs less than the first packs of the top row. -/
theorem cut_least {ws : List Nat} (hws : SortedN ws) : ∀ {rest : List (List Pk)} {r : List Pk} (cs : List Nat) (m : Nat), Rows ws (r :: rest) → cs.length = rest.length + 1 → (∀ c ∈ cs, c ≤ ws.length) → m * 2 ^ rest.length ≤ width cs → pcost (r.take m) ≤ sums ws cs
  | [], r, cs, m, h, hl, hc, hw => by
    have h : r = singles ws := h
    subst h
    obtain ⟨c, rfl⟩ : ∃ c, cs = [c] := List.length_eq_one_iff.1 (by simpa using hl)
    simp [width] at hw
    rw [singles_take, pcost, singles_costs]
    simp only [sums, List.map_cons, List.map_nil, List.sum_cons, List.sum_nil, Nat.add_zero]
    have : ws.take c = ws.take m ++ (ws.take c).drop m := by
      conv => lhs; rw [← List.take_append_drop m (ws.take c), List.take_take, Nat.min_eq_left hw]
    rw [this, List.sum_append]
    omega
  | r' :: rest, r, cs, m, h, hl, hc, hw => by
    obtain ⟨c, cs, rfl⟩ : ∃ c cs', cs = c :: cs' := by cases cs with | nil => simp at hl | cons c cs => exact ⟨c, cs, rfl⟩
    have hcl : cs.length = rest.length + 1 := by simpa using hl
    have hmr := width_fits (c :: cs) m h hl hc hw
    obtain ⟨S⟩ := rows_split hws h hmr
    have hq : (costs (pairs r')).length = r'.length / 2 := by simp [costs, pairs_length]
    have hc1 := hc c (by simp)
    have es : sums ws (c :: cs) = (ws.take c).sum + sums ws cs := by simp [sums]
    rw [es]
    rcases Nat.le_total m c with h1 | h1
    · have := split_least S m 0 (by omega) (by omega) (by omega)
      have e : ws.take c = ws.take m ++ (ws.take c).drop m := by
        conv => lhs; rw [← List.take_append_drop m (ws.take c), List.take_take, Nat.min_eq_left h1]
      rw [e, List.sum_append]
      simp at this
      omega
    · have hw2 : 2 * (m - c) * 2 ^ rest.length ≤ width cs := by
        rw [width, hcl, List.length_cons] at hw
        have e4 : 2 ^ (rest.length + 1) = 2 ^ rest.length * 2 := Nat.pow_succ ..
        have e2 : m * (2 ^ rest.length * 2) = c * (2 ^ rest.length * 2) + (m - c) * (2 ^ rest.length * 2) := by rw [← Nat.add_mul]; congr 1; omega
        have e3 : 2 * (m - c) * 2 ^ rest.length = (m - c) * (2 ^ rest.length * 2) := by rw [Nat.mul_comm 2 (m - c), Nat.mul_assoc, Nat.mul_comm 2]
        rw [e3]
        rw [e4] at hw
        omega
      have hcs : ∀ x ∈ cs, x ≤ ws.length := fun x hx => hc x (by simp [hx])
      have hfit := width_fits cs (2 * (m - c)) h.2.2 hcl hcs hw2
      have ih := cut_least hws cs (2 * (m - c)) h.2.2 hcl hcs hw2
      have hsp := split_least S c (m - c) (by omega) hc1 (by omega)
      have e5 : ((costs (pairs r')).take (m - c)).sum = pcost (r'.take (2 * (m - c))) := by
        rw [← pairs_take r' (m - c) (by omega)]
        simp [pcost, costs, List.map_take]
      omega
end Go.Proofs.Ytijjcecboepiiaa
