/-
  Packages merged: rows of packs, how many single ones are taken of each, what they cost; no other lengths cost less. Conditions: none. Nothing of the program stands here.
-/
import Derived.WalkKit
namespace Go.Proofs.Ytnnpiblnjflceaa

/-- A pack: its cost; is it made of two? -/
abbrev Pk := Nat × Bool
def costs (r : List Pk) : List Nat := r.map (·.1)
def pcost (r : List Pk) : Nat := (costs r).sum
/-- Two by two. -/
def pairs : List Pk → List Pk
  | a :: b :: r => (a.1 + b.1, true) :: pairs r
  | _ => []
def singles (ws : List Nat) : List Pk := ws.map fun x => (x, false)
def SortedN (l : List Nat) : Prop := l.Pairwise (· ≤ ·)

theorem pairs_length : ∀ r : List Pk, (pairs r).length = r.length / 2
  | [] => rfl
  | [_] => by simp [pairs]
  | a :: b :: r => by simp only [pairs, List.length_cons, pairs_length r]; omega
theorem pairs_true : ∀ (r : List Pk) x, x ∈ pairs r → x.2 = true
  | [], x, h => by simp [pairs] at h
  | [_], x, h => by simp [pairs] at h
  | a :: b :: r, x, h => by
    simp only [pairs, List.mem_cons] at h
    rcases h with rfl | h
    · rfl
    · exact pairs_true r x h
/-- The first t pairs are of the first 2t packs. -/
theorem pairs_take : ∀ (r : List Pk) (t : Nat), 2 * t ≤ r.length → pcost ((pairs r).take t) = pcost (r.take (2 * t))
  | _, 0, _ => by simp
  | [], t + 1, h => by simp at h
  | [_], t + 1, h => by simp at h; omega
  | a :: b :: r, t + 1, h => by
    have := pairs_take r t (by simp at h; omega)
    rw [show 2 * (t + 1) = 2 * t + 1 + 1 by omega]
    simp only [pairs, List.take_succ_cons, pcost, costs, List.map_cons, List.sum_cons] at this ⊢
    omega
theorem pairs_get : ∀ (r : List Pk) (t : Nat) (h : 2 * t + 1 < r.length), (pairs r)[t]? = some (r[2 * t].1 + r[2 * t + 1].1, true)
  | [], t, h => by simp at h
  | [_], t, h => by simp at h
  | a :: b :: r, 0, h => by simp [pairs]
  | a :: b :: r, t + 1, h => by
    have := pairs_get r t (by simp at h; omega)
    simp only [pairs, List.getElem?_cons_succ, this]
    rfl
theorem pairs_sorted : ∀ r : List Pk, SortedN (costs r) → SortedN (costs (pairs r))
  | [], _ => List.Pairwise.nil
  | [_], _ => List.Pairwise.nil
  | a :: b :: r, h => by
    simp only [SortedN, costs, List.map_cons, List.pairwise_cons] at h
    obtain ⟨h1, h2, h3⟩ := h
    have ih := pairs_sorted r h3
    simp only [SortedN, pairs, costs, List.map_cons, List.pairwise_cons] at ih ⊢
    refine ⟨?_, ih⟩
    have key : ∀ (r : List Pk) x y, (∀ z ∈ r.map (·.1), x ≤ z ∧ y ≤ z) → ∀ c ∈ (pairs r).map (·.1), x + y ≤ c := by
      intro r
      induction r using pairs.induct with
      | case1 a b r ih =>
        intro x y hz c hc
        simp only [pairs, List.map_cons, List.mem_cons] at hc
        rcases hc with rfl | hc
        · have h1 := hz a.1 (by simp)
          have h2 := hz b.1 (by simp)
          omega
        · exact ih x y (fun z hz' => hz z (by simp only [List.map_cons, List.mem_cons]; exact .inr (.inr hz'))) c hc
      | case2 r hne =>
        intro x y _ c hc
        rw [pairs] at hc
        · simp at hc
        · exact hne
    exact key r a.1 b.1 fun z hz => ⟨h1 z (List.mem_cons_of_mem _ hz), h2 z hz⟩

/-- The rows, the top one first: each one is in order, and has the single packs and the pairs of the row below. -/
def Rows (ws : List Nat) : List (List Pk) → Prop
  | [] => False
  | [r] => r = singles ws
  | r :: r' :: rest => SortedN (costs r) ∧ r.Perm (singles ws ++ pairs r') ∧ Rows ws (r' :: rest)
theorem rows_sorted {ws : List Nat} (hw : SortedN ws) {r : List Pk} {rest : List (List Pk)} (h : Rows ws (r :: rest)) : SortedN (costs r) := by
  cases rest with
  | nil =>
    have h : r = singles ws := h
    subst h
    have e : costs (singles ws) = ws := by simp [costs, singles, Function.comp_def]
    rw [e]; exact hw
  | cons r' rest => exact h.1
/-- How many single ones are taken of each row. -/
def cut : List (List Pk) → Nat → List Nat
  | [], _ => []
  | r :: rest, m => ((r.take m).filter (!·.2)).length :: cut rest (2 * (m - ((r.take m).filter (!·.2)).length))
theorem cut_length : ∀ (rows : List (List Pk)) m, (cut rows m).length = rows.length
  | [], _ => rfl
  | r :: rest, m => by simp [cut, cut_length rest]

theorem sorted_eq {a b : List Nat} (ha : SortedN a) (hb : SortedN b) (h : a.Perm b) : a = b :=
  List.Perm.eq_of_pairwise (fun _ _ _ _ h1 h2 => Nat.le_antisymm h1 h2) ha hb h
theorem costs_append (a b : List Pk) : costs (a ++ b) = costs a ++ costs b := by simp [costs]
theorem pcost_append (a b : List Pk) : pcost (a ++ b) = pcost a + pcost b := by simp [pcost, costs]
theorem singles_costs (ws : List Nat) : costs (singles ws) = ws := by simp [costs, singles, Function.comp_def]
theorem pcost_filter (l : List Pk) : pcost (l.filter (!·.2)) + pcost (l.filter (·.2)) = pcost l := by
  induction l with
  | nil => rfl
  | cons a l ih =>
    obtain ⟨c, b⟩ := a
    cases b <;> simp [pcost, costs] at ih ⊢ <;> omega
theorem len_filter (l : List Pk) : (l.filter (!·.2)).length + (l.filter (·.2)).length = l.length := by
  induction l with
  | nil => rfl
  | cons a l ih =>
    obtain ⟨c, b⟩ := a
    cases b <;> simp at ih ⊢ <;> omega

/-- What the first m packs of a row are. -/
structure Split (ws : List Nat) (q : List Nat) (r : List Pk) (m : Nat) where
  wa : List Nat
  wb : List Nat
  qa : List Nat
  qb : List Nat
  hw : ws = wa ++ wb
  hq : q = qa ++ qb
  hs : wa.length = ((r.take m).filter (!·.2)).length
  hm : wa.length + qa.length = m
  hc : pcost (r.take m) = wa.sum + qa.sum
  h1 : ∀ x ∈ wa, ∀ y ∈ qb, x ≤ y
  h2 : ∀ x ∈ qa, ∀ y ∈ wb, x ≤ y

theorem split_row {ws : List Nat} {q : List Pk} {r : List Pk} {m : Nat} (hws : SortedN ws) (hqs : SortedN (costs q)) (hqt : ∀ x ∈ q, x.2 = true) (hr : SortedN (costs r)) (hp : r.Perm (singles ws ++ q)) (hm : m ≤ r.length) :
    Nonempty (Split ws (costs q) r m) := by
  have hsq : ∀ p : Pk → Bool, (r.filter p).Perm ((singles ws).filter p ++ q.filter p) := fun p => by rw [← List.filter_append]; exact hp.filter p
  have f1 : (singles ws).filter (!·.2) = singles ws := List.filter_eq_self.2 (by intro a ha; simp only [singles, List.mem_map] at ha; obtain ⟨x, _, rfl⟩ := ha; rfl)
  have f2 : q.filter (!·.2) = [] := List.filter_eq_nil_iff.2 (by intro a ha; simp [hqt a ha])
  have f3 : (singles ws).filter (·.2) = [] := List.filter_eq_nil_iff.2 (by intro a ha; simp only [singles, List.mem_map] at ha; obtain ⟨x, _, rfl⟩ := ha; simp)
  have f4 : q.filter (·.2) = q := List.filter_eq_self.2 (by intro a ha; simp [hqt a ha])
  have sub : ∀ p : Pk → Bool, SortedN (costs (r.filter p)) := fun p => by
    have h := hr
    simp only [SortedN, costs, List.pairwise_map] at h ⊢
    exact h.filter p
  have e1 : costs (r.filter (!·.2)) = ws := by
    refine sorted_eq (sub _) hws ?_
    have := (hsq (!·.2)).map (·.1)
    rw [f1, f2, List.append_nil] at this
    have e := singles_costs ws
    rw [costs] at e
    rwa [e] at this
  have e2 : costs (r.filter (·.2)) = costs q := by
    refine sorted_eq (sub _) hqs ?_
    have := (hsq (·.2)).map (·.1)
    rwa [f3, f4, List.nil_append] at this
  have hcut : ∀ p : Pk → Bool, costs (r.filter p) = costs ((r.take m).filter p) ++ costs ((r.drop m).filter p) := fun p => by
    rw [← costs_append, ← List.filter_append, List.take_append_drop]
  have hle : ∀ x ∈ r.take m, ∀ y ∈ r.drop m, x.1 ≤ y.1 := by
    have h := hr
    rw [← List.take_append_drop m r] at h
    simp only [SortedN, costs, List.pairwise_map] at h
    exact (List.pairwise_append.1 h).2.2
  have mem : ∀ (p : Pk → Bool) (l : List Pk) x, x ∈ costs (l.filter p) → ∃ y ∈ l, y.1 = x := by
    intro p l x hx
    simp only [costs, List.mem_map] at hx
    obtain ⟨y, hy, rfl⟩ := hx
    exact ⟨y, (List.mem_filter.1 hy).1, rfl⟩
  refine ⟨⟨costs ((r.take m).filter (!·.2)), costs ((r.drop m).filter (!·.2)), costs ((r.take m).filter (·.2)), costs ((r.drop m).filter (·.2)), ?_, ?_, ?_, ?_, ?_, ?_, ?_⟩⟩
  · rw [← hcut, e1]
  · rw [← hcut, e2]
  · simp [costs]
  · have := len_filter (r.take m)
    simp only [costs, List.length_map]
    rw [this, List.length_take]
    omega
  · exact (pcost_filter (r.take m)).symm
  · intro x hx y hy
    obtain ⟨x', hx', rfl⟩ := mem _ _ _ hx
    obtain ⟨y', hy', rfl⟩ := mem _ _ _ hy
    exact hle x' hx' y' hy'
  · intro x hx y hy
    obtain ⟨x', hx', rfl⟩ := mem _ _ _ hx
    obtain ⟨y', hy', rfl⟩ := mem _ _ _ hy
    exact hle x' hx' y' hy'

theorem sum_le_mul (l : List Nat) (b : Nat) (h : ∀ x ∈ l, x ≤ b) : l.sum ≤ l.length * b := by
  induction l with
  | nil => simp
  | cons a l ih =>
    have h1 := h a (by simp)
    have h2 := ih fun x hx => h x (List.mem_cons_of_mem _ hx)
    simp only [List.sum_cons, List.length_cons, Nat.add_mul, Nat.one_mul]
    omega
theorem mul_le_sum (l : List Nat) (b : Nat) (h : ∀ x ∈ l, b ≤ x) : l.length * b ≤ l.sum := by
  induction l with
  | nil => simp
  | cons a l ih =>
    have h1 := h a (by simp)
    have h2 := ih fun x hx => h x (List.mem_cons_of_mem _ hx)
    simp only [List.sum_cons, List.length_cons, Nat.add_mul, Nat.one_mul]
    omega
/-- Lists of one length, each of the one at most each of the other. -/
theorem sum_le_sum {a b : List Nat} (hl : a.length = b.length) (h : ∀ x ∈ a, ∀ y ∈ b, x ≤ y) : a.sum ≤ b.sum := by
  induction a generalizing b with
  | nil => simp
  | cons x a ih =>
    cases b with
    | nil => simp at hl
    | cons y b =>
      have h1 := h x (by simp) y (by simp)
      have h2 := ih (b := b) (by simpa using hl) fun u hu v hv => h u (List.mem_cons_of_mem _ hu) v (List.mem_cons_of_mem _ hv)
      simp only [List.sum_cons]
      omega
theorem take_prefix {wa wb : List Nat} (s : Nat) (h : wa.length ≤ s) : ((wa ++ wb).take s).sum = wa.sum + (wb.take (s - wa.length)).sum := by
  rw [List.take_append, List.take_of_length_le h, List.sum_append]
theorem take_less {wa wb : List Nat} (s : Nat) (h : s ≤ wa.length) : ((wa ++ wb).take s).sum + (wa.drop s).sum = wa.sum := by
  rw [List.take_append_of_le_length h]
  conv => rhs; rw [← List.take_append_drop s wa, List.sum_append]
/-- No other choice of m packs costs less. -/
theorem split_least {ws q : List Nat} {r : List Pk} {m : Nat} (S : Split ws q r m) (s t : Nat) (hst : s + t = m) (hs : s ≤ ws.length) (ht : t ≤ q.length) : pcost (r.take m) ≤ (ws.take s).sum + (q.take t).sum := by
  obtain ⟨wa, wb, qa, qb, hw, hq, _, hm, hc, h1, h2⟩ := S
  subst hw hq
  rw [hc]
  rw [List.length_append] at hs ht
  rcases Nat.le_total wa.length s with h | h
  · have e1 := take_prefix (wa := wa) (wb := wb) s h
    have e2 := take_less (wa := qa) (wb := qb) t (by omega)
    have : (qa.drop t).sum ≤ (wb.take (s - wa.length)).sum := by
      refine sum_le_sum (by rw [List.length_drop, List.length_take]; omega) fun x hx y hy => h2 x (List.mem_of_mem_drop hx) y (List.mem_of_mem_take hy)
    omega
  · have e1 := take_less (wa := wa) (wb := wb) s h
    have e2 := take_prefix (wa := qa) (wb := qb) t (by omega)
    have : (wa.drop s).sum ≤ (qb.take (t - qa.length)).sum := by
      refine sum_le_sum (by rw [List.length_drop, List.length_take]; omega) fun x hx y hy => h1 x (List.mem_of_mem_drop hx) y (List.mem_of_mem_take hy)
    omega
end Go.Proofs.Ytnnpiblnjflceaa
