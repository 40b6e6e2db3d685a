/-
  Rows one above the other; how many single packs are taken of each; lengths by signs. Conditions: none.
-/
import Derived.Test.YtijjcecboepiiaaK4
namespace Go.Proofs.Ytijjcecboepiiaa
open Go.Proofs Go.Shelf Go.RowKit Go.Sort Go.Lib

/-- The rows up to the k-th, the top one first. -/
def tops {N : Nat} (S : Sorter N) (ws : List Nat) : Nat → List (List Pk)
  | 0 => [rowAt S ws 0]
  | k + 1 => rowAt S ws (k + 1) :: tops S ws k
theorem tops_len {N : Nat} (S : Sorter N) (ws : List Nat) : ∀ k, (tops S ws k).length = k + 1
  | 0 => rfl
  | k + 1 => by simp [tops, tops_len S ws k]
theorem tops_head {N : Nat} (S : Sorter N) (ws : List Nat) (k : Nat) : ∃ rest, tops S ws k = rowAt S ws k :: rest ∧ rest.length = k := by
  cases k with
  | zero => exact ⟨[], rfl, rfl⟩
  | succ k => exact ⟨tops S ws k, rfl, tops_len S ws k⟩
theorem tops_rows {N : Nat} (S : Sorter N) (ws : List Nat) (hN : 2 * ws.length ≤ N) (hw : ∀ x ∈ ws, x ≤ 16777216) : ∀ k, Rows ws (tops S ws k)
  | 0 => rfl
  | k + 1 => by
    have ih := tops_rows S ws hN hw k
    obtain ⟨_, p2, _⟩ := rowAt_props S ws hN hw k
    have hl : (singles ws ++ pairs (rowAt S ws k)).length ≤ N := by simp [singles, pairs_length]; omega
    have hp := S.permP (singles ws ++ pairs (rowAt S ws k)) hl
    obtain ⟨rest, hr, _⟩ := tops_head S ws k
    rw [tops, hr]
    rw [hr] at ih
    exact ⟨hp.2, hp.1, ih⟩
/-- The single ones among the first m of a row. -/
def sing (r : List Pk) (m : Nat) : Nat := ((r.take m).filter (!·.2)).length
theorem cut_tops {N : Nat} (S : Sorter N) (ws : List Nat) (k m : Nat) : cut (tops S ws (k + 1)) m = sing (rowAt S ws (k + 1)) m :: cut (tops S ws k) (2 * (m - sing (rowAt S ws (k + 1)) m)) := rfl
theorem cut_tops0 {N : Nat} (S : Sorter N) (ws : List Nat) (m : Nat) : cut (tops S ws 0) m = [sing (rowAt S ws 0) m] := rfl
theorem sing_le (r : List Pk) (m : Nat) : sing r m ≤ m := by
  unfold sing
  have h1 := List.length_filter_le (fun x : Pk => !x.2) (r.take m)
  rw [List.length_take] at h1
  omega
theorem sing_succ (r : List Pk) (k : Nat) (h : k < r.length) : sing r (k + 1) = sing r k + if r[k].2 then 0 else 1 := by
  unfold sing
  rw [take_snoc r k h, List.filter_append, List.length_append]
  cases hb : r[k].2 <;> simp [hb]
/-- What is taken of the row below is there. -/
theorem take_fits {N : Nat} (S : Sorter N) (ws : List Nat) (hws : SortedN ws) (hN : 2 * ws.length ≤ N) (hw : ∀ x ∈ ws, x ≤ 16777216) (k m : Nat) (hm : m ≤ (rowAt S ws (k + 1)).length) : 2 * (m - sing (rowAt S ws (k + 1)) m) ≤ (rowAt S ws k).length := by
  have h := tops_rows S ws hN hw (k + 1)
  obtain ⟨rest, hr, _⟩ := tops_head S ws k
  rw [tops, hr] at h
  obtain ⟨Sp⟩ := rows_split hws h hm
  obtain ⟨wa, wb, qa, qb, S_hw, S_hq, S_hs, S_hm, _, _, _⟩ := Sp
  have hq : (costs (pairs (rowAt S ws k))).length = (rowAt S ws k).length / 2 := by simp [costs, pairs_length]
  have hqa : qa.length ≤ (rowAt S ws k).length / 2 := by rw [← hq, S_hq, List.length_append]; omega
  have e : sing (rowAt S ws (k + 1)) m = wa.length := S_hs.symm
  omega
theorem sing_ws {N : Nat} (S : Sorter N) (ws : List Nat) (hws : SortedN ws) (hp : ∀ x ∈ ws, 0 < x) (hN : 2 * ws.length ≤ N) (hw : ∀ x ∈ ws, x ≤ 16777216) (k m : Nat) (hm : m ≤ (rowAt S ws k).length) : sing (rowAt S ws k) m ≤ ws.length := by
  obtain ⟨rest, hr, _⟩ := tops_head S ws k
  have h := tops_rows S ws hN hw k
  rw [hr] at h
  have := (cut_falls hws hp m h hm).2
  exact this _ (by simp [cut, sing])

/-- The length of a sign's word. -/
def lenOf (ss : List Nat) (cs : List Nat) (s : Nat) : Nat := if s ∈ ss then lenAt cs (ss.idxOf s) else 0
/-- .. while the next row is looked at, of which q single ones have been taken. -/
def lenUp (ss : List Nat) (cs : List Nat) (q s : Nat) : Nat := lenOf ss cs s + if s ∈ ss ∧ ss.idxOf s < q then 1 else 0
theorem lenAt_snoc (cs : List Nat) (c i : Nat) : lenAt (cs ++ [c]) i = lenAt cs i + if i < c then 1 else 0 := by
  simp [lenAt, List.countP_append, List.countP_cons]
theorem lenUp_done (ss cs : List Nat) (q s : Nat) : lenUp ss cs q s = lenOf ss (cs ++ [q]) s := by
  unfold lenUp lenOf
  by_cases h : s ∈ ss
  · simp [h, lenAt_snoc]
  · simp [h]
theorem lenUp_zero (ss cs : List Nat) (s : Nat) : lenUp ss cs 0 s = lenOf ss cs s := by simp [lenUp]
theorem idx_get (ss : List Nat) (hd : ss.Nodup) (q : Nat) (h : q < ss.length) : ss.idxOf ss[q] = q := by
  exact hd.idxOf_getElem q h
theorem lenUp_succ (ss cs : List Nat) (hd : ss.Nodup) (q : Nat) (h : q < ss.length) (s : Nat) : lenUp ss cs (q + 1) s = if s = ss[q] then lenUp ss cs q ss[q] + 1 else lenUp ss cs q s := by
  by_cases hs : s = ss[q]
  · subst hs
    rw [if_pos rfl]
    unfold lenUp
    rw [idx_get ss hd q h]
    simp [List.getElem_mem h]
  · rw [if_neg hs]
    unfold lenUp
    by_cases hm : s ∈ ss
    · have : ss.idxOf s ≠ q := by
        intro e
        apply hs
        have h1 := List.getElem_idxOf (List.idxOf_lt_length_of_mem hm)
        rw [← h1]
        simp only [e]
      have e2 : (ss.idxOf s < q + 1) ↔ (ss.idxOf s < q) := by omega
      simp only [e2]
    · simp [hm]
theorem lenAt_len (cs : List Nat) (i : Nat) : lenAt cs i ≤ cs.length := lenAt_le cs i
theorem lenUp_le (ss cs : List Nat) (q s : Nat) : lenUp ss cs q s ≤ cs.length + 1 := by
  unfold lenUp lenOf
  have := lenAt_le cs (ss.idxOf s)
  split <;> split <;> omega
end Go.Proofs.Ytijjcecboepiiaa
