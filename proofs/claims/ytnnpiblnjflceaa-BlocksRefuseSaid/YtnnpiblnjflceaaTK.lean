/-
  Mathematics of the statement's own list of tokens: what is no token, or reaches too far back, becomes a byte. Conditions: each theorem names its own. Nothing of the program stands here.
-/
import Derived.Test.YtnnpiblnjflceaaTA
namespace Go.Proofs.Ytnnpiblnjflceaa

/-- What may stand behind so many bytes. -/
def fixT (t : Tok) (n : Nat) : Tok := if rightT t = false ∨ (n : Int) < t.dist then ⟨t.lit, 0, 0⟩ else t
/-- The list, and what it stands for. -/
def tokP : List Tok → List Tok × List Nat → List Tok × List Nat
  | [], p => p
  | t :: l, p => tokP l (p.1 ++ [fixT t p.2.length], addT (fixT t p.2.length) p.2)
theorem tokP_snoc (l : List Tok) (t : Tok) (p : List Tok × List Nat) : tokP (l ++ [t]) p = ((tokP l p).1 ++ [fixT t (tokP l p).2.length], addT (fixT t (tokP l p).2.length) (tokP l p).2) := by
  induction l generalizing p with
  | nil => rfl
  | cons u l ih => exact ih _

theorem fixT_right (t : Tok) (n : Nat) : rightT (fixT t n) = true := by
  unfold fixT
  split
  · rfl
  · rename_i h
    cases e : rightT t
    · exact absurd (.inl e) h
    · rfl
theorem fixT_back (t : Tok) (n : Nat) : (fixT t n).dist ≤ n := by
  unfold fixT
  split
  · simp
  · rename_i h
    have : ¬ ((n : Int) < t.dist) := fun e => h (.inr e)
    omega
theorem fixT_lit (t : Tok) (n : Nat) (h : t.lit < 256) : (fixT t n).lit < 256 := by
  unfold fixT
  split
  · exact h
  · exact h
theorem fixT_ok (t : Tok) (n : Nat) (most : Int) (hm : (n : Int) + 258 ≤ most) : wrongT (fixT t n) n most = 0 := by
  unfold wrongT
  have h1 := fixT_right t n
  have h2 := fixT_back t n
  rw [if_neg (by rw [h1]; simp), if_neg (by omega), if_neg]
  have h3 : (fixT t n).len ≤ 258 := by
    by_cases h0 : (fixT t n).len = 0
    · omega
    · exact (rightT_copy h1 h0).2.2.1
  omega

/-- The list's tokens are right, and stand for its bytes. -/
def TokOk (l : List Tok) : Prop := (tokP l ([], [])).1.length = l.length ∧ (tokP l ([], [])).1.all rightT = true ∧ expT 100000 (tokP l ([], [])).1 [] = (0, (tokP l ([], [])).2) ∧ (tokP l ([], [])).2.length ≤ 258 * l.length
theorem tokOk_snoc {l : List Tok} (t : Tok) (hl : l.length ≤ 300) (h : TokOk l) : TokOk (l ++ [t]) := by
  obtain ⟨h1, h2, h3, h4⟩ := h
  unfold TokOk
  rw [tokP_snoc]
  have hw : wrongT (fixT t (tokP l ([], [])).2.length) (tokP l ([], [])).2.length 100000 = 0 := fixT_ok _ _ _ (by omega)
  refine ⟨by simp [h1], by rw [List.all_append, h2]; simp [fixT_right], expT_append h3 hw, ?_⟩
  have e := (addT_length hw).1
  have h5 : (fixT t (tokP l ([], [])).2.length).len ≤ 258 := by
    by_cases h0 : (fixT t (tokP l ([], [])).2.length).len = 0
    · omega
    · exact (rightT_copy (fixT_right _ _) h0).2.2.1
  simp only [List.length_append, List.length_singleton]
  omega
theorem tokOk_take (l : List Tok) (hl : l.length ≤ 300) : ∀ k, k ≤ l.length → TokOk (l.take k)
  | 0, _ => ⟨rfl, rfl, rfl, Nat.le_refl _⟩
  | k + 1, h => by
    have e : l.take (k + 1) = l.take k ++ [l[k]'(by omega)] := (List.take_append_getElem (by omega)).symm
    rw [e]
    exact tokOk_snoc _ (by rw [List.length_take]; omega) (tokOk_take l hl k (by omega))
end Go.Proofs.Ytnnpiblnjflceaa
