/-
  The document's Less. Conditions: rows of at most a hundred thousand bytes.
-/
import Derived.Test.YtibkdmliolebgaaDoorUC
namespace Go.Proofs.YtibkdmliolebgaaDoor
open Go Go.RowKit
set_option maxRecDepth 100000

/-- Units ahead of others. -/
def ltU : List Nat → List Nat → Bool
  | [], [] => false
  | [], _ :: _ => true
  | _ :: _, [] => false
  | x :: a, y :: b => if x = y then ltU a b else decide (x < y)
def lessM (a b : List UInt8) : Bool := match unitsM a, unitsM b with
  | some x, some y => ltU x y
  | _, _ => Op.bytesLess (tx a).toList (tx b).toList
theorem ltU_drop {x y : List Nat} {k : Nat} (hx : k < x.length) (hy : k < y.length) : ltU (x.drop k) (y.drop k) = if x[k] = y[k] then ltU (x.drop (k + 1)) (y.drop (k + 1)) else decide (x[k] < y[k]) := by
  rw [List.drop_eq_getElem_cons hx, List.drop_eq_getElem_cons hy, ltU]
theorem units_len {l : List UInt8} {u : List Nat} : ∀ (n : Nat) (p : List Nat) (s : List UInt8), s.length ≤ n → dU p s = some u → u.length ≤ p.length + s.length
  | n, p, [], _, h => by rw [dU] at h; cases h; simp
  | 0, p, c :: r, hn, _ => by simp at hn
  | n + 1, p, c :: r, hn, h => by
    rw [dU] at h
    split at h
    · cases h
    split at h
    · cases h
    split at h
    · cases h
    have := units_len (l := l) n _ _ (by rw [List.length_drop]; simp at hn; omega) h
    rw [List.length_append, List.length_drop] at this
    simp at this ⊢; omega
theorem units_lt {u : List Nat} : ∀ (n : Nat) (p : List Nat) (s : List UInt8), s.length ≤ n → (∀ x ∈ p, x < 65536) → dU p s = some u → ∀ x ∈ u, x < 65536
  | n, p, [], _, hp, h => by rw [dU] at h; cases h; exact hp
  | 0, p, c :: r, hn, _, _ => by simp at hn
  | n + 1, p, c :: r, hn, hp, h => by
    rw [dU] at h
    split at h
    · cases h
    split at h
    · cases h
    rename_i h65
    split at h
    · cases h
    refine units_lt n _ _ (by rw [List.length_drop]; simp at hn; omega) (fun x hx => ?_) h
    rcases List.mem_append.1 hx with hx | hx
    · exact hp x hx
    · rw [List.mem_singleton.1 hx]; omega

end Go.Proofs.YtibkdmliolebgaaDoor

