/-
  The document's words as texts: More. Conditions: at most fifteen bits.
-/
import Derived.Test.YtijjcecboepiiaaW5
namespace Go.Proofs.Ytijjcecboepiiaa
open Go.RowKit

/-- Bits as a text. -/
def tx (l : List Bool) : ByteArray := ⟨(l.map fun b => if b then (49 : UInt8) else 48).toArray⟩
theorem tx_size (l : List Bool) : (tx l).size = l.length := by simp [tx, ByteArray.size]
theorem tx_one (l : List Bool) : tx l ++ (⟨#[49]⟩ : ByteArray) = tx (l ++ [true]) := by
  apply ByteArray.ext; simp [tx]
theorem tx_zero (l : List Bool) : tx l ++ (⟨#[48]⟩ : ByteArray) = tx (l ++ [false]) := by
  apply ByteArray.ext; simp [tx]

def MoreAt (n : Nat) : Prop := ∀ (v : Nat) (w : World), Calls Try.prog 41 #[.string (tx (hi n v))] w fun e w' => e = .returned (.string (tx (hi n (v + 1)))) ∧ w = w'

theorem more_zero : MoreAt 0 := by
  intro v w
  rw [hi_zero, hi_zero]
  have et : tx [] = ⟨#[]⟩ := rfl
  rw [et]
  clear et
  go_enter Try.func41, Try.ntmps41
  go_wp2
  go_ret
  exact ⟨rfl, rfl⟩

theorem tx_cut (l : List Bool) (b : Bool) : (tx (l ++ [b])).extract 0 ((tx (l ++ [b])).size - 1) = tx l := by
  rw [tx_size]
  apply ByteArray.ext
  rw [ByteArray.data_extract]
  simp [tx]
theorem tx_at (l : List Bool) (i : Nat) (h : i < (tx l).size) : (tx l)[i] = if l[i]'(by rwa [tx_size] at h) then 49 else 48 := by
  show (tx l).data[i] = _
  simp [tx]
theorem tx_last (l : List Bool) (b : Bool) (h : (tx (l ++ [b])).size - 1 < (tx (l ++ [b])).size) : (tx (l ++ [b]))[(tx (l ++ [b])).size - 1].toNat = if b then 49 else 48 := by
  rw [tx_at]
  have : (tx (l ++ [b])).size - 1 = l.length := by rw [tx_size]; simp
  simp only [this]
  rw [List.getElem_concat_length rfl]
  cases b <;> rfl
theorem tx_toList (l : List Bool) : (tx l).toList = l.map fun b => if b then (49 : UInt8) else 48 := by
  rw [ByteArray.toList_eq]
  simp [tx]
theorem tx_some (l : List Bool) (h : l ≠ []) : (tx l).toList.isEmpty = false ∧ ((tx l).toList == []) = false := by
  rw [tx_toList]
  cases l with
  | nil => exact absurd rfl h
  | cons a l => exact ⟨rfl, rfl⟩

set_option maxHeartbeats 400000 in
theorem more_walk (n : Nat) (hn : n < 15) (l : List Bool) (b : Bool) (hl : l.length = n) (m r : List Bool) (hm1 : m.length ≤ 15) (hr : r = if b then m ++ [false] else l ++ [true]) (w : World) (hm : Calls Try.prog 41 #[.string (tx l)] w fun e w' => e = .returned (.string (tx m)) ∧ w = w') :
    Calls Try.prog 41 #[.string (tx (l ++ [b]))] w fun e w' => e = .returned (.string (tx r)) ∧ w = w' := by
  have HM := Lib.hid hm; clear hm
  have hmz : (tx m).size ≤ 15 := by rw [tx_size]; exact hm1
  have HR := Lib.hid hr; clear hr
  have hs : (tx (l ++ [b])).size = n + 1 := by rw [tx_size]; simp [hl]
  have h1 : 0 < (tx (l ++ [b])).size := by omega
  have h2 : (tx (l ++ [b])).size < 16 := by omega
  have h3 := (tx_some (l ++ [b]) (by simp)).1
  have h4 := (tx_some (l ++ [b]) (by simp)).2
  have HC := Lib.hid (tx_cut l b)
  have HL := Lib.hid (tx_last l b)
  clear hl hs
  generalize tx (l ++ [b]) = s at *
  go_enter Try.func41, Try.ntmps41
  go_wp2_with fail
  · go_ret
    next h5 h6 =>
    have hL := HL.out (by omega)
    cases b with
    | true => rw [hL] at h6; simp at h6
    | false => exact ⟨by rw [HR.out, HC.out, tx_one]; rfl, rfl⟩
  · rw [HC.out]
    refine HM.out.mono ?_
    rintro e w1 ⟨rfl, rfl⟩
    go_wp2
    go_ret
    next h5 h6 =>
    have hL := HL.out (by omega)
    cases b with
    | true => exact ⟨by rw [HR.out, tx_zero]; rfl, rfl⟩
    | false => rw [hL] at h6; simp at h6

theorem more_any : ∀ n, n ≤ 15 → MoreAt n := by
  intro n
  induction n with
  | zero => exact fun _ => more_zero
  | succ n ih =>
    intro hn v w
    have h := more_walk n (by omega) (hi n (v / 2)) (v % 2 == 1) (by simp) _ _ (by simp; omega) rfl w (ih (by omega) (v / 2) w)
    rw [← hi_snoc] at h
    have e : (if v % 2 == 1 then hi n (v / 2 + 1) ++ [false] else hi n (v / 2) ++ [true]) = hi (n + 1) (v + 1) := by
      rw [hi_snoc n (v + 1)]
      by_cases hv : v % 2 = 0
      · rw [show (v + 1) / 2 = v / 2 by omega, show (v + 1) % 2 = 1 by omega, hv]; rfl
      · rw [show (v + 1) / 2 = v / 2 + 1 by omega, show (v + 1) % 2 = 0 by omega, show v % 2 = 1 by omega]; rfl
    rw [e] at h
    exact h
end Go.Proofs.Ytijjcecboepiiaa
