/-
  Words of a code as a row of texts, some row of bits, a row of bits behind another one. Conditions: at most a thousand lengths.
-/
import Derived.Test.YtobchlakjgeadaaBA
namespace Go.Proofs.Ytobchlakjgeadaa
open Go.RowKit
set_option maxRecDepth 100000

/-- Words as texts. -/
def wtx (ws : List (List Bool)) : List Value := ws.map fun b => Value.string (tx b)

/-- What Words answers: no words, or a row of them. -/
def WordsAll (n : Nat) (w : World) (e : Ending) (w' : World) : Prop :=
  (e = .returned (.tuple #[.slice none 0 0, .bool false]) ∧ Below w.heap.size w w') ∨
  ∃ (A : Option Addr) (c : Nat) (ws : List (List Bool)), ws.length = n ∧ (∀ b ∈ ws, b.length ≤ 15) ∧ e = .returned (.tuple #[.slice A n c, .bool true]) ∧ Seen w' w'.heap.size 1 A n c (wtx ws) ∧ Below w.heap.size w w'

theorem words_all (A : Option Addr) (n c B : Nat) (l : List Int) (hn : l.length = n) (hl : n ≤ 1000) (w : World) (hs : Seen w B 1 A n c (iv l)) (hB : B ≤ w.heap.size) : Calls Try.prog 42 #[.slice A n c] w (WordsAll n w) := by
  by_cases hr : kindOf l = 0
  · exact (refWords_bad A n c B l hn hl hr w hs hB).mono fun e w' h => .inl h
  · refine (refWords_any A n c B l hn hl hr w hs hB).mono ?_
    rintro e w' ⟨v, rfl, h2, h3⟩
    obtain ⟨A', c', rfl, _, h4⟩ := own_seen h2
    refine .inr ⟨A', c', (List.range n).map (wb l), by simp, ?_, rfl, ?_, h3⟩
    · intro b hb
      obtain ⟨j, hj, rfl⟩ := List.mem_map.1 hb
      rw [wb_length]
      exact len_le (right_ok hr) j
    · have e : wtx ((List.range n).map (wb l)) = twords l n := by simp [wtx, twords, mr]
      rw [e]; exact h4

/-- Some row of at most m bits of one's own. -/
def GivesBools (m : Nat) (w : World) (e : Ending) (w' : World) : Prop :=
  ∃ (l : List Bool) (v : Value), l.length ≤ m ∧ e = .returned v ∧ w'.ownsRow w.heap.size 4 1 v l.length (l.map .bool) ∧ Below w.heap.size w w'
theorem bools_one (l : List Bool) : ∀ u ∈ l.map Value.bool, u.oneCell' = true := by
  intro u hu
  obtain ⟨_, _, rfl⟩ := List.mem_map.1 hu
  rfl
end Go.Proofs.Ytobchlakjgeadaa
