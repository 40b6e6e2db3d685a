/-
  Tokens in memory; what the document's Expand answers. Conditions: each theorem names its own.
-/
import Derived.Test.YtnnpiblnjflceaaTC
import Derived.Test.YtnnpiblnjflceaaW1
namespace Go.Proofs.Ytnnpiblnjflceaa
open Go.RowKit
set_option maxRecDepth 100000

abbrev bx (l : List Nat) : List Value := l.map fun x : Nat => Value.int .u8 x
theorem bx_get {l : List Nat} {i : Nat} (h : i < l.length) : (bx l)[i]? = some (.int .u8 (l.getD i 0 : Nat)) := by simp [List.getD, h]
theorem Seen.byte {w : World} {B n c : Nat} {A : Option Addr} {bs : List Nat} (h : Seen w B 1 A n c (bx bs)) (hn : bs.length = n) {k : Nat} (hk : k < n) : ∃ b o, A = some ⟨b, o, none⟩ ∧ b < B ∧ w.cell? ⟨b, o + k, none⟩ = some (.int .u8 (bs.getD k 0 : Nat)) := by
  obtain ⟨b, o, u, h1, h2, h3, h4⟩ := h.at hk
  rw [bx_get (by omega)] at h3
  injection h3 with h3
  subst h3
  exact ⟨b, o, h1, h2, h4⟩
theorem Seen.bytes {w : World} {B n c : Nat} {A : Option Addr} {bs : List Nat} (h : Seen w B 1 A n c (bx bs)) (hn : bs.length = n) (hp : 0 < n) : ∃ b o, A = some ⟨b, o, none⟩ ∧ b < B ∧ ∀ k, k < n → w.cell? ⟨b, o + k, none⟩ = some (.int .u8 (bs.getD k 0 : Nat)) := by
  obtain ⟨b, o, h1, h2, _⟩ := h.byte hn hp
  refine ⟨b, o, h1, h2, fun k hk => ?_⟩
  obtain ⟨b', o', h1', _, h3'⟩ := h.byte hn hk
  rw [h1] at h1'
  injection h1' with h1'
  injection h1' with e1 e2
  subst e1 e2
  exact h3'

theorem bx_append (a b : List Nat) : bx (a ++ b) = bx a ++ bx b := by simp [bx]

/-- A token's cells. -/
def tc (t : Tok) : List Value := [.int .u8 t.lit, .int .i64 t.len, .int .i64 t.dist]
def tvs (l : List Tok) : List Value := l.flatMap tc
theorem tvs_length (l : List Tok) : (tvs l).length = l.length * 3 := by
  induction l with
  | nil => rfl
  | cons t l ih =>
    have : tvs (t :: l) = tc t ++ tvs l := rfl
    rw [this, List.length_append, ih]
    simp [tc]
    omega
theorem tvs_append (a b : List Tok) : tvs (a ++ b) = tvs a ++ tvs b := by simp [tvs]
theorem tvs_get : ∀ (l : List Tok) (k j : Nat) (h : k < l.length), j < 3 → (tvs l)[k * 3 + j]? = (tc l[k])[j]?
  | t :: l, 0, j, h, hj => by
    have : tvs (t :: l) = tc t ++ tvs l := rfl
    rw [this, List.getElem?_append_left (by simp [tc]; omega)]
    simp
  | t :: l, k + 1, j, h, hj => by
    have : tvs (t :: l) = tc t ++ tvs l := rfl
    rw [this, List.getElem?_append_right (by simp [tc]; omega)]
    have e : (k + 1) * 3 + j - (tc t).length = k * 3 + j := by simp [tc]; omega
    rw [e, tvs_get l k j (by simpa using h) hj]
    simp

theorem Seen.tok {w : World} {B n c : Nat} {A : Option Addr} {l : List Tok} (h : Seen w B 3 A n c (tvs l)) {k : Nat} (hk : k < n) : ∃ (t : Tok) (b o : Nat), l[k]? = some t ∧ A = some ⟨b, o, none⟩ ∧ b < B ∧ w.cell? ⟨b, o + k * 3, none⟩ = some (.int .u8 t.lit) ∧ w.cell? ⟨b, o + k * 3 + 1, none⟩ = some (.int .i64 t.len) ∧ w.cell? ⟨b, o + k * 3 + 2, none⟩ = some (.int .i64 t.dist) := by
  obtain ⟨h1, h2, h3⟩ := h
  rw [tvs_length] at h1
  have hl : k < l.length := by omega
  rcases h3 with ⟨_, h3⟩ | ⟨⟨b, o, s⟩, ha, h3⟩
  · omega
  · obtain ⟨g1, g2, g3⟩ := h3 (by intro e; have := tvs_length l; rw [e] at this; simp at this; omega)
    simp only at g1 g2 g3
    subst g1
    refine ⟨l[k], b, o, List.getElem?_eq_getElem hl, ha, g2, ?_, ?_, ?_⟩
    · exact g3 (k * 3) _ (tvs_get l k 0 hl (by omega))
    · have := g3 (k * 3 + 1) _ (tvs_get l k 1 hl (by omega))
      rwa [← Nat.add_assoc] at this
    · have := g3 (k * 3 + 2) _ (tvs_get l k 2 hl (by omega))
      rwa [← Nat.add_assoc] at this

/-- What Expand answers. -/
def ExpRes (most : Int) (l : List Tok) (w : World) (e : Ending) (w' : World) : Prop :=
  (∃ o v, expT most l [] = (0, o) ∧ e = .returned (.tuple #[v, .int .i64 0]) ∧ w'.ownsRow w.heap.size 5 1 v o.length (bx o) ∧ Below w.heap.size w w') ∨
  (∃ er : Nat, er ≠ 0 ∧ er < 100 ∧ expT most l [] = (er, []) ∧ e = .returned (.tuple #[.slice none 0 0, .int .i64 er]) ∧ Below w.heap.size w w')

theorem wrongT_lt (t : Tok) (n : Nat) (most : Int) : wrongT t n most < 100 := by
  unfold wrongT
  repeat (first | omega | split)

theorem rexpand_arg (A : Option Addr) (n c : Nat) (most : Int) (h : most < 0 ∨ 16777216 < most) (w : World) :
    Calls Try.prog 28 #[.slice A n c, .int .i64 most] w fun e w' => e = .returned (.tuple #[.slice none 0 0, .int .i64 1]) ∧ w = w' := by
  by_cases h1 : most < 0
  · go_enter Try.func28, Try.ntmps28
    go_wp2
    go_ret2
    exact ⟨rfl, rfl⟩
  · have h2 : 16777216 < most := h.resolve_left h1
    clear h
    go_enter Try.func28, Try.ntmps28
    go_wp2
    go_ret2
    exact ⟨rfl, rfl⟩


end Go.Proofs.Ytnnpiblnjflceaa
