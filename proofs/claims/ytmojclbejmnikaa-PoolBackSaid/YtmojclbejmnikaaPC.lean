/-
  What is asserted of a pool's constants; the program's textAt. Conditions: as PB.
-/
import Derived.Test.YtmojclbejmnikaaPB
namespace Go.Proofs.Ytmojclbejmnikaa
open Go Go.RowKit
set_option maxRecDepth 100000

theorem ifc_cases (r : Raw) : (r.tag = 1 ∧ ifc r = .iface 77 (.string r.text)) ∨ ((r.tag = 3 ∨ r.tag = 4) ∧ ifc r = .iface 80 (.agg #[.int .u64 r.bits, .int .i64 4])) ∨
    ((r.tag = 5 ∨ r.tag = 6) ∧ ifc r = .iface 80 (.agg #[.int .u64 r.bits, .int .i64 8])) ∨ (r.tag = 7 ∧ ifc r = .iface 84 (.agg #[.int .i64 r.a])) ∨ (r.tag = 8 ∧ ifc r = .iface 85 (.agg #[.int .i64 r.a])) ∨
    ((r.tag = 9 ∨ r.tag = 10 ∨ r.tag = 11) ∧ ifc r = .iface 89 (.agg #[.int .i64 r.a, .int .i64 r.b])) ∨ (r.tag = 12 ∧ ifc r = .iface 87 (.agg #[.int .i64 r.a, .int .i64 r.b])) ∨
    (formM r.tag = 0 ∧ ifc r = .nilIface) := by
  unfold ifc formM
  by_cases h1 : r.tag = 1
  · simp [h1]
  by_cases h2 : r.tag = 3 ∨ r.tag = 4
  · exact .inr (.inl ⟨h2, by rw [if_neg h1, if_pos h2]⟩)
  by_cases h3 : r.tag = 5 ∨ r.tag = 6
  · exact .inr (.inr (.inl ⟨h3, by rw [if_neg h1, if_neg h2, if_pos h3]⟩))
  by_cases h4 : r.tag = 7
  · exact .inr (.inr (.inr (.inl ⟨h4, by rw [if_neg h1, if_neg h2, if_neg h3, if_pos h4]⟩)))
  by_cases h5 : r.tag = 8
  · exact .inr (.inr (.inr (.inr (.inl ⟨h5, by rw [if_neg h1, if_neg h2, if_neg h3, if_neg h4, if_pos h5]⟩))))
  by_cases h6 : r.tag = 9 ∨ r.tag = 10 ∨ r.tag = 11
  · exact .inr (.inr (.inr (.inr (.inr (.inl ⟨h6, by rw [if_neg h1, if_neg h2, if_neg h3, if_neg h4, if_neg h5, if_pos h6]⟩)))))
  by_cases h7 : r.tag = 12
  · exact .inr (.inr (.inr (.inr (.inr (.inr (.inl ⟨h7, by rw [if_neg h1, if_neg h2, if_neg h3, if_neg h4, if_neg h5, if_neg h6, if_pos h7]⟩))))))
  refine .inr (.inr (.inr (.inr (.inr (.inr (.inr ⟨?_, by rw [if_neg h1, if_neg h2, if_neg h3, if_neg h4, if_neg h5, if_neg h6, if_neg h7]⟩))))))
  rw [if_neg h1, if_neg h2, if_neg h3, if_neg (by omega), if_neg (by omega)]

/-- The class of a number, if it is one's; the pair. -/
def clM (l : List Raw) (i : Int) : Option Int := match atR l i with | some r => if r.tag = 7 then some r.a else none | none => none
def prM (l : List Raw) (i : Int) : Option (Int × Int) := match atR l i with | some r => if r.tag = 12 then some (r.a, r.b) else none | none => none

def notIface : TypeDesc → Bool | .interface _ => false | _ => true
theorem not_iface {t : TypeId} (h : (Try.prog.underlying t).map notIface = some true) : ∃ u, Try.prog.underlying t = some u ∧ ∀ ms, u ≠ .interface ms := by
  obtain ⟨u, hu, hn⟩ := Option.map_eq_some_iff.1 h
  exact ⟨u, hu, fun ms e => by subst e; cases hn⟩
theorem asHit (t : TypeId) (v : Value) (w : World) (h : (Try.prog.underlying t).map notIface = some true) : (Instr.typeAssert (.iface t v) 64 t true).run Try.prog w = .ok (.tuple #[v, .bool true]) w := by
  obtain ⟨u, hu, hn⟩ := not_iface h; exact assert_hit 64 t v w u hu hn
theorem asMiss (t t' : TypeId) (v z : Value) (w : World) (h : (Try.prog.underlying t).map notIface = some true) (hz : (Try.prog.info? t).map (·.zero) = some (some z)) (hne : t' ≠ t) : (Instr.typeAssert (.iface t' v) 64 t true).run Try.prog w = .ok (.tuple #[z, .bool false]) w := by
  obtain ⟨u, hu, hn⟩ := not_iface h; exact assert_miss 64 t t' v z w u hu hn hne hz
theorem asNil (t : TypeId) (z : Value) (w : World) (h : (Try.prog.underlying t).map notIface = some true) (hz : (Try.prog.info? t).map (·.zero) = some (some z)) : (Instr.typeAssert .nilIface 64 t true).run Try.prog w = .ok (.tuple #[z, .bool false]) w := by
  obtain ⟨u, hu, hn⟩ := not_iface h; exact assert_nil 64 t z w u hu hn hz
theorem n77 : (Try.prog.underlying 77).map notIface = some true := by kernel_rfl
theorem n80 : (Try.prog.underlying 80).map notIface = some true := by kernel_rfl
theorem n84 : (Try.prog.underlying 84).map notIface = some true := by kernel_rfl
theorem n85 : (Try.prog.underlying 85).map notIface = some true := by kernel_rfl
theorem n87 : (Try.prog.underlying 87).map notIface = some true := by kernel_rfl
theorem n89 : (Try.prog.underlying 89).map notIface = some true := by kernel_rfl
theorem z77 : (Try.prog.info? 77).map (·.zero) = some (some (.string ⟨#[]⟩)) := by kernel_rfl
theorem z80 : (Try.prog.info? 80).map (·.zero) = some (some (.agg #[.int .u64 0, .int .i64 0])) := by kernel_rfl
theorem z84 : (Try.prog.info? 84).map (·.zero) = some (some (.agg #[.int .i64 0])) := by kernel_rfl
theorem z85 : (Try.prog.info? 85).map (·.zero) = some (some (.agg #[.int .i64 0])) := by kernel_rfl
theorem z87 : (Try.prog.info? 87).map (·.zero) = some (some (.agg #[.int .i64 0, .int .i64 0])) := by kernel_rfl
theorem z89 : (Try.prog.info? 89).map (·.zero) = some (some (.agg #[.int .i64 0, .int .i64 0])) := by kernel_rfl

theorem as77 (l : List Raw) (i : Int) (w : World) : (Instr.typeAssert (atV l i) 64 77 true).run Try.prog w = .ok (.tuple #[.string (opT (txM l i)), .bool (txM l i).isSome]) w := by
  unfold atV txM
  cases atR l i with
  | none => exact asNil 77 _ w n77 z77
  | some r =>
    simp only
    rcases ifc_cases r with ⟨h, e⟩ | ⟨h, e⟩ | ⟨h, e⟩ | ⟨h, e⟩ | ⟨h, e⟩ | ⟨h, e⟩ | ⟨h, e⟩ | ⟨h, e⟩ <;> rw [e]
    · rw [if_pos h]; exact asHit 77 _ w n77
    · rw [if_neg (by omega)]; exact asMiss 77 80 _ _ w n77 z77 (by decide)
    · rw [if_neg (by omega)]; exact asMiss 77 80 _ _ w n77 z77 (by decide)
    · rw [if_neg (by omega)]; exact asMiss 77 84 _ _ w n77 z77 (by decide)
    · rw [if_neg (by omega)]; exact asMiss 77 85 _ _ w n77 z77 (by decide)
    · rw [if_neg (by omega)]; exact asMiss 77 89 _ _ w n77 z77 (by decide)
    · rw [if_neg (by omega)]; exact asMiss 77 87 _ _ w n77 z77 (by decide)
    · rw [if_neg (fun h1 => by rw [h1] at h; exact absurd h (by decide))]; exact asNil 77 _ w n77 z77
theorem as84 (l : List Raw) (i : Int) (w : World) : (Instr.typeAssert (atV l i) 64 84 true).run Try.prog w = .ok (.tuple #[.agg #[.int .i64 ((clM l i).getD 0)], .bool (clM l i).isSome]) w := by
  unfold atV clM
  cases atR l i with
  | none => exact asNil 84 _ w n84 z84
  | some r =>
    simp only
    rcases ifc_cases r with ⟨h, e⟩ | ⟨h, e⟩ | ⟨h, e⟩ | ⟨h, e⟩ | ⟨h, e⟩ | ⟨h, e⟩ | ⟨h, e⟩ | ⟨h, e⟩ <;> rw [e]
    · rw [if_neg (by omega)]; exact asMiss 84 77 _ _ w n84 z84 (by decide)
    · rw [if_neg (by omega)]; exact asMiss 84 80 _ _ w n84 z84 (by decide)
    · rw [if_neg (by omega)]; exact asMiss 84 80 _ _ w n84 z84 (by decide)
    · rw [if_pos h]; exact asHit 84 _ w n84
    · rw [if_neg (by omega)]; exact asMiss 84 85 _ _ w n84 z84 (by decide)
    · rw [if_neg (by omega)]; exact asMiss 84 89 _ _ w n84 z84 (by decide)
    · rw [if_neg (by omega)]; exact asMiss 84 87 _ _ w n84 z84 (by decide)
    · rw [if_neg (fun h1 => by rw [h1] at h; exact absurd h (by decide))]; exact asNil 84 _ w n84 z84
theorem as87 (l : List Raw) (i : Int) (w : World) : (Instr.typeAssert (atV l i) 64 87 true).run Try.prog w = .ok (.tuple #[.agg #[.int .i64 ((prM l i).getD (0, 0)).1, .int .i64 ((prM l i).getD (0, 0)).2], .bool (prM l i).isSome]) w := by
  unfold atV prM
  cases atR l i with
  | none => exact asNil 87 _ w n87 z87
  | some r =>
    simp only
    rcases ifc_cases r with ⟨h, e⟩ | ⟨h, e⟩ | ⟨h, e⟩ | ⟨h, e⟩ | ⟨h, e⟩ | ⟨h, e⟩ | ⟨h, e⟩ | ⟨h, e⟩ <;> rw [e]
    · rw [if_neg (by omega)]; exact asMiss 87 77 _ _ w n87 z87 (by decide)
    · rw [if_neg (by omega)]; exact asMiss 87 80 _ _ w n87 z87 (by decide)
    · rw [if_neg (by omega)]; exact asMiss 87 80 _ _ w n87 z87 (by decide)
    · rw [if_neg (by omega)]; exact asMiss 87 84 _ _ w n87 z87 (by decide)
    · rw [if_neg (by omega)]; exact asMiss 87 85 _ _ w n87 z87 (by decide)
    · rw [if_neg (by omega)]; exact asMiss 87 89 _ _ w n87 z87 (by decide)
    · rw [if_pos h]; exact asHit 87 _ w n87
    · rw [if_neg (fun h1 => by rw [h1] at h; exact absurd h (by decide))]; exact asNil 87 _ w n87 z87

set_option maxHeartbeats 4000000 in
theorem text_any (l : List Raw) (A : Option Addr) (n c B : Nat) (i : Int) (hn : l.length = n) (hs : n ≤ 100000) (w : World) (hA : Seen w B 5 A n c (rv l)) :
    Calls Try.prog 82 #[.slice A n c, .int .i64 i] w fun e w' => e = .returned (.tuple #[.string (opT (txM l i)), .bool (txM l i).isSome]) ∧ Below w.heap.size w w' := by
  have hT := fun w => as77 l i w
  have AT := at_any l A n c B i hn hs w hA
  generalize atV l i = V at hT AT
  generalize opT (txM l i) = T at hT ⊢
  generalize (txM l i).isSome = b at hT ⊢
  have H := Lib.hid (And.intro hn (And.intro hs hA))
  clear hn hs hA
  go_enter Try.func82, Try.ntmps82
  go_wp2_with fail
  refine AT.mono ?_
  rintro e w1 ⟨rfl, hB1⟩
  go_wp2_with fail
  go_ret2
  exact ⟨rfl, hB1⟩
end Go.Proofs.Ytmojclbejmnikaa
