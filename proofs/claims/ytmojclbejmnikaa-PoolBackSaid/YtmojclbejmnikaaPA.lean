/-
  The program's constants: what stands behind a tag, as a value of an interface. No conditions.
-/
import Derived.Test.YtmojclbejmnikaaYA
namespace Go.Proofs.Ytmojclbejmnikaa
open Go Go.RowKit
set_option maxRecDepth 100000

/-- A constant by its tag, as the program makes it. -/
def ifc (r : Raw) : Value :=
  if r.tag = 1 then .iface 77 (.string r.text)
  else if r.tag = 3 ∨ r.tag = 4 then .iface 80 (.agg #[.int .u64 r.bits, .int .i64 4])
  else if r.tag = 5 ∨ r.tag = 6 then .iface 80 (.agg #[.int .u64 r.bits, .int .i64 8])
  else if r.tag = 7 then .iface 84 (.agg #[.int .i64 r.a])
  else if r.tag = 8 then .iface 85 (.agg #[.int .i64 r.a])
  else if r.tag = 9 ∨ r.tag = 10 ∨ r.tag = 11 then .iface 89 (.agg #[.int .i64 r.a, .int .i64 r.b])
  else if r.tag = 12 then .iface 87 (.agg #[.int .i64 r.a, .int .i64 r.b])
  else .nilIface
def rawA (r : Raw) : Array Value := #[.int .i64 r.tag, .string r.text, .int .u64 r.bits, .int .i64 r.a, .int .i64 r.b]

set_option maxHeartbeats 4000000 in
theorem conOf_any (t : Int) (s : ByteArray) (n : Nat) (a b : Int) (w : World) :
    Calls Try.prog 34 #[.agg #[.int .i64 t, .string s, .int .u64 n, .int .i64 a, .int .i64 b]] w
      fun e w' => e = .returned (ifc ⟨t, s, n, a, b⟩) ∧ w' = w.alloc (.cells #[.int .i64 t, .string s, .int .u64 n, .int .i64 a, .int .i64 b] 47) := by
  have key : ∀ k : Int, (t == k) = decide (t = k) := fun k => by rw [Bool.eq_iff_iff]; simp
  by_cases h1 : t = 1
  · subst h1; go_enter Try.func34, Try.ntmps34; go_wp2_with fail; go_ret; exact ⟨rfl, rfl⟩
  by_cases h3 : t = 3
  · subst h3; go_enter Try.func34, Try.ntmps34; go_wp2_with fail; go_ret; exact ⟨rfl, rfl⟩
  by_cases h4 : t = 4
  · subst h4; go_enter Try.func34, Try.ntmps34; go_wp2_with fail; go_ret; exact ⟨rfl, rfl⟩
  by_cases h5 : t = 5
  · subst h5; go_enter Try.func34, Try.ntmps34; go_wp2_with fail; go_ret; exact ⟨rfl, rfl⟩
  by_cases h6 : t = 6
  · subst h6; go_enter Try.func34, Try.ntmps34; go_wp2_with fail; go_ret; exact ⟨rfl, rfl⟩
  by_cases h7 : t = 7
  · subst h7; go_enter Try.func34, Try.ntmps34; go_wp2_with fail; go_ret; exact ⟨rfl, rfl⟩
  by_cases h8 : t = 8
  · subst h8; go_enter Try.func34, Try.ntmps34; go_wp2_with fail; go_ret; exact ⟨rfl, rfl⟩
  by_cases h9 : t = 9
  · subst h9; go_enter Try.func34, Try.ntmps34; go_wp2_with fail; go_ret; exact ⟨rfl, rfl⟩
  by_cases h10 : t = 10
  · subst h10; go_enter Try.func34, Try.ntmps34; go_wp2_with fail; go_ret; exact ⟨rfl, rfl⟩
  by_cases h11 : t = 11
  · subst h11; go_enter Try.func34, Try.ntmps34; go_wp2_with fail; go_ret; exact ⟨rfl, rfl⟩
  by_cases h12 : t = 12
  · subst h12; go_enter Try.func34, Try.ntmps34; go_wp2_with fail; go_ret; exact ⟨rfl, rfl⟩
  have eI : ifc ⟨t, s, n, a, b⟩ = .nilIface := by simp [ifc, h1, h3, h4, h5, h6, h7, h8, h9, h10, h11, h12]
  have e1 : (t == 1) = false := by rw [beq_eq_false_iff_ne]; exact h1
  have e3 : (t == 3) = false := by rw [beq_eq_false_iff_ne]; exact h3
  have e4 : (t == 4) = false := by rw [beq_eq_false_iff_ne]; exact h4
  have e5 : (t == 5) = false := by rw [beq_eq_false_iff_ne]; exact h5
  have e6 : (t == 6) = false := by rw [beq_eq_false_iff_ne]; exact h6
  have e7 : (t == 7) = false := by rw [beq_eq_false_iff_ne]; exact h7
  have e8 : (t == 8) = false := by rw [beq_eq_false_iff_ne]; exact h8
  have e9 : (t == 9) = false := by rw [beq_eq_false_iff_ne]; exact h9
  have e10 : (t == 10) = false := by rw [beq_eq_false_iff_ne]; exact h10
  have e11 : (t == 11) = false := by rw [beq_eq_false_iff_ne]; exact h11
  have e12 : (t == 12) = false := by rw [beq_eq_false_iff_ne]; exact h12
  rw [eI]
  clear h1 h3 h4 h5 h6 h7 h8 h9 h10 h11 h12 eI key
  go_enter Try.func34, Try.ntmps34
  go_wp2_with fail
  go_ret
  exact ⟨rfl, rfl⟩
theorem con_any (r : Raw) (w : World) : Calls Try.prog 34 #[.agg (rawA r)] w fun e w' => e = .returned (ifc r) ∧ w' = w.alloc (.cells (rawA r) 47) := conOf_any r.tag r.text r.bits r.a r.b w

/-! What an assertion tells, at each type that is asked. -/
theorem assert_hit (xT t : TypeId) (v : Value) (w : World) (u : TypeDesc) (hu : Try.prog.underlying t = some u) (hi : ∀ ms, u ≠ .interface ms) :
    (Instr.typeAssert (.iface t v) xT t true).run Try.prog w = .ok (.tuple #[v, .bool true]) w := by
  cases u <;> first | exact absurd rfl (hi _) | simp [Instr.typeAssert, run_underlying hu]
theorem assert_miss (xT t t' : TypeId) (v z : Value) (w : World) (u : TypeDesc) (hu : Try.prog.underlying t = some u) (hi : ∀ ms, u ≠ .interface ms) (hne : t' ≠ t) (hz : (Try.prog.info? t).map (·.zero) = some (some z)) :
    (Instr.typeAssert (.iface t' v) xT t true).run Try.prog w = .ok (.tuple #[z, .bool false]) w := by
  obtain ⟨j, hj, hz'⟩ := Option.map_eq_some_iff.1 hz
  cases u <;> first | exact absurd rfl (hi _) | simp [Instr.typeAssert, run_underlying hu, hne, zeroValue, typeInfo, hj, hz']
theorem assert_nil (xT t : TypeId) (z : Value) (w : World) (u : TypeDesc) (hu : Try.prog.underlying t = some u) (hi : ∀ ms, u ≠ .interface ms) (hz : (Try.prog.info? t).map (·.zero) = some (some z)) :
    (Instr.typeAssert .nilIface xT t true).run Try.prog w = .ok (.tuple #[z, .bool false]) w := by
  obtain ⟨j, hj, hz'⟩ := Option.map_eq_some_iff.1 hz
  cases u <;> first | exact absurd rfl (hi _) | simp [Instr.typeAssert, run_underlying hu, zeroValue, typeInfo, hj, hz']
end Go.Proofs.Ytmojclbejmnikaa
