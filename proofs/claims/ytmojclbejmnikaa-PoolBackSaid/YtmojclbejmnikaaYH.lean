/-
  A value is like a value. Conditions: none.
-/
import Derived.Test.YtmojclbejmnikaaXC
namespace Go.Proofs.Ytmojclbejmnikaa
open Go Go.RowKit
set_option maxRecDepth 100000

def eqVB (r s : Val) : Bool := decide (r.tag = s.tag) && decide (r.text.toList = s.text.toList) && decide (r.bits = s.bits) && decide (r.cls.toList = s.cls.toList) && decide (r.name.toList = s.name.toList) && decide (r.desc.toList = s.desc.toList)
theorem ba_iff (x y : ByteArray) : x.toList = y.toList ↔ x = y := by
  rw [ByteArray.toList_eq, ByteArray.toList_eq]
  exact ⟨fun h => ByteArray.ext (Array.toList_inj.1 h), fun h => by rw [h]⟩
theorem eqVB_iff (r s : Val) : eqVB r s = true ↔ r = s := by
  obtain ⟨t, x, b, c, n, d⟩ := r
  obtain ⟨t', x', b', c', n', d'⟩ := s
  unfold eqVB
  simp only [Bool.and_eq_true, decide_eq_true_iff, Val.mk.injEq, ba_iff]
  constructor
  · rintro ⟨⟨⟨⟨⟨h1, h2⟩, h3⟩, h4⟩, h5⟩, h6⟩; exact ⟨h1, h2, h3, h4, h5, h6⟩
  · rintro ⟨h1, h2, h3, h4, h5, h6⟩; exact ⟨⟨⟨⟨⟨h1, h2⟩, h3⟩, h4⟩, h5⟩, h6⟩
theorem eqV (r s : Val) (w : World) : (Op.equalIn 10000 41 (.agg #[.int .i64 r.tag, .string r.text, .int .u64 r.bits, .string r.cls, .string r.name, .string r.desc]) (.agg #[.int .i64 s.tag, .string s.text, .int .u64 s.bits, .string s.cls, .string s.name, .string s.desc])).run Try.prog w = .ok (eqVB r s) w := by
  have u9 := Try.underlying9
  have a9 := Try.isAgg9
  have z9 := Try.sizeOf9
  have u3 := Try.underlying3
  have a3 := Try.isAgg3
  have z3 := Try.sizeOf3
  have u25 := Try.underlying39
  have a25 := Try.isAgg39
  have z25 := Try.sizeOf39
  obtain ⟨t, x, b, c, n, d⟩ := r
  obtain ⟨t', x', b', c', n', d'⟩ := s
  rw [show (10000 : Nat) = 9999 + 1 from rfl, Op.equalIn]
  simp only [Sem.run_bind, run_underlying Try.underlying41, Result.andThen_ok]
  unfold eqVB
  go_simp
  by_cases h1 : t = t' <;> by_cases h2 : x.toList = x'.toList <;> by_cases h3 : b = b' <;> by_cases h4 : c.toList = c'.toList <;> by_cases h5 : n.toList = n'.toList <;> by_cases h6 : d.toList = d'.toList <;> simp [h1, h2, h3, h4, h5, h6] <;> omega
theorem eqlV (r s : Val) (w : World) : (binOp .eql 41 (.agg #[.int .i64 r.tag, .string r.text, .int .u64 r.bits, .string r.cls, .string r.name, .string r.desc]) (.agg #[.int .i64 s.tag, .string s.text, .int .u64 s.bits, .string s.cls, .string s.name, .string s.desc])).run Try.prog w = .ok (.bool (eqVB r s)) w := by
  have e : (Op.equalIn Op.maxDepth 41 (.agg #[.int .i64 r.tag, .string r.text, .int .u64 r.bits, .string r.cls, .string r.name, .string r.desc]) (.agg #[.int .i64 s.tag, .string s.text, .int .u64 s.bits, .string s.cls, .string s.name, .string s.desc])).run Try.prog w = .ok (eqVB r s) w := eqV r s w
  simp [binOp, Op.equal, e]
theorem neqV (r s : Val) (w : World) : (binOp .neq 41 (.agg #[.int .i64 r.tag, .string r.text, .int .u64 r.bits, .string r.cls, .string r.name, .string r.desc]) (.agg #[.int .i64 s.tag, .string s.text, .int .u64 s.bits, .string s.cls, .string s.name, .string s.desc])).run Try.prog w = .ok (.bool (!eqVB r s)) w := by
  have e : (Op.equalIn Op.maxDepth 41 (.agg #[.int .i64 r.tag, .string r.text, .int .u64 r.bits, .string r.cls, .string r.name, .string r.desc]) (.agg #[.int .i64 s.tag, .string s.text, .int .u64 s.bits, .string s.cls, .string s.name, .string s.desc])).run Try.prog w = .ok (eqVB r s) w := eqV r s w
  simp [binOp, Op.equal, e]
end Go.Proofs.Ytmojclbejmnikaa
