/-
  The law's own few and same. Conditions: pools in memory, of at most a hundred thousand constants.
-/
import Derived.Test.YtmojclbejmnikaaYB
namespace Go.Proofs.Ytmojclbejmnikaa
open Go Go.RowKit
set_option maxRecDepth 100000

def eqB (r s : Raw) : Bool := decide (r.tag = s.tag) && decide (r.text.toList = s.text.toList) && decide (r.bits = s.bits) && decide (r.a = s.a) && decide (r.b = s.b)
theorem eqB_iff (r s : Raw) : eqB r s = true ↔ r = s := by
  obtain ⟨t, x, b, p, q⟩ := r
  obtain ⟨t', x', b', p', q'⟩ := s
  unfold eqB
  simp only [Bool.and_eq_true, decide_eq_true_iff, Raw.mk.injEq]
  have e : x.toList = x'.toList ↔ x = x' := by
    rw [ByteArray.toList_eq, ByteArray.toList_eq]
    exact ⟨fun h => ByteArray.ext (Array.toList_inj.1 h), fun h => by rw [h]⟩
  rw [e]
  constructor
  · rintro ⟨⟨⟨⟨h1, h2⟩, h3⟩, h4⟩, h5⟩; exact ⟨h1, h2, h3, h4, h5⟩
  · rintro ⟨h1, h2, h3, h4, h5⟩; exact ⟨⟨⟨⟨h1, h2⟩, h3⟩, h4⟩, h5⟩
theorem eqR (r s : Raw) (w : World) : (Op.equalIn 10000 47 (.agg #[.int .i64 r.tag, .string r.text, .int .u64 r.bits, .int .i64 r.a, .int .i64 r.b]) (.agg #[.int .i64 s.tag, .string s.text, .int .u64 s.bits, .int .i64 s.a, .int .i64 s.b])).run Try.prog w = .ok (eqB r s) w := by
  have u9 := Try.underlying9
  have a9 := Try.isAgg9
  have z9 := Try.sizeOf9
  have u3 := Try.underlying3
  have a3 := Try.isAgg3
  have z3 := Try.sizeOf3
  have u25 := Try.underlying39
  have a25 := Try.isAgg39
  have z25 := Try.sizeOf39
  obtain ⟨t, x, b, p, q⟩ := r
  obtain ⟨t', x', b', p', q'⟩ := s
  rw [show (10000 : Nat) = 9999 + 1 from rfl, Op.equalIn]
  simp only [Sem.run_bind, run_underlying Try.underlying47, Result.andThen_ok]
  unfold eqB
  go_simp
  by_cases h1 : t = t' <;> by_cases h2 : x.toList = x'.toList <;> by_cases h3 : b = b' <;> by_cases h4 : p = p' <;> by_cases h5 : q = q' <;> simp [h1, h2, h3, h4, h5] <;> omega
theorem neqR (r s : Raw) (w : World) : (binOp .neq 47 (.agg #[.int .i64 r.tag, .string r.text, .int .u64 r.bits, .int .i64 r.a, .int .i64 r.b]) (.agg #[.int .i64 s.tag, .string s.text, .int .u64 s.bits, .int .i64 s.a, .int .i64 s.b])).run Try.prog w = .ok (.bool (!eqB r s)) w := by
  have e : (Op.equalIn Op.maxDepth 47 (.agg #[.int .i64 r.tag, .string r.text, .int .u64 r.bits, .int .i64 r.a, .int .i64 r.b]) (.agg #[.int .i64 s.tag, .string s.text, .int .u64 s.bits, .int .i64 s.a, .int .i64 s.b])).run Try.prog w = .ok (eqB r s) w := eqR r s w
  simp [binOp, Op.equal, e]

/-- Are constants not too great to be asked about? -/
def fewM (l : List Raw) : Bool := (l.all fun r => decide (r.text.size ≤ 200)) && decide (l.length ≤ 100)
set_option maxHeartbeats 8000000 in
theorem few_any (l : List Raw) (A : Option Addr) (n c B : Nat) (hn : l.length = n) (hs : n ≤ 9223372036854775807) (ht : ∀ r ∈ l, r.text.size ≤ 9223372036854775807) (w : World) (hA : Seen w B 5 A n c (rv l)) (hB : B ≤ w.heap.size) :
    Calls Try.prog 13 #[.slice A n c] w (Gives w (.bool (fewM l))) := by
  have HA := Lib.hid hA
  obtain ⟨R, hR⟩ : ∃ r, fewM l = r := ⟨_, rfl⟩
  rw [hR]
  have HR := Lib.hid hR
  clear hA hR
  go_enter Try.func13, Try.ntmps13
  go_wp2
  go_loopg [7] n (fun j v wr => ∃ k : Nat, k ≤ n ∧ j = n - k ∧ v = .int .i64 k ∧ Below w.heap.size w wr ∧ ∀ r ∈ l.take k, r.text.size ≤ 200)
  case atStart => exact ⟨0, by omega, rfl, rfl, Below.refl _ _, by simp⟩
  case round =>
    obtain ⟨k, hk, rfl, rfl, hbl, hal⟩ := hrel
    obtain ⟨wo, rfl⟩ : ∃ W, W = wr := ⟨_, rfl⟩
    have HB := Lib.hid hbl
    have HAL := Lib.hid hal
    clear hbl hal
    by_cases hlt : k < n
    · have hkl : k < l.length := by omega
      have d0 : decide ((k : Int) < (n : Int)) = true := by rw [decide_eq_true_iff]; omega
      obtain ⟨bb, oo, rfl, hbb, hc⟩ := (HA.out.below (HB.out.mono hB)).raw hkl hn
      have htx := ht _ (List.getElem_mem hkl)
      have hst : l.take (k + 1) = l.take k ++ [l[k]] := take_next l k hkl
      have hmem := List.getElem_mem hkl
      obtain ⟨r, hr⟩ : ∃ r, l[k] = r := ⟨_, rfl⟩
      rw [hr] at hc htx hst hmem
      obtain ⟨t, s, bits, a, b⟩ := r
      simp only at htx
      have m0 : wo.cell? ⟨bb, oo + k * 5, none⟩ = some (.int .i64 t) := hc 0 _ rfl
      have m1 : wo.cell? ⟨bb, oo + k * 5 + 1, none⟩ = some (.string s) := by rw [Nat.add_assoc]; exact hc 1 _ rfl
      have m2 : wo.cell? ⟨bb, oo + k * 5 + 2, none⟩ = some (.int .u64 bits) := by rw [Nat.add_assoc]; exact hc 2 _ rfl
      have m3 : wo.cell? ⟨bb, oo + k * 5 + 3, none⟩ = some (.int .i64 a) := by rw [Nat.add_assoc]; exact hc 3 _ rfl
      have m4 : wo.cell? ⟨bb, oo + k * 5 + 4, none⟩ = some (.int .i64 b) := by rw [Nat.add_assoc]; exact hc 4 _ rfl
      obtain ⟨z, hz⟩ : ∃ z, s.size = z := ⟨_, rfl⟩
      have BA : Below wo.heap.size wo (wo.alloc (.cells #[.int .i64 t, .string s, .int .u64 bits, .int .i64 a, .int .i64 b] 47)) := (Below.refl wo.heap.size wo).alloc (Nat.le_refl _) _
      have P1 := Whole.new wo 47 #[.int .i64 t, .string s, .int .u64 bits, .int .i64 a, .int .i64 b]
      have c1 := P1.cell 1
      simp only [List.getElem?_toArray, List.getElem?_cons_zero, List.getElem?_cons_succ] at c1
      have HB2 := Lib.hid (HB.out.trans (BA.mono HB.out.size))
      have HST := Lib.hid hst
      have HM := Lib.hid hmem
      rw [hz] at htx
      have HZ := Lib.hid hz
      clear hc hst hmem P1 BA
      by_cases g : 200 < z
      · have d1 : decide ((200 : Int) < (z : Int)) = true := by rw [decide_eq_true_iff]; omega
        have hr2 : R = false := by
          rw [← HR.out]; unfold fewM
          have : (l.all fun r => decide (r.text.size ≤ 200)) = false := by
            rw [List.all_eq_false]; exact ⟨_, HM.out, by simp; rw [HZ.out]; omega⟩
          rw [this]; rfl
        have HR2 := Lib.hid hr2
        clear hr2
        go_wp2_with fail
        go_ret
        exact ⟨by rw [HR2.out]; rfl, HB2.out⟩
      · have d1 : decide ((200 : Int) < (z : Int)) = false := by rw [decide_eq_false_iff_not]; omega
        have HG := Lib.hid (show z ≤ 200 by omega)
        go_wp2_with fail
        go_roundg (n - (k + 1))
        case measure => omega
        case rel =>
          refine ⟨k + 1, by omega, rfl, by go_num, HB2.out, fun r hr => ?_⟩
          rw [HST.out] at hr
          rcases List.mem_append.1 hr with hr | hr
          · exact HAL.out r hr
          · rw [List.mem_singleton.1 hr]; show s.size ≤ 200; rw [HZ.out]; exact HG.out
    · obtain rfl : k = n := by omega
      have d0 : decide ((k : Int) < (k : Int)) = false := by rw [decide_eq_false_iff_not]; omega
      have e : (l.all fun r => decide (r.text.size ≤ 200)) = true := by
        rw [List.all_eq_true]; intro r hr; rw [decide_eq_true_iff]
        exact HAL.out r (by rw [List.take_of_length_le (by omega)]; exact hr)
      have hr2 : R = decide ((k : Int) ≤ 100) := by
        rw [← HR.out]; unfold fewM; rw [e, Bool.true_and, hn]
        by_cases h : k ≤ 100
        · rw [decide_eq_true h, decide_eq_true (by omega)]
        · rw [decide_eq_false h, decide_eq_false (by omega)]
      have HR2 := Lib.hid hr2
      clear hr2 e
      go_wp2_with fail
      go_ret
      exact ⟨by rw [HR2.out]; rfl, HB.out⟩
end Go.Proofs.Ytmojclbejmnikaa
