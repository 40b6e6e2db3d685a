/-
  The map of places by their first three bytes: each value in it is below a bound. Conditions: each theorem names its own.
-/
import Derived.Test.YthlgceeldnhhbaaG
import Derived.Maps.OwnSet
import Derived.DeepKeys4
import Derived.WideKeyPair
namespace Go.Proofs.Ythlgceeldnhhbaa
open Go.RowKit
open Go.ChangeMaps Go.MapKept
open Go.WideElems (Fit rd rg pl rd_val elemAt)
open Go.Maps (Keyed)
set_option maxRecDepth 100000

theorem laidOut : laidOutB Try.prog = true := by kernel_rfl
theorem row50 : (50 : TypeId) < Try.prog.types.size := of_decide_eq_true (by kernel_rfl)
theorem cells50 : Try.prog.cellsOf 50 = 3 := by kernel_rfl
theorem wide50 : (match Try.prog.underlying 50 with | some (.array _ _) | some (.struct _) => true | _ => false) = true := by rw [Try.underlying50]
theorem key50 : Keyed Try.prog 50 := Keyed.of_law (deep_law_laid laidOut (m := 2) (by omega) row50 (by kernel_rfl) wide50)
theorem arr50 : Go.WideMaps.ArrKey Try.prog 50 5 3 := ⟨Try.underlying50, by kernel_rfl, by kernel_rfl, cells50⟩
theorem zero3 (w : World) : (zeroValue 3).run Try.prog w = .ok (.int .i64 0) w := by kernel_rfl
theorem size_types : ∃ m, Try.prog.types.size = m + 1 := ⟨Try.prog.types.size - 1, by have h : (50 : Nat) < Try.prog.types.size := row50; omega⟩

theorem key_three {a b c : Nat} (ha : a < 256) (hb : b < 256) (hc : c < 256) : ∃ kl, keyOf Try.prog 50 (.agg #[.int .u8 a, .int .u8 b, .int .u8 c]) = some kl := by
  have A := arr50
  have hkt := A.keyType size_types
  have wa : (Lit.int .u8 (a : Int)).wf = true := by simp [Lit.wf, IntKind.min, IntKind.max, IntKind.signed, IntKind.bits]; omega
  have wb : (Lit.int .u8 (b : Int)).wf = true := by simp [Lit.wf, IntKind.min, IntKind.max, IntKind.signed, IntKind.bits]; omega
  have wc : (Lit.int .u8 (c : Int)).wf = true := by simp [Lit.wf, IntKind.min, IntKind.max, IntKind.signed, IntKind.bits]; omega
  obtain ⟨m, hm⟩ := size_types
  refine ⟨.string (keyBytes [.int .u8 a, .int .u8 b, .int .u8 c]), ?_⟩
  unfold keyOf
  simp only [A.hu]
  rw [if_pos (by simp [hkt, Value.formed, A.hu, A.size]), hm]
  unfold Program.keyLits
  simp only [A.hu, Value.cells]
  rw [if_pos (by rw [A.size]; rfl), show List.range 3 = [0, 1, 2] from rfl, List.mapM_cons, List.mapM_cons, List.mapM_cons, List.mapM_nil]
  simp [A.one, Program.keyLits, Try.underlying5, wa, wb, wc]

/-- A value of the map: a place below h. -/
def RH (h : Nat) (v : Value) : Option (DataW Unit × List MemPlace) :=
  match v with
  | .int .i64 a => if 0 ≤ a ∧ a < h then some (.lit (.int .i64 a), []) else none
  | _ => none
theorem RH_mk {h a : Nat} (ha : a < h) : RH h (.int .i64 (a : Int)) = some (.lit (.int .i64 a), []) := by
  unfold RH
  simp only
  rw [if_pos (by omega)]
theorem RH_inv {h : Nat} {v : Value} {z : DataW Unit × List MemPlace} (e : RH h v = some z) : ∃ a : Nat, v = .int .i64 a ∧ a < h := by
  unfold RH at e
  split at e
  · split at e
    · rename_i a hc
      obtain ⟨m, rfl⟩ := Int.eq_ofNat_of_zero_le hc.1
      exact ⟨m, rfl, by omega⟩
    · cases e
  · cases e
theorem RH_more {h h' : Nat} (hh : h ≤ h') {v : Value} {z : DataW Unit × List MemPlace} (e : RH h v = some z) : RH h' v = some z := by
  obtain ⟨a, rfl, ha⟩ := RH_inv e
  rw [RH_mk ha] at e
  rw [RH_mk (by omega)]
  exact e

/-- Block M is a map of places below h. -/
def MapAt (w : World) (M h : Nat) : Prop := ∃ es clock, w.heap[M]? = some (.map es clock) ∧ Fit Try.prog 50 (RH h) es clock ∧ es.size ≤ h

section
variable {w w' : World} {M h : Nat} {S : Nat → Prop}
theorem MapAt.lt (hm : MapAt w M h) : M < w.heap.size := by
  obtain ⟨es, clock, hb, _⟩ := hm
  exact (Array.getElem?_eq_some_iff.1 hb).1
theorem MapAt.only (hm : MapAt w M h) (ho : Only S w w') (hM : ¬ S M) : MapAt w' M h := by
  have hlt := hm.lt
  obtain ⟨es, clock, hb, r⟩ := hm
  exact ⟨es, clock, (ho.block M hlt hM).trans hb, r⟩
theorem MapAt.ne {g : Nat} {t : TypeId} {cs : Array Value} (hm : MapAt w M h) (hg : Whole w g t cs) : M ≠ g := by
  rintro rfl
  obtain ⟨es, clock, hb, _⟩ := hm
  unfold Whole at hg
  rw [hb] at hg
  cases hg
theorem MapAt.ne_own {base : Nat} {e : TypeId} {size n : Nat} {v : Value} {xs : List Value} (hm : MapAt w M h) (ho : w.ownsRow base e size v n xs) : ∀ k, v.ownBlock = some k → k ≠ M := by
  intro k hk
  obtain ⟨_, cs, hw⟩ := own_whole ho hk
  exact (hm.ne hw).symm
theorem MapAt.drewN (hm : MapAt w M h) (n : Nat) : MapAt (w.drewN n) M h := hm
theorem MapAt.drew (hm : MapAt w M h) : MapAt w.drew M h := hm

/-- A look: no place, or one below h. -/
theorem MapAt.look (hm : MapAt w M h) {key : Value} {kl : Lit} (hk : keyOf Try.prog 50 key = some kl) :
    (Instr.lookup 46 (.map (some M)) key true).run Try.prog w = .ok (.tuple #[.int .i64 0, .bool false]) w ∨ ∃ a : Nat, a < h ∧ (Instr.lookup 46 (.map (some M)) key true).run Try.prog w = .ok (.tuple #[.int .i64 a, .bool true]) w := by
  obtain ⟨es, clock, hb, F, _⟩ := hm
  rcases Maps.fit_look true key50 Try.underlying46 (zero3 w) hb F hk with ⟨hrun, _, _⟩ | ⟨e0, y, _, _, hrun, hR, _, _⟩
  · exact .inl hrun
  · obtain ⟨a, ha, hlt⟩ := RH_inv hR
    rw [ha] at hrun
    exact .inr ⟨a, hlt, hrun⟩
/-- .. without asking whether there is one. -/
theorem MapAt.lookup (hm : MapAt w M h) {key : Value} {kl : Lit} (hk : keyOf Try.prog 50 key = some kl) :
    ∃ a : Nat, a ≤ h ∧ (Instr.lookup 46 (.map (some M)) key false).run Try.prog w = .ok (.int .i64 a) w := by
  obtain ⟨es, clock, hb, F, _⟩ := hm
  rcases Maps.fit_look false key50 Try.underlying46 (zero3 w) hb F hk with ⟨hrun, _, _⟩ | ⟨e0, y, _, _, hrun, hR, _, _⟩
  · exact ⟨0, Nat.zero_le _, hrun⟩
  · obtain ⟨a, ha, hlt⟩ := RH_inv hR
    rw [ha] at hrun
    exact ⟨a, by omega, hrun⟩
theorem only_setBlock {es es' : Array MapEntry} {clock clock' : Nat} (hb : w.heap[M]? = some (.map es clock)) : Only (fun k => k = M) w (setBlock w M (.map es' clock')) :=
  ⟨rfl, rfl, rfl, by simp [setBlock], fun i _ hi => heap_setBlock_other hb _ hi⟩
/-- A place is put. -/
theorem MapAt.store (hm : MapAt w M h) (hh : h < maxLen) {key : Value} {kl : Lit} (hk : keyOf Try.prog 50 key = some kl) {a : Nat} (ha : a ≤ h) :
    ∃ w', (Instr.mapUpdate 46 (.map (some M)) key (.int .i64 a)).run Try.prog w = .ok () w' ∧ MapAt w' M (h + 1) ∧ Only (fun k => k = M) w w' := by
  obtain ⟨es, clock, hb, F, hs⟩ := hm
  obtain ⟨es', clock', hrun, F', hput, _⟩ := Maps.fit_store (R' := RH (h + 1)) key50 Try.underlying46 hb F (Nat.lt_of_le_of_lt hs hh) (fun _ _ _ _ hz => RH_more (by omega) hz) hk (RH_mk (show a < h + 1 by omega))
  refine ⟨_, hrun, ⟨es', clock', heap_setBlock_same hb _, F', ?_⟩, only_setBlock hb⟩
  have e1 : es'.size = ((es'.toList.map (rg Try.prog 50 (RH (h + 1)))).foldr DataW.insert []).length := by rw [length_sorted]; simp
  rw [e1, hput]
  unfold putKey
  rw [length_insert]
  have e2 := List.length_filter_le (notKey kl) ((es.toList.map (rg Try.prog 50 (RH h))).foldr DataW.insert [])
  rw [length_sorted] at e2
  simp at e2
  omega
/-- A place is left out. -/
theorem MapAt.drop (hm : MapAt w M h) {key : Value} {kl : Lit} (hk : keyOf Try.prog 50 key = some kl) (ty : TypeId) :
    ∃ w', (Builtin.delete_ #[46, 50] ty #[.map (some M), key]).run Try.prog w = .ok (.tuple #[]) w' ∧ MapAt w' M h ∧ Only (fun k => k = M) w w' := by
  obtain ⟨es, clock, hb, F, hs⟩ := hm
  obtain ⟨es', hrun, F', hle, _, _⟩ := Maps.fit_drop (ty := ty) key50 Try.underlying46 hb F hk
  exact ⟨_, hrun, ⟨es', clock, heap_setBlock_same hb _, F', Nat.le_trans hle hs⟩, only_setBlock hb⟩
theorem MapAt.new (w : World) : MapAt (w.alloc (.map #[] 0)) w.heap.size 0 :=
  ⟨#[], 0, (MapKept.heap_alloc w _).1, ⟨by simp, stamped_empty 0, by simp⟩, Nat.le_refl _⟩
end
end Go.Proofs.Ythlgceeldnhhbaa
