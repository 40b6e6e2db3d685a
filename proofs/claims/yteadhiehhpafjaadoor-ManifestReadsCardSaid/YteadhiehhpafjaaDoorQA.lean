/-
  Rows of sections, put together: a slice of one, and those of another row behind it. Conditions: none.
-/
import Derived.Test.YteadhiehhpafjaaDoorNS
import Derived.Deep.DeepCutAuto
import Derived.OrdersHeld
import Derived.Deep.RegionHeld3
namespace Go.Proofs.YteadhiehhpafjaaDoor
open Go Go.RowKit
set_option maxRecDepth 100000

theorem eq44 (a b : ByteArray) (w : World) : (Op.equalIn 10000 44 (.agg #[.string a, .string b]) (.agg #[.string a, .string b])).run Tryd.prog w = .ok true w := by
  have u9 := Tryd.underlying9
  have a9 := Tryd.isAgg9
  have z9 := Tryd.sizeOf9
  rw [show (10000 : Nat) = 9999 + 1 from rfl, Op.equalIn]
  simp only [Sem.run_bind, run_underlying Tryd.underlying44, Result.andThen_ok]
  go_simp
theorem neq44 (a b : ByteArray) (w : World) : (binOp .neq 44 (.agg (pairA a b)) (.agg (pairA a b))).run Tryd.prog w = .ok (.bool false) w := by
  have e : (Op.equalIn Op.maxDepth 44 (.agg #[.string a, .string b]) (.agg #[.string a, .string b])).run Tryd.prog w = .ok true w := eq44 a b w
  simp [binOp, Op.equal, pairA, e]

abbrev Row := Option (Value × Nat × List Value)
/-- Two rows of the call's own, apart from one another, where they stand already. -/
def AB (w0 W : World) (oa ob : Row) : Prop :=
  Below w0.heap.size w0 W ∧ (∀ x, oa = some x → W.ownsRow w0.heap.size 24 1 x.1 x.2.1 x.2.2) ∧ (∀ y, ob = some y → W.ownsRow w0.heap.size 24 1 y.1 y.2.1 y.2.2) ∧
    (∀ x y, oa = some x → ob = some y → ∀ k, x.1.ownBlock = some k → y.1.ownBlock ≠ some k)
theorem AB.swap {w0 W : World} {oa ob : Row} (h : AB w0 W oa ob) : AB w0 W ob oa :=
  ⟨h.1, h.2.2.1, h.2.1, fun x y hx hy k hk hk2 => h.2.2.2 y x hy hx k hk2 hk⟩
theorem ABn.bel {w0 W : World} (_ : True) (h : Below w0.heap.size w0 W) : AB w0 W none none :=
  ⟨h, fun _ e => (by cases e), fun _ e => (by cases e), fun _ _ e => (by cases e)⟩
theorem own_alone (W : World) (base : Nat) (hb : base ≤ W.heap.size) (u : Value) : (W.alloc (.cells #[u] 24)).ownsRow base 24 1 (.slice (some ⟨W.heap.size, 0, none⟩) 1 1) 1 [u] := by
  refine ⟨rfl, .inr ⟨W.heap.size, 1, #[u], rfl, hb, ?_, Nat.le_refl _, by simp [maxLen], rfl, rfl⟩⟩
  exact Whole.new W 24 #[u]
theorem AB.build {w0 W : World} {ob : Row} (h : AB w0 W none ob) (u : Value) : AB w0 (W.alloc (.cells #[u] 24)) (some (.slice (some ⟨W.heap.size, 0, none⟩) 1 1, 1, [u])) ob := by
  have ho : Only Nob W (W.alloc (.cells #[u] 24)) := (Only.refl Nob W).alloc _
  refine ⟨h.1.alloc h.1.size _, fun x e => ?_, fun y e => own_only (h.2.2.1 y e) ho (fun k _ hk => hk), fun x y ex ey k hk hk2 => ?_⟩
  · cases e; exact own_alone W _ h.1.size u
  · cases ex
    obtain ⟨_, cs, hw⟩ := own_whole (h.2.2.1 y ey) hk2
    have hlt := hw.lt
    have : k = W.heap.size := by simpa [Value.ownBlock] using hk.symm
    omega
theorem step_app {w : World} (w0 : World) {ops : Array Oper} {o : Oper} {a : Act} {K : Act → World → Prop} {Q : Exit → Act → World → Prop} {E : Prop} (hgd : o.guard = none) (s x : Operand)
    (ho : o.op = .call { callee := .builtin .append, args := #[s, x], argTypes := #[25, 25] })
    (v : Value) (n : Nat) (xs : List Value) (ob : Row) (hAB : AB w0 w (some (v, n, xs)) ob) (hs : a.eval s = v)
    (A : Option Addr) (m c : Nat) (news : List Value) (hr : Seen w0 w0.heap.size 1 A m c news) (hx : a.eval x = .slice A m c) (h1 : ∀ u ∈ news, u.oneCell' = true) (hnm : n + m ≤ 1000000)
    (h : ∀ A' c' w', AB w0 w' (some (.slice A' (n + m) c', n + m, xs ++ news)) ob → K (a.put o.dst (.slice A' (n + m) c')) w') :
    if Region.wanted o (yielded ops a.tmps) = true then Oper.wp Tryd.prog o a w K Q else E := by
  have hw : Region.wanted o (yielded ops a.tmps) = true := by simp [Region.wanted, hgd]
  rw [if_pos hw]
  obtain ⟨i0, hi0, hz0, hz1, hz2⟩ := info_parts slice_info
  have hown := hAB.2.1 _ rfl
  obtain ⟨v', w', hrun, h2, h3, h4⟩ := run_append_seen (P := Tryd.prog) w w0.heap.size 25 o.type 24 i0 _ 1 24 Tryd.underlying25 hi0 hz0 hz1 hz2 rfl (by omega) v n xs hown w0.heap.size A m c news (hr.below hAB.1) h1 (by simp [maxLen]; omega) (by omega) hAB.1.size
  obtain ⟨A', c', rfl, _⟩ := own_form h2
  have hrow : ∀ k, v.ownBlock = some k → w0.heap.size ≤ k := fun k hk => (own_whole hown hk).1
  unfold Oper.wp
  simp [execOp, ho, resolve, invoke, builtin, hs, hx, hrun, Result.andThen]
  have hnew : ∀ k, (Value.slice A' (n + m) c').ownBlock = some k → v.ownBlock = some k ∨ k = w.heap.size := by
    intro k hk
    rcases h4 with h4 | h4
    · exact .inl (h4.symm.trans hk)
    · exact .inr (Option.some.inj (h4.symm.trans hk)).symm
  have hO : Only (fun k => v.ownBlock = some k) w w' := (Only.refl _ w).grown h3 (fun k hk _ => hk)
  refine h A' c' w' ⟨hAB.1.grown h3 hAB.1.size hrow, fun x e => (by cases e; exact h2), fun y e => own_only (hAB.2.2.1 y e) hO (fun k hk hk2 => hAB.2.2.2 _ y rfl e k hk2 hk), fun x y ex ey k hk hk2 => ?_⟩
  cases ex
  rcases hnew k hk with e | e
  · exact hAB.2.2.2 _ y rfl ey k e hk2
  · obtain ⟨_, cs, hw⟩ := own_whole (hAB.2.2.1 y ey) hk2
    have hlt := hw.lt
    omega
end Go.Proofs.YteadhiehhpafjaaDoor
