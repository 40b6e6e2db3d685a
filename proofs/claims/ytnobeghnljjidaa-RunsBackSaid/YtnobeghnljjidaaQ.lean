/-
  Memory while runs are parted into two rows of integers: a law on regions that draw, and what stands where. Conditions: each theorem names its own.
-/
import Derived.Test.YtnobeghnljjidaaF
namespace Go.Proofs.Ytnobeghnljjidaa
open Go.RowKit
set_option maxRecDepth 100000

theorem step_append_seen {P : Program} (w : World) {ops : Array Oper} {o : Oper} {a : Act} {K : Act → World → Prop} {Q : Exit → Act → World → Prop} {E : Prop} (hgd : o.guard = none) (s x : Operand) (t : TypeId)
    (ho : o.op = .call { callee := .builtin .append, args := #[s, x], argTypes := #[t, t] })
    (base : Nat) (e : TypeId) (i : TypeInfo) (z : Value) (size bytes : Nat) (ht : P.underlying t = some (.slice e)) (hi : P.info? e = some i) (hz : i.zero = some z)
    (hsize : i.size = size) (hby : i.bytes = bytes) (hzs : z.cells.size = size) (hsz : 0 < size)
    (v : Value) (n : Nat) (xs : List Value) (hs : a.eval s = v) (hown : w.ownsRow base e size v n xs)
    (B : Nat) (A : Option Addr) (m c : Nat) (news : List Value) (hx : a.eval x = .slice A m c) (hr : Seen w B size A m c news) (h1 : ∀ u ∈ news, u.oneCell' = true)
    (h63 : n + m ≤ maxLen) (hbytes : (n + m) * bytes ≤ 140737488355328) (hbase : base ≤ w.heap.size)
    (h : ∀ v' w', w'.ownsRow base e size v' (n + m) (xs ++ news) → w.grownBy w' v.ownBlock → (v'.ownBlock = v.ownBlock ∨ v'.ownBlock = some w.heap.size) → K (a.put o.dst v') w') :
    if Region.wanted o (yielded ops a.tmps) = true then Oper.wp P o a w K Q else E := by
  have hw : Region.wanted o (yielded ops a.tmps) = true := by simp [Region.wanted, hgd]
  rw [if_pos hw]
  obtain ⟨v', w', hrun, h2, h3, h4⟩ := run_append_seen (P := P) w base t o.type e i z size bytes ht hi hz hsize hby hzs hsz v n xs hown B A m c news hr h1 h63 hbytes hbase
  unfold Oper.wp
  simp [execOp, ho, resolve, invoke, builtin, hs, hx, hrun, Result.andThen]
  exact h v' w' h2 h3 h4

theorem seen_whole {W : World} {g : Nat} {v : Value} {t : TypeId} (h : Whole W g t #[v]) : Seen W (g + 1) 1 (some ⟨g, 0, none⟩) 1 1 [v] := by
  refine ⟨rfl, Nat.le_refl _, .inr ⟨_, rfl, fun _ => ⟨rfl, Nat.lt_succ_self _, fun j x hx => ?_⟩⟩⟩
  show _ = some x
  simp only [Nat.zero_add]
  rw [h.cell j]
  simpa using hx

/-- A run in block gp, two rows of one's own that lie apart, blocks that were built for them. -/
structure Two (W0 W : World) (gp : Nat) (a b : Int) (s : Value) (X : List Int) (t : Value) (Y : List Int) (bs : List (Nat × Int)) : Prop where
  P : Whole W gp 26 #[.int .i64 a, .int .i64 b]
  os : W.ownsRow W0.heap.size 3 1 s X.length (iv X)
  ot : W.ownsRow W0.heap.size 3 1 t Y.length (iv Y)
  ap : ∀ k, s.ownBlock = some k → t.ownBlock ≠ some k
  bl : Below W0.heap.size W0 W
  bs : ∀ p ∈ bs, Whole W p.1 3 #[.int .i64 p.2] ∧ s.ownBlock ≠ some p.1 ∧ t.ownBlock ≠ some p.1

section
variable {W0 W W' : World} {gp : Nat} {a b : Int} {s t : Value} {X Y : List Int} {bs : List (Nat × Int)}
theorem Two.drew (h : Two W0 W gp a b s X t Y bs) : Two W0 W.drew gp a b s X t Y bs :=
  ⟨h.P, h.os, h.ot, h.ap, below_drew h.bl, h.bs⟩
theorem Two.alloc (h : Two W0 W gp a b s X t Y bs) (v : Int) : Two W0 (W.alloc (.cells #[.int .i64 v] 3)) gp a b s X t Y ((W.heap.size, v) :: bs) := by
  have hB : Below W.heap.size W (W.alloc (.cells #[.int .i64 v] 3)) := (Below.refl _ _).alloc (Nat.le_refl _) _
  have hO := Only.of_below hB Nob
  refine ⟨h.P.only hO (fun h => h), own_only h.os hO (fun _ _ h => h), own_only h.ot hO (fun _ _ h => h), h.ap, h.bl.trans (hB.mono h.bl.size), ?_⟩
  intro p hp
  rcases List.mem_cons.1 hp with rfl | hp
  · refine ⟨Whole.new W 3 _, fun e => ?_, fun e => ?_⟩
    · obtain ⟨_, cs, hw⟩ := own_whole h.os e
      have := hw.lt
      simp at this
    · obtain ⟨_, cs, hw⟩ := own_whole h.ot e
      have := hw.lt
      simp at this
  · obtain ⟨h1, h2, h3⟩ := h.bs p hp
    exact ⟨h1.only hO (fun h => h), h2, h3⟩
theorem Two.push1 (h : Two W0 W gp a b s X t Y bs) (v : Int) {s' : Value} (hown : W'.ownsRow W0.heap.size 3 1 s' (X.length + 1) (iv X ++ [.int .i64 v])) (hg : W.grownBy W' s.ownBlock) (hat : s'.ownBlock = s.ownBlock ∨ s'.ownBlock = some W.heap.size) : Two W0 W' gp a b s' (X ++ [v]) t Y bs := by
  have hO : Only (fun i => s.ownBlock = some i) W W' := (Only.refl _ W).grown hg (fun k hk _ => hk)
  have hbl : Below W0.heap.size W0 W' := h.bl.grown hg h.bl.size (fun k hk => (own_whole h.os hk).1)
  refine ⟨h.P.only hO (fun e => own_ne_whole h.os h.P (by decide) _ e rfl), ?_, own_only h.ot hO (fun k hk e => h.ap k e hk), ?_, hbl, ?_⟩
  · rw [iv_append, List.length_append]
    exact hown
  · intro k hk e
    rcases hat with ha | ha
    · exact h.ap k (by rw [← ha]; exact hk) e
    · rw [ha] at hk
      injection hk with hk
      subst hk
      obtain ⟨_, cs, hw⟩ := own_whole h.ot e
      have := hw.lt
      simp at this
  · intro p hp
    obtain ⟨h1, h2, h3⟩ := h.bs p hp
    refine ⟨h1.only hO h2, ?_, h3⟩
    rcases hat with ha | ha
    · rw [ha]; exact h2
    · rw [ha]
      intro e
      injection e with e
      have := h1.lt
      omega
theorem Two.turn (h : Two W0 W gp a b s X t Y bs) : Two W0 W gp a b t Y s X bs :=
  ⟨h.P, h.ot, h.os, fun k hk e => h.ap k e hk, h.bl, fun p hp => ⟨(h.bs p hp).1, (h.bs p hp).2.2, (h.bs p hp).2.1⟩⟩
theorem Two.push2 (h : Two W0 W gp a b s X t Y bs) (v : Int) {t' : Value} (hown : W'.ownsRow W0.heap.size 3 1 t' (Y.length + 1) (iv Y ++ [.int .i64 v])) (hg : W.grownBy W' t.ownBlock) (hat : t'.ownBlock = t.ownBlock ∨ t'.ownBlock = some W.heap.size) : Two W0 W' gp a b s X t' (Y ++ [v]) bs :=
  (h.turn.push1 v hown hg hat).turn
end
end Go.Proofs.Ytnobeghnljjidaa
