/-
  Memory while bytes are inflated: the state, its reader, what came out, codes; which blocks may change. Conditions: each theorem names its own.
-/
import Derived.Test.YtobchlakjgeadaaL
import Derived.Test.YtobchlakjgeadaaY
namespace Go.Proofs.Ytobchlakjgeadaa
open Go.RowKit
set_option maxRecDepth 100000

abbrev bx (l : List Nat) : List Value := l.map fun x : Nat => Value.int .u8 x

/-- Only blocks of readers, states and bytes, from block B on, may have changed. -/
structure Fr (B : Nat) (w w' : World) : Prop where
  os : w'.os = w.os
  tape : w'.tape = w.tape
  output : w'.output = w.output
  size : w.heap.size ≤ w'.heap.size
  block : ∀ k, k < w.heap.size → w'.heap[k]? = w.heap[k]? ∨ (B ≤ k ∧ ∃ t cs, Whole w k t cs ∧ (t = 75 ∨ t = 51 ∨ t = 5))

section
variable {B : Nat} {a b c w w' : World} {S : Nat → Prop}
theorem Fr.refl (B : Nat) (w : World) : Fr B w w := ⟨rfl, rfl, rfl, Nat.le_refl _, fun _ _ => .inl rfl⟩
theorem Fr.trans (h : Fr B a b) (k : Fr B b c) : Fr B a c := by
  refine ⟨k.os.trans h.os, k.tape.trans h.tape, k.output.trans h.output, Nat.le_trans h.size k.size, fun i hi => ?_⟩
  have hk := k.block i (Nat.lt_of_lt_of_le hi h.size)
  rcases h.block i hi with e | h1
  · rcases hk with e2 | ⟨hB, t, cs, h1, ht⟩
    · exact .inl (e2.trans e)
    · exact .inr ⟨hB, t, cs, e.symm.trans h1, ht⟩
  · exact .inr h1
theorem Fr.of_only (h : Only S w w') (hS : ∀ k, k < w.heap.size → S k → B ≤ k ∧ ∃ t cs, Whole w k t cs ∧ (t = 75 ∨ t = 51 ∨ t = 5)) : Fr B w w' := by
  refine ⟨h.os, h.tape, h.output, h.size, fun i hi => ?_⟩
  by_cases hs : S i
  · exact .inr (hS i hi hs)
  · exact .inl (h.block i hi hs)
theorem Fr.of_below (h : Below w.heap.size w w') (B : Nat) : Fr B w w' := ⟨h.os, h.tape, h.output, h.size, fun i hi => .inl (h.block i hi)⟩
theorem Fr.below (h : Fr B w w') (hB : B ≤ w.heap.size) : Below B w w' := by
  refine ⟨h.os, h.tape, h.output, h.size, fun i hi => ?_⟩
  rcases h.block i (by omega) with e | ⟨hB, _⟩
  · exact e
  · omega
theorem Fr.only (h : Fr B w w') : Only (fun k => ∃ t cs, Whole w k t cs ∧ (t = 75 ∨ t = 51 ∨ t = 5)) w w' := by
  refine ⟨h.os, h.tape, h.output, h.size, fun i hi hn => ?_⟩
  rcases h.block i hi with e | ⟨_, t, cs, h1, ht⟩
  · exact e
  · exact absurd ⟨t, cs, h1, ht⟩ hn
theorem Fr.code (h : Fr B w w') {lo g : Nat} {l : List Int} {n : Nat} (hc : CodeOwn w lo g l n) : CodeOwn w' lo g l n :=
  hc.only h.only (fun k hk _ => by
    obtain ⟨t, cs, h1, rfl | rfl | rfl⟩ := hk
    · exact ⟨_, cs, h1, by decide, by decide, by decide⟩
    · exact ⟨_, cs, h1, by decide, by decide, by decide⟩
    · exact ⟨_, cs, h1, by decide, by decide, by decide⟩)
theorem Fr.own (h : Fr B w w') {lo n : Nat} {e : TypeId} {v : Value} {xs : List Value} (hr : w.ownsRow lo e 1 v n xs) (h1 : e ≠ 75) (h2 : e ≠ 51) (h3 : e ≠ 5) : w'.ownsRow lo e 1 v n xs :=
  own_only hr h.only (fun k hk hs => by
    obtain ⟨_, cs', hw⟩ := own_whole hr hk
    obtain ⟨t, cs, ht, hh⟩ := hs
    rcases hh with rfl | rfl | rfl
    · exact hw.ne ht h1 rfl
    · exact hw.ne ht h2 rfl
    · exact hw.ne ht h3 rfl)
end

/-- Where an inflating has its things: blocks of its own from B0 on, what came out from B1 on; its state, its reader, the reader's row; the bytes; the most. -/
structure Cx where
  B0 : Nat
  B1 : Nat
  gs : Nat
  gr : Nat
  rv : Value
  bs : List Nat
  most : Nat

structure Cx.Good (c : Cx) : Prop where
  long : c.bs.length ≤ 100000
  bytes : ∀ x ∈ c.bs, x < 256
  most : c.most ≤ 16777216
  gr : c.gr < c.B1
  gs : c.gs < c.B1
  lo : c.B0 ≤ c.gs
  lo1 : c.B0 ≤ c.B1
  row : ∀ k, c.rv.ownBlock = some k → k < c.B1

abbrev Cx.L (c : Cx) : List Bool := unpack c.bs

/-- The fixed codes: not made yet, or made. -/
def Fx (w : World) (lo : Nat) (p q : Value) : Prop := (p = .pointer none ∧ q = .pointer none) ∨ ∃ g h, p = .pointer (some ⟨g, 0, none⟩) ∧ q = .pointer (some ⟨h, 0, none⟩) ∧ CodeOwn w lo g fixL 288 ∧ CodeOwn w lo h fixD 32

/-- The state stands: so many bits read, this came out. -/
structure StAt (c : Cx) (w : World) (ov p q : Value) (a : Nat) (o : List Nat) : Prop where
  st : Whole w c.gs 51 #[.pointer (some ⟨c.gr, 0, none⟩), ov, .int .i64 c.most, p, q]
  rd : ReaderAt w c.B0 c.gr c.rv c.bs a
  out : w.ownsRow c.B1 5 1 ov o.length (bx o)
  fx : Fx w c.B1 p q
  size : c.B1 ≤ w.heap.size
  place : a ≤ 8 * c.bs.length
  room : o.length ≤ c.most

section
variable {c : Cx} {w w' : World} {ov p q : Value} {a a' : Nat} {o : List Nat} {B : Nat}
theorem Fx.keep (h : Fx w B p q) (hf : ∀ {g l n}, CodeOwn w B g l n → CodeOwn w' B g l n) : Fx w' B p q := by
  rcases h with h | ⟨g, h, e1, e2, h1, h2⟩
  · exact .inl h
  · exact .inr ⟨g, h, e1, e2, hf h1, hf h2⟩
theorem StAt.c0 (h : StAt c w ov p q a o) : w.cell? ⟨c.gs, 0, none⟩ = some (.pointer (some ⟨c.gr, 0, none⟩)) := h.st.cell 0
theorem StAt.c1 (h : StAt c w ov p q a o) : w.cell? ⟨c.gs, 1, none⟩ = some ov := h.st.cell 1
theorem StAt.c2 (h : StAt c w ov p q a o) : w.cell? ⟨c.gs, 2, none⟩ = some (.int .i64 c.most) := h.st.cell 2
theorem StAt.c3 (h : StAt c w ov p q a o) : w.cell? ⟨c.gs, 3, none⟩ = some p := h.st.cell 3
theorem StAt.c4 (h : StAt c w ov p q a o) : w.cell? ⟨c.gs, 4, none⟩ = some q := h.st.cell 4
theorem StAt.f1 (h : StAt c w ov p q a o) : w.frozen? ⟨c.gs, 1, none⟩ = false := h.st.frozen 1
theorem StAt.drew (h : StAt c w ov p q a o) : StAt c w.drew ov p q a o := ⟨h.st, h.rd, h.out, h.fx, h.size, h.place, h.room⟩
theorem StAt.drewN (h : StAt c w ov p q a o) (n : Nat) : StAt c (w.drewN n) ov p q a o := ⟨h.st, h.rd, h.out, h.fx, h.size, h.place, h.room⟩
theorem Fr.drew {u : World} (h : Fr B u w) : Fr B u w.drew := ⟨h.os, h.tape, h.output, h.size, h.block⟩

/-- Nothing that was there has changed. -/
theorem StAt.below (h : StAt c w ov p q a o) (hb : Below w.heap.size w w') : StAt c w' ov p q a o := by
  have hO : Only Nob w w' := Only.of_below hb _
  exact ⟨h.st.only hO (fun h => h), h.rd.only hO (fun h => h) (fun _ _ h => h), own_only h.out hO (fun _ _ h => h), h.fx.keep (fun h => h.below hb), Nat.le_trans h.size hb.size, h.place, h.room⟩

/-- The reader has gone on. -/
theorem StAt.read (h : StAt c w ov p q a o) (hr : ReaderAt w' c.B0 c.gr c.rv c.bs a') (ho : Only (fun k => k = c.gr) w w') (ha : a' ≤ 8 * c.bs.length) : StAt c w' ov p q a' o ∧ Fr c.B0 w w' := by
  have hF : Fr c.B0 w w' := Fr.of_only ho (fun k _ hk => by
    subst hk
    exact ⟨h.rd.1, 75, _, h.rd.2.1, .inl rfl⟩)
  refine ⟨⟨h.st.only ho (h.st.ne h.rd.2.1 (by decide)), hr, own_only h.out ho (fun k hk => own_ne_whole h.out h.rd.2.1 (by decide) k hk), h.fx.keep (fun h => hF.code h), Nat.le_trans h.size ho.size, ha, h.room⟩, hF⟩

/-- Something more came out. -/
theorem StAt.push {w1 : World} {v1 : Value} {o' : List Nat} (hg : c.Good) (h : StAt c w ov p q a o) (hgr : w.grownBy w1 ov.ownBlock) (hown : w1.ownsRow c.B1 5 1 v1 o'.length (bx o')) (hr : o'.length ≤ c.most) :
    StAt c (w1.setCell ⟨c.gs, 1, none⟩ v1) v1 p q a o' ∧ Fr c.B0 w (w1.setCell ⟨c.gs, 1, none⟩ v1) := by
  have hlt := h.out.lt
  have hne := own_ne_whole h.out h.st (by decide)
  have hO : Only (fun k => k = c.gs ∨ ov.ownBlock = some k) w w1 := (Only.refl _ w).grown hgr (fun k hk _ => .inr hk)
  have hO2 := hO.setCell (p := ⟨c.gs, 1, none⟩) (.inl (.inl rfl)) v1
  have hF : Fr c.B0 w (w1.setCell ⟨c.gs, 1, none⟩ v1) := Fr.of_only hO2 (fun k _ hk => by
    rcases hk with rfl | hk
    · exact ⟨hg.lo, 51, _, h.st, .inr (.inl rfl)⟩
    · obtain ⟨hb, cs, hw⟩ := own_whole h.out hk
      exact ⟨Nat.le_trans hg.lo1 hb, 5, cs, hw, .inr (.inr rfl)⟩)
  have hst1 : Whole w1 c.gs 51 #[.pointer (some ⟨c.gr, 0, none⟩), ov, .int .i64 c.most, p, q] := h.st.grown hgr (fun e => hne c.gs e.symm rfl)
  refine ⟨⟨by simpa using hst1.put 1 v1, ?_, ?_, h.fx.keep (fun h => hF.code h), Nat.le_trans h.size hF.size, h.place, hr⟩, hF⟩
  · refine h.rd.only hO2 ?_ ?_
    · rintro (e | e)
      · exact h.st.ne h.rd.2.1 (by decide) e.symm
      · have := (hlt _ e).1
        have := hg.gr
        omega
    · rintro k hk (e | e)
      · exact own_ne_whole h.rd.2.2 h.st (by decide) k hk e
      · have := (hlt _ e).1
        have := hg.row k hk
        omega
  · refine own_only hown ((Only.refl (fun k => k = c.gs) w1).setCell (p := ⟨c.gs, 1, none⟩) (.inl rfl) v1) (fun k hk => own_ne_whole hown hst1 (by decide) k hk)
end

end Go.Proofs.Ytobchlakjgeadaa
