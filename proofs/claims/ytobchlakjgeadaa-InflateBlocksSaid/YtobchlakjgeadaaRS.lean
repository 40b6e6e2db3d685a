/-
  Memory while the document inflates: its state, its reader, what came out; which blocks may change. Contracts of fail, get, sign. Conditions: each theorem names its own.
-/
import Derived.Test.YtobchlakjgeadaaQ
import Derived.Test.YtobchlakjgeadaaTF
namespace Go.Proofs.Ytobchlakjgeadaa
open Go.RowKit
set_option maxRecDepth 100000

/-- Only blocks of the document's readers, states and bytes, from block B on, may have changed. -/
structure Fq (B : Nat) (w w' : World) : Prop where
  os : w'.os = w.os
  tape : w'.tape = w.tape
  output : w'.output = w.output
  size : w.heap.size ≤ w'.heap.size
  block : ∀ k, k < w.heap.size → w'.heap[k]? = w.heap[k]? ∨ (B ≤ k ∧ ∃ t cs, Whole w k t cs ∧ (t = 59 ∨ t = 61 ∨ t = 5))

section
variable {B : Nat} {a b c w w' : World} {S : Nat → Prop}
theorem Fq.refl (B : Nat) (w : World) : Fq B w w := ⟨rfl, rfl, rfl, Nat.le_refl _, fun _ _ => .inl rfl⟩
theorem Fq.trans (h : Fq B a b) (k : Fq B b c) : Fq B a c := by
  refine ⟨k.os.trans h.os, k.tape.trans h.tape, k.output.trans h.output, Nat.le_trans h.size k.size, fun i hi => ?_⟩
  have hk := k.block i (Nat.lt_of_lt_of_le hi h.size)
  rcases h.block i hi with e | h1
  · rcases hk with e2 | ⟨hB, t, cs, h1, ht⟩
    · exact .inl (e2.trans e)
    · exact .inr ⟨hB, t, cs, e.symm.trans h1, ht⟩
  · exact .inr h1
theorem Fq.of_only (h : Only S w w') (hS : ∀ k, k < w.heap.size → S k → B ≤ k ∧ ∃ t cs, Whole w k t cs ∧ (t = 59 ∨ t = 61 ∨ t = 5)) : Fq B w w' := by
  refine ⟨h.os, h.tape, h.output, h.size, fun i hi => ?_⟩
  by_cases hs : S i
  · exact .inr (hS i hi hs)
  · exact .inl (h.block i hi hs)
theorem Fq.of_below (h : Below w.heap.size w w') (B : Nat) : Fq B w w' := ⟨h.os, h.tape, h.output, h.size, fun i hi => .inl (h.block i hi)⟩
theorem Fq.below (h : Fq B w w') (hB : B ≤ w.heap.size) : Below B w w' := by
  refine ⟨h.os, h.tape, h.output, h.size, fun i hi => ?_⟩
  rcases h.block i (by omega) with e | ⟨hB, _⟩
  · exact e
  · omega
theorem Fq.only (h : Fq B w w') : Only (fun k => ∃ t cs, Whole w k t cs ∧ (t = 59 ∨ t = 61 ∨ t = 5)) w w' := by
  refine ⟨h.os, h.tape, h.output, h.size, fun i hi hn => ?_⟩
  rcases h.block i hi with e | ⟨_, t, cs, h1, ht⟩
  · exact e
  · exact absurd ⟨t, cs, h1, ht⟩ hn
theorem Fq.own (h : Fq B w w') {lo n : Nat} {e : TypeId} {v : Value} {xs : List Value} (hr : w.ownsRow lo e 1 v n xs) (h1 : e ≠ 59) (h2 : e ≠ 61) (h3 : e ≠ 5) : w'.ownsRow lo e 1 v n xs :=
  own_only hr h.only (fun k hk hs => by
    obtain ⟨_, cs', hw⟩ := own_whole hr hk
    obtain ⟨t, cs, ht, hh⟩ := hs
    rcases hh with rfl | rfl | rfl
    · exact hw.ne ht h1 rfl
    · exact hw.ne ht h2 rfl
    · exact hw.ne ht h3 rfl)
end


theorem Fq.whole {B : Nat} {w w' : World} {g : Nat} {t : TypeId} {cs : Array Value} (h : Fq B w w') (hw : Whole w g t cs) (h1 : t ≠ 59) (h2 : t ≠ 61) (h3 : t ≠ 5) : Whole w' g t cs :=
  hw.only h.only (fun hs => by
    obtain ⟨t', cs', ht, hh⟩ := hs
    rcases hh with rfl | rfl | rfl
    · exact hw.ne ht h1 rfl
    · exact hw.ne ht h2 rfl
    · exact hw.ne ht h3 rfl)
theorem Fq.past {B : Nat} {a b c : World} (h : Fq B a b) (k : Below a.heap.size b c) : Fq B a c :=
  ⟨k.os.trans h.os, k.tape.trans h.tape, k.output.trans h.output, Nat.le_trans h.size k.size, fun i hi => by rw [k.block i hi]; exact h.block i hi⟩
theorem Fq.drew {B : Nat} {u w : World} (h : Fq B u w) : Fq B u w.drew := ⟨h.os, h.tape, h.output, h.size, h.block⟩
theorem Fq.undrew {B : Nat} {w w' : World} (h : Fq B w.drew w') : Fq B w w' := ⟨h.os, h.tape, h.output, h.size, h.block⟩

/-- Where the document's inflating has its things. -/
structure Rx where
  B0 : Nat
  B1 : Nat
  gs : Nat
  gr : Nat
  rv : Value
  bs : List Nat
  most : Nat
abbrev Rx.L (c : Rx) : List Bool := unpack c.bs
structure Rx.Good (c : Rx) : Prop where
  long : c.bs.length ≤ 100000
  bytes : ∀ x ∈ c.bs, x < 256
  most : c.most ≤ 16777216
  gr : c.gr < c.B1
  gs : c.gs < c.B1
  lo : c.B0 ≤ c.gs
  lo1 : c.B0 ≤ c.B1

/-- The document's state stands. -/
structure RSt (c : Rx) (w : World) (ov : Value) (a : Nat) (o : List Nat) (e : Nat) : Prop where
  st : Whole w c.gs 61 #[.pointer (some ⟨c.gr, 0, none⟩), ov, .int .i64 c.most, .int .i64 e]
  rd : RefAt w c.B0 c.gr c.rv c.L a
  out : w.ownsRow c.B1 5 1 ov o.length (bx o)
  size : c.B1 ≤ w.heap.size
  place : a ≤ 8 * c.bs.length
  room : o.length ≤ c.most

section
variable {c : Rx} {w w' : World} {ov : Value} {a a' e e' : Nat} {o : List Nat}
theorem RSt.c0 (h : RSt c w ov a o e) : w.cell? ⟨c.gs, 0, none⟩ = some (.pointer (some ⟨c.gr, 0, none⟩)) := h.st.cell 0
theorem RSt.c1 (h : RSt c w ov a o e) : w.cell? ⟨c.gs, 1, none⟩ = some ov := h.st.cell 1
theorem RSt.c2 (h : RSt c w ov a o e) : w.cell? ⟨c.gs, 2, none⟩ = some (.int .i64 c.most) := h.st.cell 2
theorem RSt.c3 (h : RSt c w ov a o e) : w.cell? ⟨c.gs, 3, none⟩ = some (.int .i64 e) := h.st.cell 3
theorem RSt.drew (h : RSt c w ov a o e) : RSt c w.drew ov a o e := ⟨h.st, h.rd, h.out, h.size, h.place, h.room⟩
theorem RSt.drewN (h : RSt c w ov a o e) (n : Nat) : RSt c (w.drewN n) ov a o e := ⟨h.st, h.rd, h.out, h.size, h.place, h.room⟩
theorem RefAt.keepOnly {B g : Nat} {sv : Value} {l : List Bool} {S : Nat → Prop} (h : RefAt w B g sv l a) (ho : Only S w w') (hg : ¬ S g) (hs : ∀ k, sv.ownBlock = some k → ¬ S k) : RefAt w' B g sv l a :=
  ⟨h.1, h.2.1.only ho hg, own_only h.2.2 ho hs⟩
theorem RSt.below (h : RSt c w ov a o e) (hb : Below w.heap.size w w') : RSt c w' ov a o e := by
  have hO : Only Nob w w' := Only.of_below hb _
  exact ⟨h.st.only hO (fun h => h), h.rd.keepOnly hO (fun h => h) (fun _ _ h => h), own_only h.out hO (fun _ _ h => h), Nat.le_trans h.size hb.size, h.place, h.room⟩
theorem RSt.read (h : RSt c w ov a o e) (hr : RefAt w' c.B0 c.gr c.rv c.L a') (ho : Only (fun k => k = c.gr) w w') (ha : a' ≤ 8 * c.bs.length) : RSt c w' ov a' o e ∧ Fq c.B0 w w' := by
  have hF : Fq c.B0 w w' := Fq.of_only ho (fun k _ hk => by
    subst hk
    exact ⟨h.rd.1, 59, _, h.rd.2.1, .inl rfl⟩)
  exact ⟨⟨h.st.only ho (h.st.ne h.rd.2.1 (by decide)), hr, own_only h.out ho (fun k hk => own_ne_whole h.out h.rd.2.1 (by decide) k hk), Nat.le_trans h.size ho.size, ha, h.room⟩, hF⟩
/-- An error is set down. -/
theorem RSt.err (hg : c.Good) (h : RSt c w ov a o e) (e' : Nat) : RSt c (w.setCell ⟨c.gs, 3, none⟩ (.int .i64 e')) ov a o e' ∧ Fq c.B0 w (w.setCell ⟨c.gs, 3, none⟩ (.int .i64 e')) := by
  have hO := (Only.refl (fun k => k = c.gs) w).setCell (p := ⟨c.gs, 3, none⟩) (.inl rfl) (.int .i64 e')
  have hF : Fq c.B0 w (w.setCell ⟨c.gs, 3, none⟩ (.int .i64 e')) := Fq.of_only hO (fun k _ hk => by
    subst hk
    exact ⟨hg.lo, 61, _, h.st, .inr (.inl rfl)⟩)
  refine ⟨⟨by simpa using h.st.put 3 (.int .i64 e'), h.rd.keepOnly hO (fun e => h.st.ne h.rd.2.1 (by decide) e.symm) (fun k hk e => own_ne_whole h.rd.2.2 h.st (by decide) k hk e), own_only h.out hO (fun k hk => own_ne_whole h.out h.st (by decide) k hk), Nat.le_trans h.size hF.size, h.place, h.room⟩, hF⟩
/-- Something more came out. -/
theorem RSt.push {w1 : World} {v1 : Value} {o' : List Nat} (hg : c.Good) (h : RSt c w ov a o e) (hgr : w.grownBy w1 ov.ownBlock) (hown : w1.ownsRow c.B1 5 1 v1 o'.length (bx o')) (hr : o'.length ≤ c.most) :
    RSt c (w1.setCell ⟨c.gs, 1, none⟩ v1) v1 a o' e ∧ Fq c.B0 w (w1.setCell ⟨c.gs, 1, none⟩ v1) := by
  have hlt := h.out.lt
  have hne := own_ne_whole h.out h.st (by decide)
  have hO : Only (fun k => k = c.gs ∨ ov.ownBlock = some k) w w1 := (Only.refl _ w).grown hgr (fun k hk _ => .inr hk)
  have hO2 := hO.setCell (p := ⟨c.gs, 1, none⟩) (.inl (.inl rfl)) v1
  have hF : Fq c.B0 w (w1.setCell ⟨c.gs, 1, none⟩ v1) := Fq.of_only hO2 (fun k _ hk => by
    rcases hk with rfl | hk
    · exact ⟨hg.lo, 61, _, h.st, .inr (.inl rfl)⟩
    · obtain ⟨hb, cs, hw⟩ := own_whole h.out hk
      exact ⟨Nat.le_trans hg.lo1 hb, 5, cs, hw, .inr (.inr rfl)⟩)
  have hst1 : Whole w1 c.gs 61 #[.pointer (some ⟨c.gr, 0, none⟩), ov, .int .i64 c.most, .int .i64 e] := h.st.grown hgr (fun e => hne c.gs e.symm rfl)
  refine ⟨⟨by simpa using hst1.put 1 v1, ?_, ?_, Nat.le_trans h.size hF.size, h.place, hr⟩, hF⟩
  · refine h.rd.keepOnly hO2 ?_ ?_
    · rintro (e | e)
      · exact h.st.ne h.rd.2.1 (by decide) e.symm
      · have := (hlt _ e).1
        have := hg.gr
        omega
    · rintro k hk (e | e)
      · exact own_ne_whole h.rd.2.2 h.st (by decide) k hk e
      · exact own_ne_own h.out h.rd.2.2 (by decide) k e hk
  · refine own_only hown ((Only.refl (fun k => k = c.gs) w1).setCell (p := ⟨c.gs, 1, none⟩) (.inl rfl) v1) (fun k hk => own_ne_whole hown hst1 (by decide) k hk)
end

theorem rfail_any {c : Rx} (hg : c.Good) (ov : Value) (a : Nat) (o : List Nat) (e er : Nat) (w : World) (h : RSt c w ov a o e) :
    Calls Try.prog 27 #[.pointer (some ⟨c.gs, 0, none⟩), .int .i64 er] w fun r w' => r = .returned (.tuple #[]) ∧ RSt c w' ov a o (if e = 0 then er else e) ∧ Fq c.B0 w w' := by
  have c3 := h.c3
  have z3 := h.st.frozen 3
  have HE := Lib.hid (h.err hg er)
  have H := Lib.hid h; clear h
  by_cases h0 : e = 0
  · subst h0
    rw [if_pos rfl]
    go_enter Try.func27, Try.ntmps27
    go_wp2
    go_end0
    exact ⟨rfl, HE.out⟩
  · rw [if_neg h0]
    have d0 : (e == 0) = false := by simpa using h0
    have d1 : ((e : Int) == 0) = false := by simp; omega
    go_enter Try.func27, Try.ntmps27
    go_wp2
    go_end0
    exact ⟨rfl, H.out, Fq.refl _ _⟩

theorem rget_no {c : Rx} (ov : Value) (a : Nat) (o : List Nat) (e n : Nat) (he : e ≠ 0) (w : World) (h : RSt c w ov a o e) :
    Calls Try.prog 22 #[.pointer (some ⟨c.gs, 0, none⟩), .int .i64 n] w fun r w' => r = .returned (.int .i64 0) ∧ w' = w := by
  have c3 := h.c3
  clear h
  have d0 : (e == 0) = false := by simpa using he
  have d1 : ((e : Int) == 0) = false := by simp; omega
  have d2 : ¬ (e : Int) = 0 := by omega
  go_enter Try.func22, Try.ntmps22
  go_wp2
  go_ret
  exact ⟨rfl, rfl⟩

theorem rget_any {c : Rx} (hg : c.Good) (ov : Value) (a : Nat) (o : List Nat) (n : Nat) (hn : n ≤ 16) (w : World) (h : RSt c w ov a o 0) :
    Calls Try.prog 22 #[.pointer (some ⟨c.gs, 0, none⟩), .int .i64 n] w fun r w' => ∃ v er a' : Nat, r = .returned (.int .i64 v) ∧ RSt c w' ov a' o er ∧ Fq c.B0 w w' ∧
      ((er = 0 ∧ bitsAt c.L a n = .ok v ∧ v < 2 ^ n ∧ a' = a + n) ∨ (er = 6 ∧ v = 0 ∧ bitsAt c.L a n = .er 6)) := by
  have c3 := h.c3
  have c0 := h.c0
  have hl := hg.long
  by_cases hle : a + n ≤ 8 * c.bs.length
  · have CG := Lib.hid (refGet_yes c.B0 c.gr c.rv c.L a n w h.rd (by simp; omega) (by omega) (by simpa using hle))
    have hb : bitsAt c.L a n = .ok (num ((c.L.drop a).take n)) := by unfold bitsAt; rw [if_pos (by simpa using hle)]
    have hv := num_lt ((c.L.drop a).take n)
    rw [show ((c.L.drop a).take n).length = n by simp; omega] at hv
    have hp : 2 ^ n ≤ 65536 := Nat.pow_le_pow_right (n := 2) (i := n) (j := 16) (by omega) hn
    obtain ⟨v, hvv⟩ : ∃ v, num ((c.L.drop a).take n) = v := ⟨_, rfl⟩
    rw [hvv] at CG hb hv
    have HB := Lib.hid hb
    have HV := Lib.hid hv
    have hv2 : v < 65536 := by omega
    have H := Lib.hid h; clear h hvv hb hv hp
    have wv : IntKind.i64.wrap (v : Int) = v := IntWalk.i64_in _ (by omega)
    go_enter Try.func22, Try.ntmps22
    go_wp2_with fail
    refine CG.out.mono ?_
    rintro r w1 ⟨rfl, hr, ho⟩
    have S1 := Lib.hid (H.out.read hr ho hle)
    clear hr ho
    go_wp2_with fail
    refine (rfail_any hg ov (a + n) o 0 0 w1 S1.out.1).mono ?_
    rintro r w2 ⟨rfl, hs2, hf2⟩
    have S2 := Lib.hid hs2
    have F2 := Lib.hid (S1.out.2.trans hf2)
    clear hs2 hf2
    go_wp2_with fail
    go_ret
    exact ⟨v, 0, a + n, rfl, S2.out, F2.out, .inl ⟨rfl, HB.out, HV.out, rfl⟩⟩
  · have CG := Lib.hid (refGet_end c.B0 c.gr c.rv c.L a n w h.rd (by simpa using h.place) (by omega) (by have := h.place; simp; omega))
    have HB : Hid (bitsAt c.L a n = .er 6) := Lib.hid (by unfold bitsAt; rw [if_neg (by simpa using hle)])
    have H := Lib.hid h; clear h
    go_enter Try.func22, Try.ntmps22
    go_wp2_with fail
    refine CG.out.mono ?_
    rintro r w1 ⟨rfl, rfl⟩
    go_wp2_with fail
    refine (rfail_any hg ov a o 0 6 w.drew H.out.drew).mono ?_
    rintro r w2 ⟨rfl, hs2, hf2⟩
    have S2 := Lib.hid hs2
    have F2 := Lib.hid hf2.undrew
    clear hs2 hf2
    go_wp2_with fail
    go_ret
    exact ⟨0, 6, a, rfl, S2.out, F2.out, .inr ⟨rfl, rfl, HB.out⟩⟩

theorem rsign_no {c : Rx} (ov : Value) (a : Nat) (o : List Nat) (e : Nat) (he : e ≠ 0) (W : Value) (w : World) (h : RSt c w ov a o e) :
    Calls Try.prog 43 #[.pointer (some ⟨c.gs, 0, none⟩), W] w fun r w' => r = .returned (.int .i64 0) ∧ w' = w := by
  have c3 := h.c3
  clear h
  have d0 : (e == 0) = false := by simpa using he
  have d1 : ((e : Int) == 0) = false := by simp; omega
  have d2 : ¬ (e : Int) = 0 := by omega
  go_enter Try.func43, Try.ntmps43
  go_wp2
  go_ret
  exact ⟨rfl, rfl⟩

theorem rsign_any {c : Rx} (hg : c.Good) (ov : Value) (a : Nat) (o : List Nat) (l : List Int) (n : Nat) (hn : l.length = n) (hl : n ≤ 1000) (hr : kindOf l ≠ 0) (A : Option Addr) (cp lo : Nat) (w : World) (hw : w.ownsRow lo 9 1 (.slice A n cp) n (twords l n)) (h : RSt c w ov a o 0) :
    Calls Try.prog 43 #[.pointer (some ⟨c.gs, 0, none⟩), .slice A n cp] w fun r w' => ∃ j er a' : Nat, r = .returned (.int .i64 j) ∧ RSt c w' ov a' o er ∧ Fq c.B0 w w' ∧
      ((er = 0 ∧ signAt l c.L a = .ok (j, a') ∧ j < n ∧ a < a' ∧ a' ≤ 8 * c.bs.length) ∨ (0 < er ∧ er < 100 ∧ j = 0 ∧ signAt l c.L a = .er er)) := by
  have c3 := h.c3
  have c0 := h.c0
  have hlo := hg.long
  have CG := Lib.hid (codeRefGet_any A cp w.heap.size l n hn hl hr c.B0 c.gr c.rv c.L a w (Seen.of_own hw) (Nat.le_refl _) h.rd (by simp; omega) (by simpa using h.place))
  have HR := Lib.hid hr
  have HN := Lib.hid hn
  have H := Lib.hid h; clear h hw hr hn
  go_enter Try.func43, Try.ntmps43
  go_wp2_with fail
  refine CG.out.mono ?_
  rintro r w1 ⟨j, er, m, hgot, rfl, hrd, ho⟩
  have hcase : (er = 0 ∧ signAt l c.L a = .ok (j, a + m) ∧ j < n ∧ a < a + m ∧ a + m ≤ 8 * c.bs.length) ∨ (0 < er ∧ er < 100 ∧ j = 0 ∧ m = 0 ∧ signAt l c.L a = .er er) := by
    unfold CodeGot at hgot
    cases hLk : lookup l (c.L.drop a) with
    | found m' v =>
      rw [hLk] at hgot
      obtain ⟨h1, h2, h3, rfl, rfl⟩ := hgot
      obtain ⟨k1, k2, k3⟩ := signAt_found HR.out hLk h1 h2 h3
      have k4 : a + m ≤ 8 * c.bs.length := by have := H.out.place; simp at k3; omega
      exact .inl ⟨rfl, k1, by have := HN.out; omega, by omega, k4⟩
    | code =>
      rw [hLk] at hgot
      obtain ⟨rfl, rfl, rfl⟩ := hgot
      exact .inr ⟨by omega, by omega, rfl, rfl, by unfold signAt; rw [hLk]⟩
    | fin =>
      rw [hLk] at hgot
      obtain ⟨rfl, rfl, rfl⟩ := hgot
      exact .inr ⟨by omega, by omega, rfl, rfl, by unfold signAt; rw [hLk]⟩
  have hpl : a + m ≤ 8 * c.bs.length := by
    rcases hcase with h | h
    · exact h.2.2.2.2
    · have := H.out.place; omega
  have S1 := Lib.hid (H.out.read hrd ho hpl)
  have CS := Lib.hid hcase
  clear hgot hrd ho hcase
  go_wp2_with fail
  refine (rfail_any hg ov (a + m) o 0 er w1 S1.out.1).mono ?_
  rintro r w2 ⟨rfl, hs2, hf2⟩
  rw [if_pos rfl] at hs2
  have S2 := Lib.hid hs2
  have F2 := Lib.hid (S1.out.2.trans hf2)
  clear hs2 hf2
  go_wp2_with fail
  go_ret
  refine ⟨j, er, a + m, rfl, S2.out, F2.out, ?_⟩
  rcases CS.out with ⟨h1, h2, h3, h4, h5⟩ | ⟨h1, h2, h3, h4, h5⟩
  · exact .inl ⟨h1, h2, h3, h4, h5⟩
  · exact .inr ⟨h1, h2, h3, h5⟩
end Go.Proofs.Ytobchlakjgeadaa
