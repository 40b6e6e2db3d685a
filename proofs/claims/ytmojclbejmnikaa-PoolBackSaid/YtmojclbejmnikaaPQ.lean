/-
  The program's readConstant. Conditions: the cursor stands as told, without an error, over at most a hundred thousand bytes.
-/
import Derived.Test.YtmojclbejmnikaaPO
import Derived.Test.YtmojclbejmnikaaYB
import Derived.Test.YtmojclbejmnikaaWD
namespace Go.Proofs.Ytmojclbejmnikaa
open Go Go.RowKit
set_option maxRecDepth 100000

theorem nums_any (B g : Nat) (sv : Value) (bs : List Nat) (hb : bs.length ≤ 100000) (h256 : ∀ x ∈ bs, x < 256) (W : World) (a : Nat) (err : Int) (n : Nat) (hn : n = 1 ∨ n = 2 ∨ n = 4 ∨ n = 8) (h : CursorAt W B g sv bs a err) (ha : a ≤ bs.length) :
    Calls Try.prog 24 #[.pointer (some ⟨g, 0, none⟩), .int .i64 n] W fun e w' => e = .returned (.int .u64 (num bs a err n).1) ∧ CursorAt w' B g sv bs (num bs a err n).2.1 (num bs a err n).2.2 ∧ Only (fun k => k = g) W w' := by
  have hw : decide (Wide (n : Int)) = true := by rw [decide_eq_true_iff]; unfold Wide; omega
  have := bigC_any B g sv bs a err n W h (by omega) ha h256
  rw [hw] at this
  exact this
theorem takes_any (B g : Nat) (sv : Value) (bs : List Nat) (hb : bs.length ≤ 100000) (W : World) (a : Nat) (err : Int) (n : Nat) (h : CursorAt W B g sv bs a err) (ha : a ≤ bs.length) :
    Calls Try.prog 43 #[.pointer (some ⟨g, 0, none⟩), .int .i64 n] W (TakeRes W B g sv bs (nxt bs a err n true)) := by
  have := takeC_any B g sv bs a err n W h (by omega) ha
  rw [decide_eq_true (by omega : (0 : Int) ≤ (n : Int))] at this
  exact this
/-- Where the reading of a constant stands: the cursor, what it will answer, the constant so far. -/
structure RC (w W : World) (B g R : Nat) (sv : Value) (bs : List Nat) (a : Nat) (err : Int) (r : Raw) : Prop where
  cur : CursorAt W B g sv bs a err
  res : Whole W w.heap.size 47 (rawA zr0)
  row : Whole W R 47 (rawA r)
  keep : Only (fun k => k = g) w W
  far : w.heap.size < R
  near : g < w.heap.size
section
variable {w W W' : World} {B g R : Nat} {sv : Value} {bs : List Nat} {a a' : Nat} {err err' : Int} {r : Raw}
theorem RC.below (h : RC w W B g R sv bs a err r) (hb : Below W.heap.size W W') : RC w W' B g R sv bs a err r :=
  ⟨h.cur.only (Only.of_below hb Nob) (fun _ _ h => h), h.res.bel hb, h.row.bel hb, h.keep.trans (Only.of_below hb _), h.far, h.near⟩
theorem RC.step (h : RC w W B g R sv bs a err r) (hC : CursorAt W' B g sv bs a' err') (hO : Only (fun k => k = g) W W') : RC w W' B g R sv bs a' err' r :=
  ⟨hC, h.res.only hO (fun e => by have := h.near; omega), h.row.only hO (fun e => by have := h.near; have := h.far; omega), h.keep.trans hO, h.far, h.near⟩
theorem RC.put (h : RC w W B g R sv bs a err r) (i : Nat) (u : Value) (r' : Raw) (hr : (rawA r).setIfInBounds i u = rawA r') : RC w (W.setCell ⟨R, i, none⟩ u) B g R sv bs a err r' := by
  have hO := (Only.refl (fun k => k = R) W).setCell (p := ⟨R, i, none⟩) (.inl rfl) u
  have h1 := h.near
  have h2 := h.far
  refine ⟨⟨h.cur.1, h.cur.2.1.far (p := ⟨R, i, none⟩) (by show g ≠ R; omega) u, own_only h.cur.2.2 hO (fun k hk e => own_ne_whole h.cur.2.2 h.row (by decide) k hk e)⟩, h.res.far (p := ⟨R, i, none⟩) (by show _ ≠ R; omega) u, ?_, h.keep.setCell (p := ⟨R, i, none⟩) (.inr (by show _ ≤ R; omega)) u, h.far, h.near⟩
  have := h.row.put i u
  rwa [hr] at this
end
theorem CursorAt.rowZ {w : World} {B g : Nat} {sv : Value} {bs : List Nat} {a : Nat} {err : Int} (h : CursorAt w B g sv bs a err) {Z : Nat} {cs : Array Value} (hZ : Whole w Z 47 cs) (c : Array Value) : CursorAt (w.setRow Z c) B g sv bs a err := by
  have hO : Only (fun k => k = Z) w (w.setRow Z c) := ⟨rfl, rfl, rfl, by simp, fun k hk hn => setRow_other w Z k c hn⟩
  exact ⟨h.1, h.2.1.setRow_far c (Whole.ne h.2.1 hZ (by decide)), own_only h.2.2 hO (fun k hk e => own_ne_whole h.2.2 hZ (by decide) k hk e)⟩
theorem Only.rowN {S : Nat → Prop} {a w : World} (h : Only S a w) {g : Nat} (hg : a.heap.size ≤ g) (cs : Array Value) : Only S a (w.setRow g cs) :=
  ⟨h.os, h.tape, h.output, by simpa using h.size, fun k hk hn => (setRow_other w g k cs (by omega)).trans (h.block k hk hn)⟩
theorem raw_size : (Try.prog.info? 47).map (·.size) = some 5 := by kernel_rfl
theorem raw_one (r : Raw) : (rawA r).all (·.oneCell') = true := by simp [rawA, Value.oneCell']
/-- What readConstant gives. -/
def ReadC (w : World) (B g : Nat) (sv : Value) (bs : List Nat) (o : Raw × Nat × Int) (e : Ending) (w' : World) : Prop :=
  e = .returned (.agg (rawA o.1)) ∧ CursorAt w' B g sv bs o.2.1 o.2.2 ∧ Only (fun k => k = g) w w'

set_option maxHeartbeats 32000000 in
theorem readC_any (B g : Nat) (sv : Value) (bs : List Nat) (a : Nat) (w : World) (h : CursorAt w B g sv bs a 0) (hb : bs.length ≤ 100000) (ha : a ≤ bs.length) (h256 : ∀ x ∈ bs, x < 256) :
    Calls Try.prog 25 #[.pointer (some ⟨g, 0, none⟩)] w (ReadC w B g sv bs (oneM bs a)) := by
  have NUM := Lib.hid (fun W a err n hn h ha => nums_any B g sv bs hb h256 W a err n hn h ha)
  have TAKE := Lib.hid (fun W a err n h ha => takes_any B g sv bs hb W a err n h ha)
  have hgl := h.2.1.lt
  obtain ⟨w0, hw0⟩ : ∃ W, w.alloc (.cells #[.int .i64 0, .string ⟨#[]⟩, .int .u64 0, .int .i64 0, .int .i64 0] 47) = W := ⟨_, rfl⟩
  obtain ⟨q, hq⟩ : ∃ q, w.heap.size = q := ⟨_, rfl⟩
  have hq0 : w0.heap.size = q + 1 := by rw [← hw0, World.size_alloc, hq]
  have Z0 : Hid (Whole w0 q 47 (rawA zr0)) := Lib.hid (hw0 ▸ hq ▸ Whole.new w 47 _)
  have B0 : Below w.heap.size w w0 := hw0 ▸ (Below.refl _ _).alloc (Nat.le_refl _) _
  have C0 := Lib.hid (h.only (Only.of_below B0 Nob) (fun _ _ h => h))
  have O0 : Hid (Only (fun k => k = g) w w0) := Lib.hid (Only.of_below B0 _)
  have N0 := Lib.hid (NUM.out w0 a 0 1 (.inl rfl) C0.out ha)
  have hlt0 := num_lt bs a 0 1 h256
  have hpl0 := num_place bs a 0 1 ha
  have ONE := one_cases bs a (t := (num bs a 0 1).1) (a1 := (num bs a 0 1).2.1) (e1 := (num bs a 0 1).2.2) rfl
  obtain ⟨p, hp⟩ : ∃ p, num bs a 0 1 = p := ⟨_, rfl⟩
  rw [hp] at N0 hlt0 hpl0 ONE
  obtain ⟨t, a1, e1⟩ := p
  simp only at N0 hlt0 hpl0 ONE
  obtain ⟨O, hO⟩ : ∃ O, oneM bs a = O := ⟨_, rfl⟩
  rw [hO] at ONE ⊢
  have wt : IntKind.i64.wrap (t : Int) = (t : Int) := IntWalk.i64_in _ (by omega)
  have HO := Lib.hid ONE
  have HH := Lib.hid (And.intro hgl (And.intro hlt0 (And.intro hpl0 hq0)))
  have HQ := Lib.hid hq
  clear h B0 hp hO ONE hgl hlt0 hpl0 hq hq0 ha
  go_enter Try.func25, Try.ntmps25
  go_upto_region 1 with fail
  rw [HQ.out]
  go_wp2_with fail
  refine N0.out.mono ?_
  rintro e w1 ⟨rfl, hC1, hO1⟩
  have hsz := hO1.size
  obtain ⟨w2, hw2'⟩ : ∃ W, (w1.alloc (.cells #[.int .i64 0, .string ⟨#[]⟩, .int .u64 0, .int .i64 0, .int .i64 0] 47)).setRow w1.heap.size (rawA ⟨t, ⟨#[]⟩, 0, 0, 0⟩) = W := ⟨_, rfl⟩
  have hw2 : w1.alloc (.cells (rawA ⟨t, ⟨#[]⟩, 0, 0, 0⟩) 47) = w2 := by rw [← hw2']; exact (World.setRow_alloc_new w1 _ _ _).symm
  have Z1 := Lib.hid (Whole.new w1 47 #[.int .i64 0, .string ⟨#[]⟩, .int .u64 0, .int .i64 0, .int .i64 0])
  obtain ⟨R, hR⟩ : ∃ R, w1.heap.size = R := ⟨_, rfl⟩
  rw [hR] at Z1 hw2'
  have hC2 : CursorAt w2 B g sv bs a1 e1 := hw2 ▸ hC1.only (Only.of_below ((Below.refl _ _).alloc (Nat.le_refl _) _) Nob) (fun _ _ h => h)
  have S2 : Hid (RC w w2 B g R sv bs a1 e1 ⟨t, ⟨#[]⟩, 0, 0, 0⟩) := Lib.hid (by
    refine ⟨hC2, ?_, hw2 ▸ hR ▸ Whole.new w1 47 _, (O0.out.trans hO1).trans (hw2 ▸ Only.of_below ((Below.refl _ _).alloc (Nat.le_refl _) _) _), ?_, HH.out.1⟩
    · rw [HQ.out, ← hw2]; exact (Z0.out.only hO1 (fun e => by have := HH.out.1; have := HQ.out; omega)).alloc _
    · have := HH.out.2.2.2; have := HQ.out; omega)
  have CON := Lib.hid (con_any ⟨t, ⟨#[]⟩, 0, 0, 0⟩ w2)
  clear hC1 hO1 hC2 hsz N0 hw2
  go_wp2_with (first | (refine wpList_store_row rfl 47 (.tmp 3) (.tmp 12) rfl R (rawA ⟨t, ⟨#[]⟩, 0, 0, 0⟩) rfl rfl 47 (rawA zr0) Z1.out rfl rfl (raw_one _) ?_) | ((try rw [hw2']); refine wpList_load_row rfl 47 (.tmp 3) rfl R rfl 47 (rawA ⟨t, ⟨#[]⟩, 0, 0, 0⟩) (0, 0) _ S2.out.row Try.underlying47 rfl rfl ?_))
  refine CON.out.mono ?_
  rintro e w3 ⟨rfl, hw3⟩
  have S3 : Hid (RC w w3 B g R sv bs a1 e1 ⟨t, ⟨#[]⟩, 0, 0, 0⟩) := Lib.hid (hw3 ▸ S2.out.below ((Below.refl _ _).alloc (Nat.le_refl _) _))
  obtain ⟨V, hV⟩ : ∃ V, ifc ⟨t, ⟨#[]⟩, 0, 0, 0⟩ = V := ⟨_, rfl⟩
  rw [hV]
  have ha1 := HH.out.2.2.1
  have r0 := ifc_cases ⟨t, ⟨#[]⟩, 0, 0, 0⟩
  simp only at r0
  rw [hV] at r0
  have HV := Lib.hid hV
  clear hV hw3 hw2' CON
  rcases r0 with ⟨h, rfl⟩ | ⟨h, rfl⟩ | ⟨h, rfl⟩ | ⟨h, rfl⟩ | ⟨h, rfl⟩ | ⟨h, rfl⟩ | ⟨h, rfl⟩ | ⟨h, rfl⟩
  · have f77 := fun (v : Value) w => asHit 77 v w n77
    have f80 := fun (v : Value) w => asMiss 80 77 v _ w n80 z80 (by decide)
    have f84 := fun (v : Value) w => asMiss 84 77 v _ w n84 z84 (by decide)
    have f85 := fun (v : Value) w => asMiss 85 77 v _ w n85 z85 (by decide)
    have f87 := fun (v : Value) w => asMiss 87 77 v _ w n87 z87 (by decide)
    have f89 := fun (v : Value) w => asMiss 89 77 v _ w n89 z89 (by decide)
    have hf : formM t = 116 := by rw [h]; rfl
    have HF := Lib.hid (And.intro h (HO.out.1 hf))
    have N1 := Lib.hid (NUM.out w3 a1 e1 2 (by omega) S3.out.cur ha1)
    have hlt1 := num_lt bs a1 e1 2 h256
    have hpl1 := num_place bs a1 e1 2 ha1
    obtain ⟨p1, hp1⟩ : ∃ p, num bs a1 e1 2 = p := ⟨_, rfl⟩
    rw [hp1] at N1 hlt1 hpl1 HF
    obtain ⟨m, a2, e2⟩ := p1
    simp only at N1 hlt1 hpl1 HF
    have wm : IntKind.i64.wrap (m : Int) = (m : Int) := IntWalk.i64_in _ (by omega)
    have HL := Lib.hid (And.intro hlt1 hp1)
    clear h hf hlt1 hp1
    go_wp2_with fail
    refine N1.out.mono ?_
    rintro e w4 ⟨rfl, hC4, hO4⟩
    have S4 := Lib.hid (S3.out.step hC4 hO4)
    clear hC4 hO4
    have T5 := Lib.hid (TAKE.out w4 a2 e2 m S4.out.cur hpl1)
    have hyl := nxt_short bs a2 e2 m true
    obtain ⟨y3, hy3⟩ : ∃ y, nxt bs a2 e2 m true = y := ⟨_, rfl⟩
    rw [hy3] at T5 HF hyl
    obtain ⟨y, a3, e3⟩ := y3
    simp only at T5 HF hyl
    have hyl2 : y.length ≤ 65535 := by have := HL.out.1; simp at hyl; omega
    clear hyl hpl1
    go_wp2_with fail
    refine T5.out.mono ?_
    rintro e w5 ⟨v5, rfl, ho5, hC5, hO5⟩
    have S5 := Lib.hid (S4.out.step hC5 hO5)
    obtain ⟨A5, c5, rfl, _, hs5⟩ := own_seen ho5
    have CV := conv_seen hs5
    have d1 : w5.cell? ⟨R, 1, none⟩ = some (.string ⟨#[]⟩) := S5.out.row.cell 1
    have d1f := S5.out.row.frozen 1
    have S6 := Lib.hid (S5.out.put 1 (.string (strOf y)) ⟨t, strOf y, 0, 0, 0⟩ rfl)
    clear hC5 hO5 ho5 hs5
    go_upto_region 8 with fail
    generalize w5.setCell ⟨R, 1, none⟩ (.string (strOf y)) = w6 at S6 ⊢
    have d2 : w6.cell? ⟨R, 1, none⟩ = some (.string (strOf y)) := S6.out.row.cell 1
    have RT := Lib.hid (right_any (y.map UInt8.ofNat) y.length (by simp) (by omega) w6)
    have F9 := Lib.hid (failC_any B g sv bs a3 e3 2 w6 S6.out.cur)
    have HY := Lib.hid hyl2
    obtain ⟨ok, hok⟩ : ∃ b, (unitsM (y.map UInt8.ofNat)).isSome = b := ⟨_, rfl⟩
    rw [hok] at RT HF
    clear hy3 hyl2 CV d1 d1f hok
    cases ok
    · go_wp2_with fail
      refine (show Calls Try.prog 44 #[.string (strOf y)] w6 _ from RT.out).mono ?_
      rintro e w7 ⟨rfl, rfl⟩
      go_wp2_with fail
      refine F9.out.mono ?_
      rintro e w8 ⟨rfl, hC8, hO8⟩
      have S8 := Lib.hid (S6.out.step hC8 hO8)
      clear hC8 hO8 d2
      go_wp2_with (first | (refine wpList_load_row rfl 47 (.tmp 3) rfl R rfl 47 (rawA ⟨t, strOf y, 0, 0, 0⟩) (0, 0) _ S8.out.row Try.underlying47 rfl rfl ?_) | (refine wpList_store_row rfl 47 (.tmp 2) (.tmp 67) rfl q (rawA ⟨t, strOf y, 0, 0, 0⟩) rfl rfl 47 (rawA zr0) (HQ.out ▸ S8.out.res) rfl rfl (raw_one _) ?_))
      refine bodyPost_ret (results_cell_row rfl _ _ q 47 (rawA ⟨t, strOf y, 0, 0, 0⟩) (0, 0) _ rfl (setRow_heap _ q (rawA zr0) (rawA ⟨t, strOf y, 0, 0, 0⟩) 47 _ (HQ.out ▸ S8.out.res)) Try.underlying47 rfl rfl) rfl ?_
      have hOO := HF.out.2
      rw [hOO, show (if e3 = 0 ∧ True then (2 : Int) else e3) = failed e3 2 by unfold failed; simp]
      exact ⟨rfl, S8.out.cur.rowZ (HQ.out ▸ S8.out.res) (rawA ⟨t, strOf y, 0, 0, 0⟩), S8.out.keep.rowN (by rw [HQ.out]; omega) (rawA ⟨t, strOf y, 0, 0, 0⟩)⟩
    · go_wp2_with fail
      refine (show Calls Try.prog 44 #[.string (strOf y)] w6 _ from RT.out).mono ?_
      rintro e w7 ⟨rfl, rfl⟩
      clear d2 F9
      go_wp2_with (first | (refine wpList_load_row rfl 47 (.tmp 3) rfl R rfl 47 (rawA ⟨t, strOf y, 0, 0, 0⟩) (0, 0) _ S6.out.row Try.underlying47 rfl rfl ?_) | (refine wpList_store_row rfl 47 (.tmp 2) (.tmp 67) rfl q (rawA ⟨t, strOf y, 0, 0, 0⟩) rfl rfl 47 (rawA zr0) (HQ.out ▸ S6.out.res) rfl rfl (raw_one _) ?_))
      refine bodyPost_ret (results_cell_row rfl _ _ q 47 (rawA ⟨t, strOf y, 0, 0, 0⟩) (0, 0) _ rfl (setRow_heap _ q (rawA zr0) (rawA ⟨t, strOf y, 0, 0, 0⟩) 47 _ (HQ.out ▸ S6.out.res)) Try.underlying47 rfl rfl) rfl ?_
      have hOO := HF.out.2
      rw [hOO, show (if e3 = 0 ∧ true = false then (2 : Int) else e3) = e3 by simp]
      exact ⟨rfl, S6.out.cur.rowZ (HQ.out ▸ S6.out.res) (rawA ⟨t, strOf y, 0, 0, 0⟩), S6.out.keep.rowN (by rw [HQ.out]; omega) (rawA ⟨t, strOf y, 0, 0, 0⟩)⟩
  · have f77 := fun (v : Value) w => asMiss 77 80 v _ w n77 z77 (by decide)
    have f80 := fun (v : Value) w => asHit 80 v w n80
    have f84 := fun (v : Value) w => asMiss 84 80 v _ w n84 z84 (by decide)
    have f85 := fun (v : Value) w => asMiss 85 80 v _ w n85 z85 (by decide)
    have f87 := fun (v : Value) w => asMiss 87 80 v _ w n87 z87 (by decide)
    have f89 := fun (v : Value) w => asMiss 89 80 v _ w n89 z89 (by decide)
    have hf : formM t = 52 := by rcases h with h | h <;> rw [h] <;> rfl
    have HF := Lib.hid (And.intro h (HO.out.2.1 hf))
    have N1 := Lib.hid (NUM.out w3 a1 e1 4 (by omega) S3.out.cur ha1)
    have hlt1 := num_lt bs a1 e1 4 h256
    obtain ⟨p1, hp1⟩ : ∃ p, num bs a1 e1 4 = p := ⟨_, rfl⟩
    rw [hp1] at N1 hlt1 HF
    obtain ⟨m, a2, e2⟩ := p1
    simp only at N1 hlt1 HF
    have HP1 := Lib.hid hp1
    clear h hf hlt1 hp1
    obtain ⟨w4, hw4⟩ : ∃ W, w3.alloc (.cells #[.int .u64 0, .int .i64 4] 80) = W := ⟨_, rfl⟩
    obtain ⟨g4, hg4⟩ : ∃ k, w3.heap.size = k := ⟨_, rfl⟩
    have S4 : Hid (RC w w4 B g R sv bs a1 e1 ⟨t, ⟨#[]⟩, 0, 0, 0⟩) := Lib.hid (hw4 ▸ S3.out.below ((Below.refl _ _).alloc (Nat.le_refl _) _))
    have k1 : w4.cell? ⟨g4, 1, none⟩ = some (.int .i64 4) := by rw [← hw4, ← hg4]; exact (Whole.new w3 80 #[.int .u64 0, .int .i64 4]).cell 1
    have N4 := Lib.hid (NUM.out w4 a1 e1 4 (by omega) S4.out.cur ha1)
    rw [HP1.out] at N4
    clear N1
    go_wp2_with fail
    refine N4.out.mono ?_
    rintro e w5 ⟨rfl, hC5, hO5⟩
    have S5 := Lib.hid (S4.out.step hC5 hO5)
    clear hC5 hO5 k1
    have d1 : w5.cell? ⟨R, 2, none⟩ = some (.int .u64 0) := S5.out.row.cell 2
    have d1f := S5.out.row.frozen 2
    have S6 := Lib.hid (S5.out.put 2 (.int .u64 m) ⟨t, ⟨#[]⟩, m, 0, 0⟩ rfl)
    go_upto_region 20 with fail
    generalize w5.setCell ⟨R, 2, none⟩ (.int .u64 m) = w6 at S6 ⊢
    clear d1 d1f
    go_wp2_with (first | (refine wpList_load_row rfl 47 (.tmp 3) rfl R rfl 47 (rawA ⟨t, ⟨#[]⟩, m, 0, 0⟩) (0, 0) _ S6.out.row Try.underlying47 rfl rfl ?_) | (refine wpList_store_row rfl 47 (.tmp 2) (.tmp 67) rfl q (rawA ⟨t, ⟨#[]⟩, m, 0, 0⟩) rfl rfl 47 (rawA zr0) (HQ.out ▸ S6.out.res) rfl rfl (raw_one _) ?_))
    refine bodyPost_ret (results_cell_row rfl _ _ q 47 (rawA ⟨t, ⟨#[]⟩, m, 0, 0⟩) (0, 0) _ rfl (setRow_heap _ q (rawA zr0) (rawA ⟨t, ⟨#[]⟩, m, 0, 0⟩) 47 _ (HQ.out ▸ S6.out.res)) Try.underlying47 rfl rfl) rfl ?_
    have hOO := HF.out.2
    rw [hOO]
    exact ⟨rfl, S6.out.cur.rowZ (HQ.out ▸ S6.out.res) (rawA ⟨t, ⟨#[]⟩, m, 0, 0⟩), S6.out.keep.rowN (by rw [HQ.out]; omega) (rawA ⟨t, ⟨#[]⟩, m, 0, 0⟩)⟩
  · have f77 := fun (v : Value) w => asMiss 77 80 v _ w n77 z77 (by decide)
    have f80 := fun (v : Value) w => asHit 80 v w n80
    have f84 := fun (v : Value) w => asMiss 84 80 v _ w n84 z84 (by decide)
    have f85 := fun (v : Value) w => asMiss 85 80 v _ w n85 z85 (by decide)
    have f87 := fun (v : Value) w => asMiss 87 80 v _ w n87 z87 (by decide)
    have f89 := fun (v : Value) w => asMiss 89 80 v _ w n89 z89 (by decide)
    have hf : formM t = 56 := by rcases h with h | h <;> rw [h] <;> rfl
    have HF := Lib.hid (And.intro h (HO.out.2.2.1 hf))
    have N1 := Lib.hid (NUM.out w3 a1 e1 8 (by omega) S3.out.cur ha1)
    have hlt1 := num_lt bs a1 e1 8 h256
    obtain ⟨p1, hp1⟩ : ∃ p, num bs a1 e1 8 = p := ⟨_, rfl⟩
    rw [hp1] at N1 hlt1 HF
    obtain ⟨m, a2, e2⟩ := p1
    simp only at N1 hlt1 HF
    have HP1 := Lib.hid hp1
    clear h hf hlt1 hp1
    obtain ⟨w4, hw4⟩ : ∃ W, w3.alloc (.cells #[.int .u64 0, .int .i64 8] 80) = W := ⟨_, rfl⟩
    obtain ⟨g4, hg4⟩ : ∃ k, w3.heap.size = k := ⟨_, rfl⟩
    have S4 : Hid (RC w w4 B g R sv bs a1 e1 ⟨t, ⟨#[]⟩, 0, 0, 0⟩) := Lib.hid (hw4 ▸ S3.out.below ((Below.refl _ _).alloc (Nat.le_refl _) _))
    have k1 : w4.cell? ⟨g4, 1, none⟩ = some (.int .i64 8) := by rw [← hw4, ← hg4]; exact (Whole.new w3 80 #[.int .u64 0, .int .i64 8]).cell 1
    have N4 := Lib.hid (NUM.out w4 a1 e1 8 (by omega) S4.out.cur ha1)
    rw [HP1.out] at N4
    clear N1
    go_wp2_with fail
    refine N4.out.mono ?_
    rintro e w5 ⟨rfl, hC5, hO5⟩
    have S5 := Lib.hid (S4.out.step hC5 hO5)
    clear hC5 hO5 k1
    have d1 : w5.cell? ⟨R, 2, none⟩ = some (.int .u64 0) := S5.out.row.cell 2
    have d1f := S5.out.row.frozen 2
    have S6 := Lib.hid (S5.out.put 2 (.int .u64 m) ⟨t, ⟨#[]⟩, m, 0, 0⟩ rfl)
    go_upto_region 20 with fail
    generalize w5.setCell ⟨R, 2, none⟩ (.int .u64 m) = w6 at S6 ⊢
    clear d1 d1f
    go_wp2_with (first | (refine wpList_load_row rfl 47 (.tmp 3) rfl R rfl 47 (rawA ⟨t, ⟨#[]⟩, m, 0, 0⟩) (0, 0) _ S6.out.row Try.underlying47 rfl rfl ?_) | (refine wpList_store_row rfl 47 (.tmp 2) (.tmp 67) rfl q (rawA ⟨t, ⟨#[]⟩, m, 0, 0⟩) rfl rfl 47 (rawA zr0) (HQ.out ▸ S6.out.res) rfl rfl (raw_one _) ?_))
    refine bodyPost_ret (results_cell_row rfl _ _ q 47 (rawA ⟨t, ⟨#[]⟩, m, 0, 0⟩) (0, 0) _ rfl (setRow_heap _ q (rawA zr0) (rawA ⟨t, ⟨#[]⟩, m, 0, 0⟩) 47 _ (HQ.out ▸ S6.out.res)) Try.underlying47 rfl rfl) rfl ?_
    have hOO := HF.out.2
    rw [hOO]
    exact ⟨rfl, S6.out.cur.rowZ (HQ.out ▸ S6.out.res) (rawA ⟨t, ⟨#[]⟩, m, 0, 0⟩), S6.out.keep.rowN (by rw [HQ.out]; omega) (rawA ⟨t, ⟨#[]⟩, m, 0, 0⟩)⟩
  · have f77 := fun (v : Value) w => asMiss 77 84 v _ w n77 z77 (by decide)
    have f80 := fun (v : Value) w => asMiss 80 84 v _ w n80 z80 (by decide)
    have f84 := fun (v : Value) w => asHit 84 v w n84
    have f85 := fun (v : Value) w => asMiss 85 84 v _ w n85 z85 (by decide)
    have f87 := fun (v : Value) w => asMiss 87 84 v _ w n87 z87 (by decide)
    have f89 := fun (v : Value) w => asMiss 89 84 v _ w n89 z89 (by decide)
    have hf : formM t = 97 := by rw [h]; rfl
    have HF := Lib.hid (And.intro h (HO.out.2.2.2.1 hf))
    have N1 := Lib.hid (NUM.out w3 a1 e1 2 (by omega) S3.out.cur ha1)
    have hlt1 := num_lt bs a1 e1 2 h256
    obtain ⟨p1, hp1⟩ : ∃ p, num bs a1 e1 2 = p := ⟨_, rfl⟩
    rw [hp1] at N1 hlt1 HF
    obtain ⟨m, a2, e2⟩ := p1
    simp only at N1 hlt1 HF
    have wm : IntKind.i64.wrap (m : Int) = (m : Int) := IntWalk.i64_in _ (by omega)
    clear h hf hlt1 hp1
    go_wp2_with fail
    refine N1.out.mono ?_
    rintro e w5 ⟨rfl, hC5, hO5⟩
    have S5 := Lib.hid (S3.out.step hC5 hO5)
    clear hC5 hO5
    have d1 : w5.cell? ⟨R, 3, none⟩ = some (.int .i64 0) := S5.out.row.cell 3
    have d1f := S5.out.row.frozen 3
    have S6 := Lib.hid (S5.out.put 3 (.int .i64 m) ⟨t, ⟨#[]⟩, 0, m, 0⟩ rfl)
    go_upto_region 20 with fail
    generalize w5.setCell ⟨R, 3, none⟩ (.int .i64 m) = w6 at S6 ⊢
    clear d1 d1f
    go_wp2_with (first | (refine wpList_load_row rfl 47 (.tmp 3) rfl R rfl 47 (rawA ⟨t, ⟨#[]⟩, 0, m, 0⟩) (0, 0) _ S6.out.row Try.underlying47 rfl rfl ?_) | (refine wpList_store_row rfl 47 (.tmp 2) (.tmp 67) rfl q (rawA ⟨t, ⟨#[]⟩, 0, m, 0⟩) rfl rfl 47 (rawA zr0) (HQ.out ▸ S6.out.res) rfl rfl (raw_one _) ?_))
    refine bodyPost_ret (results_cell_row rfl _ _ q 47 (rawA ⟨t, ⟨#[]⟩, 0, m, 0⟩) (0, 0) _ rfl (setRow_heap _ q (rawA zr0) (rawA ⟨t, ⟨#[]⟩, 0, m, 0⟩) 47 _ (HQ.out ▸ S6.out.res)) Try.underlying47 rfl rfl) rfl ?_
    have hOO := HF.out.2
    rw [hOO]
    exact ⟨rfl, S6.out.cur.rowZ (HQ.out ▸ S6.out.res) (rawA ⟨t, ⟨#[]⟩, 0, m, 0⟩), S6.out.keep.rowN (by rw [HQ.out]; omega) (rawA ⟨t, ⟨#[]⟩, 0, m, 0⟩)⟩
  · have f77 := fun (v : Value) w => asMiss 77 85 v _ w n77 z77 (by decide)
    have f80 := fun (v : Value) w => asMiss 80 85 v _ w n80 z80 (by decide)
    have f84 := fun (v : Value) w => asMiss 84 85 v _ w n84 z84 (by decide)
    have f85 := fun (v : Value) w => asHit 85 v w n85
    have f87 := fun (v : Value) w => asMiss 87 85 v _ w n87 z87 (by decide)
    have f89 := fun (v : Value) w => asMiss 89 85 v _ w n89 z89 (by decide)
    have hf : formM t = 97 := by rw [h]; rfl
    have HF := Lib.hid (And.intro h (HO.out.2.2.2.1 hf))
    have N1 := Lib.hid (NUM.out w3 a1 e1 2 (by omega) S3.out.cur ha1)
    have hlt1 := num_lt bs a1 e1 2 h256
    obtain ⟨p1, hp1⟩ : ∃ p, num bs a1 e1 2 = p := ⟨_, rfl⟩
    rw [hp1] at N1 hlt1 HF
    obtain ⟨m, a2, e2⟩ := p1
    simp only at N1 hlt1 HF
    have wm : IntKind.i64.wrap (m : Int) = (m : Int) := IntWalk.i64_in _ (by omega)
    clear h hf hlt1 hp1
    go_wp2_with fail
    refine N1.out.mono ?_
    rintro e w5 ⟨rfl, hC5, hO5⟩
    have S5 := Lib.hid (S3.out.step hC5 hO5)
    clear hC5 hO5
    have d1 : w5.cell? ⟨R, 3, none⟩ = some (.int .i64 0) := S5.out.row.cell 3
    have d1f := S5.out.row.frozen 3
    have S6 := Lib.hid (S5.out.put 3 (.int .i64 m) ⟨t, ⟨#[]⟩, 0, m, 0⟩ rfl)
    go_upto_region 20 with fail
    generalize w5.setCell ⟨R, 3, none⟩ (.int .i64 m) = w6 at S6 ⊢
    clear d1 d1f
    go_wp2_with (first | (refine wpList_load_row rfl 47 (.tmp 3) rfl R rfl 47 (rawA ⟨t, ⟨#[]⟩, 0, m, 0⟩) (0, 0) _ S6.out.row Try.underlying47 rfl rfl ?_) | (refine wpList_store_row rfl 47 (.tmp 2) (.tmp 67) rfl q (rawA ⟨t, ⟨#[]⟩, 0, m, 0⟩) rfl rfl 47 (rawA zr0) (HQ.out ▸ S6.out.res) rfl rfl (raw_one _) ?_))
    refine bodyPost_ret (results_cell_row rfl _ _ q 47 (rawA ⟨t, ⟨#[]⟩, 0, m, 0⟩) (0, 0) _ rfl (setRow_heap _ q (rawA zr0) (rawA ⟨t, ⟨#[]⟩, 0, m, 0⟩) 47 _ (HQ.out ▸ S6.out.res)) Try.underlying47 rfl rfl) rfl ?_
    have hOO := HF.out.2
    rw [hOO]
    exact ⟨rfl, S6.out.cur.rowZ (HQ.out ▸ S6.out.res) (rawA ⟨t, ⟨#[]⟩, 0, m, 0⟩), S6.out.keep.rowN (by rw [HQ.out]; omega) (rawA ⟨t, ⟨#[]⟩, 0, m, 0⟩)⟩
  · have f77 := fun (v : Value) w => asMiss 77 89 v _ w n77 z77 (by decide)
    have f80 := fun (v : Value) w => asMiss 80 89 v _ w n80 z80 (by decide)
    have f84 := fun (v : Value) w => asMiss 84 89 v _ w n84 z84 (by decide)
    have f85 := fun (v : Value) w => asMiss 85 89 v _ w n85 z85 (by decide)
    have f87 := fun (v : Value) w => asMiss 87 89 v _ w n87 z87 (by decide)
    have f89 := fun (v : Value) w => asHit 89 v w n89
    have hf : formM t = 98 := by rcases h with h | h | h <;> rw [h] <;> rfl
    have HF := Lib.hid (And.intro h (HO.out.2.2.2.2.1 hf))
    have N1 := Lib.hid (NUM.out w3 a1 e1 2 (by omega) S3.out.cur ha1)
    have hlt1 := num_lt bs a1 e1 2 h256
    have hpl1 := num_place bs a1 e1 2 ha1
    obtain ⟨p1, hp1⟩ : ∃ p, num bs a1 e1 2 = p := ⟨_, rfl⟩
    rw [hp1] at N1 hlt1 hpl1 HF
    obtain ⟨m, a2, e2⟩ := p1
    simp only at N1 hlt1 hpl1 HF
    have wm : IntKind.i64.wrap (m : Int) = (m : Int) := IntWalk.i64_in _ (by omega)
    clear h hf hlt1 hp1
    go_wp2_with fail
    refine N1.out.mono ?_
    rintro e w5 ⟨rfl, hC5, hO5⟩
    have S5 := Lib.hid (S3.out.step hC5 hO5)
    clear hC5 hO5
    have d1 : w5.cell? ⟨R, 3, none⟩ = some (.int .i64 0) := S5.out.row.cell 3
    have d1f := S5.out.row.frozen 3
    have S6 := Lib.hid (S5.out.put 3 (.int .i64 m) ⟨t, ⟨#[]⟩, 0, m, 0⟩ rfl)
    go_upto_region 19 with fail
    generalize w5.setCell ⟨R, 3, none⟩ (.int .i64 m) = w6 at S6 ⊢
    clear d1 d1f
    have N2 := Lib.hid (NUM.out w6 a2 e2 2 (by omega) S6.out.cur hpl1)
    have hlt2 := num_lt bs a2 e2 2 h256
    obtain ⟨p2, hp2⟩ : ∃ p, num bs a2 e2 2 = p := ⟨_, rfl⟩
    rw [hp2] at N2 hlt2 HF
    obtain ⟨m2, a3, e3⟩ := p2
    simp only at N2 hlt2 HF
    have wm2 : IntKind.i64.wrap (m2 : Int) = (m2 : Int) := IntWalk.i64_in _ (by omega)
    clear hlt2 hp2 hpl1
    go_wp2_with fail
    refine N2.out.mono ?_
    rintro e w7 ⟨rfl, hC7, hO7⟩
    have S7 := Lib.hid (S6.out.step hC7 hO7)
    clear hC7 hO7
    have d1 : w7.cell? ⟨R, 4, none⟩ = some (.int .i64 0) := S7.out.row.cell 4
    have d1f := S7.out.row.frozen 4
    have S8 := Lib.hid (S7.out.put 4 (.int .i64 m2) ⟨t, ⟨#[]⟩, 0, m, m2⟩ rfl)
    go_upto_region 20 with fail
    generalize w7.setCell ⟨R, 4, none⟩ (.int .i64 m2) = w8 at S8 ⊢
    clear d1 d1f
    go_wp2_with (first | (refine wpList_load_row rfl 47 (.tmp 3) rfl R rfl 47 (rawA ⟨t, ⟨#[]⟩, 0, m, m2⟩) (0, 0) _ S8.out.row Try.underlying47 rfl rfl ?_) | (refine wpList_store_row rfl 47 (.tmp 2) (.tmp 67) rfl q (rawA ⟨t, ⟨#[]⟩, 0, m, m2⟩) rfl rfl 47 (rawA zr0) (HQ.out ▸ S8.out.res) rfl rfl (raw_one _) ?_))
    refine bodyPost_ret (results_cell_row rfl _ _ q 47 (rawA ⟨t, ⟨#[]⟩, 0, m, m2⟩) (0, 0) _ rfl (setRow_heap _ q (rawA zr0) (rawA ⟨t, ⟨#[]⟩, 0, m, m2⟩) 47 _ (HQ.out ▸ S8.out.res)) Try.underlying47 rfl rfl) rfl ?_
    have hOO := HF.out.2
    rw [hOO]
    exact ⟨rfl, S8.out.cur.rowZ (HQ.out ▸ S8.out.res) (rawA ⟨t, ⟨#[]⟩, 0, m, m2⟩), S8.out.keep.rowN (by rw [HQ.out]; omega) (rawA ⟨t, ⟨#[]⟩, 0, m, m2⟩)⟩
  · have f77 := fun (v : Value) w => asMiss 77 87 v _ w n77 z77 (by decide)
    have f80 := fun (v : Value) w => asMiss 80 87 v _ w n80 z80 (by decide)
    have f84 := fun (v : Value) w => asMiss 84 87 v _ w n84 z84 (by decide)
    have f85 := fun (v : Value) w => asMiss 85 87 v _ w n85 z85 (by decide)
    have f87 := fun (v : Value) w => asHit 87 v w n87
    have f89 := fun (v : Value) w => asMiss 89 87 v _ w n89 z89 (by decide)
    have hf : formM t = 98 := by rw [h]; rfl
    have HF := Lib.hid (And.intro h (HO.out.2.2.2.2.1 hf))
    have N1 := Lib.hid (NUM.out w3 a1 e1 2 (by omega) S3.out.cur ha1)
    have hlt1 := num_lt bs a1 e1 2 h256
    have hpl1 := num_place bs a1 e1 2 ha1
    obtain ⟨p1, hp1⟩ : ∃ p, num bs a1 e1 2 = p := ⟨_, rfl⟩
    rw [hp1] at N1 hlt1 hpl1 HF
    obtain ⟨m, a2, e2⟩ := p1
    simp only at N1 hlt1 hpl1 HF
    have wm : IntKind.i64.wrap (m : Int) = (m : Int) := IntWalk.i64_in _ (by omega)
    clear h hf hlt1 hp1
    go_wp2_with fail
    refine N1.out.mono ?_
    rintro e w5 ⟨rfl, hC5, hO5⟩
    have S5 := Lib.hid (S3.out.step hC5 hO5)
    clear hC5 hO5
    have d1 : w5.cell? ⟨R, 3, none⟩ = some (.int .i64 0) := S5.out.row.cell 3
    have d1f := S5.out.row.frozen 3
    have S6 := Lib.hid (S5.out.put 3 (.int .i64 m) ⟨t, ⟨#[]⟩, 0, m, 0⟩ rfl)
    go_upto_region 19 with fail
    generalize w5.setCell ⟨R, 3, none⟩ (.int .i64 m) = w6 at S6 ⊢
    clear d1 d1f
    have N2 := Lib.hid (NUM.out w6 a2 e2 2 (by omega) S6.out.cur hpl1)
    have hlt2 := num_lt bs a2 e2 2 h256
    obtain ⟨p2, hp2⟩ : ∃ p, num bs a2 e2 2 = p := ⟨_, rfl⟩
    rw [hp2] at N2 hlt2 HF
    obtain ⟨m2, a3, e3⟩ := p2
    simp only at N2 hlt2 HF
    have wm2 : IntKind.i64.wrap (m2 : Int) = (m2 : Int) := IntWalk.i64_in _ (by omega)
    clear hlt2 hp2 hpl1
    go_wp2_with fail
    refine N2.out.mono ?_
    rintro e w7 ⟨rfl, hC7, hO7⟩
    have S7 := Lib.hid (S6.out.step hC7 hO7)
    clear hC7 hO7
    have d1 : w7.cell? ⟨R, 4, none⟩ = some (.int .i64 0) := S7.out.row.cell 4
    have d1f := S7.out.row.frozen 4
    have S8 := Lib.hid (S7.out.put 4 (.int .i64 m2) ⟨t, ⟨#[]⟩, 0, m, m2⟩ rfl)
    go_upto_region 20 with fail
    generalize w7.setCell ⟨R, 4, none⟩ (.int .i64 m2) = w8 at S8 ⊢
    clear d1 d1f
    go_wp2_with (first | (refine wpList_load_row rfl 47 (.tmp 3) rfl R rfl 47 (rawA ⟨t, ⟨#[]⟩, 0, m, m2⟩) (0, 0) _ S8.out.row Try.underlying47 rfl rfl ?_) | (refine wpList_store_row rfl 47 (.tmp 2) (.tmp 67) rfl q (rawA ⟨t, ⟨#[]⟩, 0, m, m2⟩) rfl rfl 47 (rawA zr0) (HQ.out ▸ S8.out.res) rfl rfl (raw_one _) ?_))
    refine bodyPost_ret (results_cell_row rfl _ _ q 47 (rawA ⟨t, ⟨#[]⟩, 0, m, m2⟩) (0, 0) _ rfl (setRow_heap _ q (rawA zr0) (rawA ⟨t, ⟨#[]⟩, 0, m, m2⟩) 47 _ (HQ.out ▸ S8.out.res)) Try.underlying47 rfl rfl) rfl ?_
    have hOO := HF.out.2
    rw [hOO]
    exact ⟨rfl, S8.out.cur.rowZ (HQ.out ▸ S8.out.res) (rawA ⟨t, ⟨#[]⟩, 0, m, m2⟩), S8.out.keep.rowN (by rw [HQ.out]; omega) (rawA ⟨t, ⟨#[]⟩, 0, m, m2⟩)⟩
  · have f77 := fun w => asNil 77 _ w n77 z77
    have f80 := fun w => asNil 80 _ w n80 z80
    have f84 := fun w => asNil 84 _ w n84 z84
    have f85 := fun w => asNil 85 _ w n85 z85
    have f87 := fun w => asNil 87 _ w n87 z87
    have f89 := fun w => asNil 89 _ w n89 z89
    have HF := Lib.hid (HO.out.2.2.2.2.2 h)
    have F9 := Lib.hid (failC_any B g sv bs a1 e1 9 w3 S3.out.cur)
    clear h
    go_wp2_with fail
    refine F9.out.mono ?_
    rintro e w8 ⟨rfl, hC8, hO8⟩
    have S8 := Lib.hid (S3.out.step hC8 hO8)
    clear hC8 hO8
    go_wp2_with (first | (refine wpList_load_row rfl 47 (.tmp 3) rfl R rfl 47 (rawA ⟨t, ⟨#[]⟩, 0, 0, 0⟩) (0, 0) _ S8.out.row Try.underlying47 rfl rfl ?_) | (refine wpList_store_row rfl 47 (.tmp 2) (.tmp 67) rfl q (rawA ⟨t, ⟨#[]⟩, 0, 0, 0⟩) rfl rfl 47 (rawA zr0) (HQ.out ▸ S8.out.res) rfl rfl (raw_one _) ?_))
    refine bodyPost_ret (results_cell_row rfl _ _ q 47 (rawA ⟨t, ⟨#[]⟩, 0, 0, 0⟩) (0, 0) _ rfl (setRow_heap _ q (rawA zr0) (rawA ⟨t, ⟨#[]⟩, 0, 0, 0⟩) 47 _ (HQ.out ▸ S8.out.res)) Try.underlying47 rfl rfl) rfl ?_
    have hOO := HF.out
    rw [hOO]
    exact ⟨rfl, S8.out.cur.rowZ (HQ.out ▸ S8.out.res) (rawA ⟨t, ⟨#[]⟩, 0, 0, 0⟩), S8.out.keep.rowN (by rw [HQ.out]; omega) (rawA ⟨t, ⟨#[]⟩, 0, 0, 0⟩)⟩
end Go.Proofs.Ytmojclbejmnikaa
