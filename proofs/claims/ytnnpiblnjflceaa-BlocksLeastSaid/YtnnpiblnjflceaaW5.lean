/-
  A new code. Conditions: each theorem names the range of its arguments.
-/
import Derived.Test.YtnnpiblnjflceaaW4
import Derived.Test.YtnnpiblnjflceaaH
namespace Go.Proofs.Ytnnpiblnjflceaa
open Go.RowKit
set_option maxRecDepth 100000


theorem cloneInt_any (A : Option Addr) (n c B : Nat) (xs : List Value) (w : World) (hs : Seen w B 1 A n c xs) (hB : B ≤ w.heap.size) (h1 : ∀ u ∈ xs, u.oneCell' = true) (hn : n ≤ 1000000) :
    Calls Try.prog 73 #[.slice A n c] w (GivesRow w 3 1 n xs) := by
  obtain ⟨i0, hi0, hz0, hz1, hz2⟩ := info_parts int_info
  have HS := Lib.hid hs
  have q33 : ∀ (w : World) (a : Option Addr) (n c n' c' : Nat), (binOp .eql 62 (.slice a n c) (.slice none n' c')).run Try.prog w = .ok (.bool a.isNone) w := fun w a n c n' c' => Lib.run_eql_slice_nil w _ _ a n c n' c' Try.underlying62
  cases A with
  | none =>
    obtain ⟨g1, g2, g3⟩ := hs
    obtain rfl : c = 0 := by simpa using g3
    obtain rfl : n = 0 := by omega
    obtain rfl : xs = [] := List.eq_nil_of_length_eq_zero (by simpa using g1)
    clear g1 g2 g3
    go_enter Try.func73, Try.ntmps73
    go_wp2
    go_ret
    exact ⟨_, rfl, World.ownsRow_nil _ _ _ _, Below.refl _ _⟩
  | some a =>
    clear hs
    have H1 := Lib.hid h1; clear h1
    go_enter Try.func73, Try.ntmps73
    go_wp2_with (at_builtin; refine wpList_append_seen _ rfl (.tmp 5) (.tmp 6) _ rfl w.heap.size 3 i0 _ 1 8 Try.underlying62 hi0 hz0 hz1 hz2 rfl (by omega) (.slice (some ⟨w.heap.size, 0, none⟩) 0 0) 0 [] rfl (World.ownsRow_made w #[] 0 (Nat.le_refl _) (by simp [maxLen]) rfl) B (some a) n c xs rfl (HS.out.below ((Below.refl _ _).alloc hB _)) H1.out (by simp [maxLen]; omega) (by omega) (by simp) ?_; intro v1 w1 hown1 hg1 hat1)
    go_ret
    refine ⟨_, rfl, by simpa using hown1, ((Below.refl _ _).alloc (Nat.le_refl _) _).grown hg1 (by simp) (by simp [Value.ownBlock])⟩

theorem exec_load_of {o : Oper} {ρ : Operand → Value} {w : World} {ty : TypeId} {x : Operand} {g : Nat} {v : Value} (lv : (loadVar ty ⟨g, 0, none⟩).run Try.prog w = .ok v w) (ho : o.op = .load ty x) (hx : ρ x = .pointer (some ⟨g, 0, none⟩)) :
    (execOp ρ o).run Try.prog w = .ok (.value v) w := by
  unfold execOp
  simp only [ho, hx, Instr.loadAt, Instr.sureAddr, Sem.run_bind, Sem.run_pure, Result.andThen_ok, lv]

/-- A code's cells. -/
def cc (l : List Int) (n : Nat) (A1 : Option Addr) (c1 : Nat) (A2 : Option Addr) (c2 : Nat) (A3 : Option Addr) (c3 : Nat) : Array Value :=
  #[.slice A1 n c1, .slice A2 n c2] ++ ra (fun i => ct i l) ++ #[.slice A3 (words l) c3]

/-- A code stands at block g. -/
def CodeAt (w : World) (B g : Nat) (l : List Int) (n : Nat) : Prop :=
  ∃ A1 c1 A2 c2 A3 c3, Whole w g 104 (cc l n A1 c1 A2 c2 A3 c3) ∧ g < B ∧ B ≤ w.heap.size ∧ Seen w B 1 A1 n c1 (iv l) ∧ Seen w B 1 A2 n c2 (wrow l n n) ∧ Seen w B 1 A3 (words l) c3 (srow l n)

theorem built79 (l : List Int) (n : Nat) (A1 : Option Addr) (c1 : Nat) (A2 : Option Addr) (c2 : Nat) (A3 : Option Addr) (c3 : Nat) :
    Try.prog.built 104 [(0, .slice A1 n c1), (1, .slice A2 n c2), (2, .agg (ra (fun i => ct i l))), (3, .slice A3 (words l) c3)] = some (cc l n A1 c1 A2 c2 A3 c3) := by kernel_rfl

theorem build79 (l : List Int) (n : Nat) (A1 : Option Addr) (c1 : Nat) (A2 : Option Addr) (c2 : Nat) (A3 : Option Addr) (c3 : Nat) (W : World) :
    (Instr.build 104 #[(0, .slice A1 n c1), (1, .slice A2 n c2), (2, .agg (ra (fun i => ct i l))), (3, .slice A3 (words l) c3)]).run Try.prog W = .ok (.agg (cc l n A1 c1 A2 c2 A3 c3)) W :=
  run_build W 104 _ _ (by simpa using built79 l n A1 c1 A2 c2 A3 c3)
theorem exec_build_of {o : Oper} {ρ : Operand → Value} {w : World} {t : TypeId} {ps : Array (Nat × Operand)} {qs : Array (Nat × Value)} {v : Value} (lv : (Instr.build t qs).run Try.prog w = .ok v w) (ho : o.op = .build t ps) (hx : (ps.map fun (i, x) => (i, ρ x)) = qs) :
    (execOp ρ o).run Try.prog w = .ok (.value v) w := by
  unfold execOp
  simp only [ho, hx, Sem.run_bind, Sem.run_pure, Result.andThen_ok, lv]

theorem CodeAt.below {w w' : World} {B g : Nat} {l : List Int} {n : Nat} (h : CodeAt w B g l n) (hb : Below B w w') : CodeAt w' B g l n := by
  obtain ⟨A1, c1, A2, c2, A3, c3, h1, h2, h3, h4, h5, h6⟩ := h
  exact ⟨A1, c1, A2, c2, A3, c3, (hb.block g h2).trans h1, h2, Nat.le_trans h3 hb.size, h4.below hb, h5.below hb, h6.below hb⟩


/-- A code stands at block g; all of it is its own, from block lo on. -/
def CodeOwn (w : World) (lo g : Nat) (l : List Int) (n : Nat) : Prop :=
  ∃ A1 c1 A2 c2 A3 c3, Whole w g 104 (cc l n A1 c1 A2 c2 A3 c3) ∧ lo ≤ g ∧ w.ownsRow lo 3 1 (.slice A1 n c1) n (iv l) ∧ w.ownsRow lo 33 1 (.slice A2 n c2) n (wrow l n n) ∧ w.ownsRow lo 3 1 (.slice A3 (words l) c3) (words l) (srow l n)
theorem CodeOwn.seen {w : World} {lo g : Nat} {l : List Int} {n : Nat} (h : CodeOwn w lo g l n) : CodeAt w w.heap.size g l n := by
  obtain ⟨A1, c1, A2, c2, A3, c3, h1, h2, h3, h4, h5⟩ := h
  exact ⟨A1, c1, A2, c2, A3, c3, h1, h1.lt, Nat.le_refl _, Seen.of_own h3, Seen.of_own h4, Seen.of_own h5⟩
theorem CodeOwn.only {w w' : World} {lo g : Nat} {l : List Int} {n : Nat} {S : Nat → Prop} (h : CodeOwn w lo g l n) (ho : Only S w w') (hS : ∀ k, S k → k < w.heap.size → ∃ t cs, Whole w k t cs ∧ t ≠ 104 ∧ t ≠ 3 ∧ t ≠ 33) : CodeOwn w' lo g l n := by
  obtain ⟨A1, c1, A2, c2, A3, c3, h1, h2, h3, h4, h5⟩ := h
  have row : ∀ {e : TypeId} {v : Value} {m : Nat} {xs : List Value}, w.ownsRow lo e 1 v m xs → (e = 3 ∨ e = 33) → w'.ownsRow lo e 1 v m xs := by
    intro e v m xs hr he
    refine own_only hr ho (fun k hk hs => ?_)
    obtain ⟨_, cs', hw⟩ := own_whole hr hk
    obtain ⟨t, cs, ht, t1, t2, t3⟩ := hS k hs hw.lt
    rcases he with rfl | rfl
    · exact hw.ne ht (Ne.symm t2) rfl
    · exact hw.ne ht (Ne.symm t3) rfl
  refine ⟨A1, c1, A2, c2, A3, c3, h1.only ho (fun hs => ?_), h2, row h3 (.inl rfl), row h4 (.inr rfl), row h5 (.inl rfl)⟩
  obtain ⟨t, cs, ht, t1, t2, t3⟩ := hS g hs h1.lt
  exact h1.ne ht (Ne.symm t1) rfl
theorem CodeOwn.below {w w' : World} {lo g : Nat} {l : List Int} {n : Nat} (h : CodeOwn w lo g l n) (hb : Below w.heap.size w w') : CodeOwn w' lo g l n := h.only (S := Nob) (Only.of_below hb _) (fun _ h => h.elim)

def NewRes (w : World) (l : List Int) (n : Nat) (e : Ending) (w' : World) : Prop :=
  ∃ g, e = .returned (.tuple #[.pointer (some ⟨g, 0, none⟩), .int .i64 0]) ∧ CodeOwn w' w.heap.size g l n ∧ Below w.heap.size w w'

theorem new_bad (A : Option Addr) (n c B : Nat) (l : List Int) (hn : l.length = n) (hl : n ≤ 1000) (hr : kindOf l = 0) (w : World) (hs : Seen w B 1 A n c (iv l)) :
    Calls Try.prog 66 #[.slice A n c] w fun e w' => e = .returned (.tuple #[.pointer none, .int .i64 12]) ∧ w = w' := by
  have HK := Lib.hid (words_bad A n c B l hn hl hr w hs)
  clear hr hs hn
  go_enter Try.func66, Try.ntmps66
  go_wp2_with (go_at_call 80; refine HK.out.mono ?_; rintro e w1 ⟨rfl, rfl⟩)
  go_ret2
  exact ⟨rfl, rfl⟩

theorem iv_one (l : List Int) : ∀ u ∈ iv l, u.oneCell' = true := by
  intro u hu
  simp only [iv, List.mem_map] at hu
  obtain ⟨a, _, rfl⟩ := hu
  rfl

set_option maxHeartbeats 2000000 in
set_option maxRecDepth 100000 in
theorem new_any (A : Option Addr) (n c B : Nat) (l : List Int) (hn : l.length = n) (hl : n ≤ 1000) (hr : kindOf l ≠ 0) (w : World) (hs : Seen w B 1 A n c (iv l)) (hB : B ≤ w.heap.size) :
    Calls Try.prog 66 #[.slice A n c] w (NewRes w l n) := by
  have HOK := Lib.hid (right_ok hr)
  have HR := Lib.hid hr; clear hr
  have HS := Lib.hid hs; clear hs
  have HN := Lib.hid hn; clear hn
  have hz := zero73
  have HI := Lib.hid info73
  go_enter Try.func66, Try.ntmps66
  go_wp2_with (first
    | (go_at_call 80; refine (words_any A n c B l HN.out hl HR.out _ HS.out hB).mono ?_; rintro e w1 ⟨v1, rfl, ho1, hb1⟩)
    | (go_at_call 81; refine (counted_any A n c B l HN.out hl HOK.out _ (HS.out.below (hb1.mono hB)) (by have := hb1.size; omega)).mono ?_; rintro e w2 ⟨rfl, hb2⟩)
    | (with_reducible refine wpList_store_row rfl 102 (.tmp 6) (.tmp 16) rfl w2.heap.size (ra fun i => ct i l) rfl rfl 102 (ra fun _ => 0) (heap_alloc_new w2 _) (HI.out _) (by simp) (ra_one _) ?_))
  obtain ⟨A2, c2, rfl, _, hs2⟩ := own_seen ho1
  have h3 : Below w.heap.size w ((w2.alloc (.cells (ra fun _ => 0) 102)).setRow w2.heap.size (ra fun i => ct i l)) := below_setRow (((hb1.trans (hb2.mono hb1.size))).alloc (by have := hb1.size; have := hb2.size; omega) _) _ (by have := hb1.size; have := hb2.size; omega)
  have h4 := ((Whole.new w2 102 (ra fun _ => 0)).setRow (ra fun i => ct i l))
  have h5 : Below w1.heap.size w1 ((w2.alloc (.cells (ra fun _ => 0) 102)).setRow w2.heap.size (ra fun i => ct i l)) := below_setRow ((hb2).alloc (by have := hb2.size; omega) _) _ (hb2.size)
  have h6 := own_only ho1 (Only.of_below h5 Nob) (fun _ _ h => h)
  generalize ((w2.alloc (.cells (ra fun _ => 0) 102)).setRow w2.heap.size (ra fun i => ct i l)) = w3 at *
  obtain ⟨g, hg⟩ : ∃ g, w2.heap.size = g := ⟨_, rfl⟩
  rw [hg] at h4 ⊢
  have H3 := Lib.hid h3
  have H4 := Lib.hid h4
  have H6 := Lib.hid h6
  have hg3 := h4.lt
  clear h3 h4 h5 h6 hs2 ho1 hb1 hb2 hg hz
  refine wp_region_held_drew (S := fun W => Below w3.heap.size w3 W) (by kernel_rfl) (Below.refl _ _).drew (fun hHeld => ?_)
  refine wpAnyH_take (i := 0) (oi := ⟨some 17, _, _, _, _, _⟩) (v := ?v0) rfl (by kernel_rfl) (by kernel_rfl) (by kernel_rfl) (fun _ _ _ h => h) (Or.inl ⟨by rfl, ?hy0⟩) (by assumption) ?rest0
  case hy0 => intro W hSW; go_simp; try rfl
  try simp only [Act.put, List.setIfInBounds_toArray, List.set_cons_zero, List.set_cons_succ]
  refine wpAnyH_take (i := 2) (oi := ⟨some 19, _, _, _, _, _⟩) (v := ?v2) rfl (by kernel_rfl) (by kernel_rfl) (by kernel_rfl) (fun _ _ _ h => h) (Or.inl ⟨by rfl, ?hy2⟩) (by assumption) ?rest2
  case hy2 => intro W hSW; go_simp; try rfl
  try simp only [Act.put, List.setIfInBounds_toArray, List.set_cons_zero, List.set_cons_succ]
  refine wpAnyH_take (i := 3) (oi := ⟨some 20, _, _, _, _, _⟩) (v := (.agg (ra fun i => ct i l))) rfl (by kernel_rfl) (by kernel_rfl) (by kernel_rfl) (fun _ _ _ h => h) (Or.inl ⟨by rfl, ?hy3⟩) (by assumption) ?rest3
  case hy3 => intro W hSW; exact exec_load_of (run_loadVar_row (P := Try.prog) W g 102 102 (ra fun i => ct i l) (0, 0) _ ((hSW.block g hg3).trans H4.out) Try.underlying102 rfl (HI.out _)) (by rfl) (by rfl)
  try simp only [Act.put, List.setIfInBounds_toArray, List.set_cons_zero, List.set_cons_succ]
  refine wpAnyH_take (i := 4) (oi := ⟨some 21, _, _, _, _, _⟩) (v := ?v4) rfl (by kernel_rfl) (by kernel_rfl) (by kernel_rfl) (fun _ _ _ h => h) (Or.inl ⟨by rfl, ?hy4⟩) (by assumption) ?rest4
  case hy4 => intro W hSW; go_simp; try rfl
  try simp only [Act.put, List.setIfInBounds_toArray, List.set_cons_zero, List.set_cons_succ]
  refine wpAnyH_take (i := 5) (oi := ⟨some 22, _, _, _, _, _⟩) (v := (.agg (ra fun i => ct i l))) rfl (by kernel_rfl) (by kernel_rfl) (by kernel_rfl) (fun _ _ _ h => h) (Or.inl ⟨by rfl, ?hy5⟩) (by assumption) ?rest5
  case hy5 => intro W hSW; exact exec_load_of (run_loadVar_row (P := Try.prog) W g 102 102 (ra fun i => ct i l) (0, 0) _ ((hSW.block g hg3).trans H4.out) Try.underlying102 rfl (HI.out _)) (by rfl) (by rfl)
  try simp only [Act.put, List.setIfInBounds_toArray, List.set_cons_zero, List.set_cons_succ]
  refine wpAnyH_ready (rs := [1]) (by kernel_rfl) (by simp) ?_
  refine AllReadyH.cons (o := ⟨some 18, _, _, _, _, _⟩) rfl (fun K hK => ?_) AllReadyH.nil
  go_simp
  refine (cloneInt_any A n c B (iv l) w3.drew (by exact HS.out.below (H3.out.drew.mono hB)) (by have := H3.out.size; exact Nat.le_trans hB this) (iv_one l) (by omega)).mono ?_; rintro e w4 ⟨v4, rfl, ho4, hb4⟩; obtain ⟨A4, c4, rfl, _, hs4⟩ := own_seen ho4; have S4 := Lib.hid ho4; have B4 : Hid (Below w3.heap.size w3 w4) := Lib.hid ⟨hb4.os, hb4.tape, hb4.output, hb4.size, hb4.block⟩; clear ho4 hs4 hb4
  refine hK.out _ _ ?_ (fun hHeld2 => ?_)
  · exact B4.out
  clear hK K hHeld
  have hHeld := hHeld2; clear hHeld2
  try simp only [Act.put, List.setIfInBounds_toArray, List.set_cons_zero, List.set_cons_succ]
  refine wpAnyH_more (S' := fun W => Below w4.heap.size w4 W) (fun W h => B4.out.trans (h.mono B4.out.size)) _ _ _ _ ?_
  clear hHeld
  have hHeld : Below w4.heap.size w4 w4 := Below.refl _ _
  refine wpAnyH_ready (rs := [6]) (by kernel_rfl) (by simp) ?_
  refine AllReadyH.cons (o := ⟨some 23, _, _, _, _, _⟩) rfl (fun K hK => ?_) AllReadyH.nil
  go_simp
  refine (inOrder_any A n c B l HN.out hl HOK.out w4 (HS.out.below ((H3.out.trans (B4.out.mono H3.out.size)).mono hB)) (by have := H3.out.size; have := B4.out.size; omega)).mono ?_; rintro e w5 ⟨v5, rfl, ho5, hb5⟩; obtain ⟨A5, c5, rfl, _, hs5⟩ := own_seen ho5; have S5 := Lib.hid ho5; have B5 := Lib.hid hb5; clear ho5 hs5 hb5
  refine hK.out _ _ ?_ (fun hHeld2 => ?_)
  · exact B5.out
  clear hK K hHeld
  have hHeld := hHeld2; clear hHeld2
  try simp only [Act.put, List.setIfInBounds_toArray, List.set_cons_zero, List.set_cons_succ]
  refine wpAnyH_more (S' := fun W => Below w5.heap.size w5 W) (fun W h => B5.out.trans (h.mono B5.out.size)) _ _ _ _ ?_
  clear hHeld
  have hHeld : Below w5.heap.size w5 w5 := Below.refl _ _
  refine wpAnyH_take (i := 7) (oi := ⟨some 24, _, _, _, _, _⟩) (v := (.agg (cc l n A4 c4 A2 c2 A5 c5))) rfl (by kernel_rfl) (by kernel_rfl) (by kernel_rfl) (fun _ _ _ h => h) (Or.inl ⟨by rfl, ?hy7⟩) (by assumption) ?rest7
  case hy7 => intro W hSW; exact exec_build_of (build79 l n A4 c4 A2 c2 A5 c5 W) (by rfl) (by simp [Act.eval])
  try simp only [Act.put, List.setIfInBounds_toArray, List.set_cons_zero, List.set_cons_succ]
  refine wpAnyH_ready (rs := [8]) (by kernel_rfl) (by simp) ?_
  refine AllReadyH.cons (o := ⟨some 25, _, _, _, _, _⟩) rfl (fun K hK => ?_) AllReadyH.nil
  go_simp
  refine hK.out _ _ ?_ (fun hHeld2 => ?_)
  · exact (Below.refl _ _).alloc (Nat.le_refl _) _
  clear hK K hHeld
  have hHeld := hHeld2; clear hHeld2
  try simp only [Act.put, List.setIfInBounds_toArray, List.set_cons_zero, List.set_cons_succ]
  refine wpAnyH_take (i := 9) (oi := ⟨some 2, _, _, _, _, _⟩) (v := ?v9) rfl (by kernel_rfl) (by kernel_rfl) (by kernel_rfl) (fun _ _ _ h => h) (Or.inl ⟨by rfl, ?hy9⟩) (by assumption) ?rest9
  case hy9 => intro W hSW; go_simp; try rfl
  try simp only [Act.put, List.setIfInBounds_toArray, List.set_cons_zero, List.set_cons_succ]
  refine wpAnyH_take (i := 10) (oi := ⟨some 3, _, _, _, _, _⟩) (v := ?v10) rfl (by kernel_rfl) (by kernel_rfl) (by kernel_rfl) (fun _ _ _ h => h) (Or.inl ⟨by rfl, ?hy10⟩) (by assumption) ?rest10
  case hy10 => intro W hSW; go_simp; try rfl
  try simp only [Act.put, List.setIfInBounds_toArray, List.set_cons_zero, List.set_cons_succ]
  refine wpAnyH_done (by kernel_rfl) ?_ _
  go_wp2_with fail
  go_ret2
  have e3 := H3.out.size
  have e4 := B4.out.size
  have e5 := B5.out.size
  have B6 : ∀ {o : Obj}, Below w5.heap.size w5 (w5.alloc o) := fun {o} => (Below.refl _ _).alloc (Nat.le_refl _) o
  have B56 : ∀ {o : Obj}, Below w4.heap.size w4 (w5.alloc o) := fun {o} => B5.out.trans (B6.mono e5)
  have B46 : ∀ {o : Obj}, Below w3.heap.size w3 (w5.alloc o) := fun {o} => B4.out.trans (B56.mono e4)
  have hs5 := S5.out
  rw [HN.out] at hs5
  have hK : ∀ {a b : World} {base : Nat} {e : TypeId} {v : Value} {m : Nat} {xs : List Value}, a.ownsRow base e 1 v m xs → Below a.heap.size a b → w.heap.size ≤ base → b.ownsRow w.heap.size e 1 v m xs := fun h hb hl => own_base (own_only h (Only.of_below hb Nob) (fun _ _ h => h)) hl
  refine ⟨_, rfl, ⟨A4, c4, A2, c2, A5, c5, Whole.new _ _ _, by omega, hK S4.out B56 (by simpa using e3), hK H6.out B46 (Nat.le_refl _), hK hs5 B6 (by omega)⟩, H3.out.trans (B46.mono e3)⟩

end Go.Proofs.Ytnnpiblnjflceaa
