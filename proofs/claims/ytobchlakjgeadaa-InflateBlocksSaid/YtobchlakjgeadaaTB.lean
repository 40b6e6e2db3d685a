/-
  Contracts of Order and lengthsCode. Conditions: the state stands as told (StAt), its things are where they should be (Cx.Good).
-/
import Derived.Test.YtobchlakjgeadaaTA
namespace Go.Proofs.Ytobchlakjgeadaa
open Go.RowKit
set_option maxRecDepth 100000

/-- The order, as numbers. -/
def ordI (i : Nat) : Int := (ordL.getD i 0 : Nat)
theorem ordL_lt : ∀ i, i < 19 → ordL.getD i 0 < 19 := by decide
theorem row40 : (Try.prog.info? 40).map (fun i => (i.zero, i.size)) = some (some (.agg (Array.replicate 19 (.int .i64 0))), 19) := by kernel_rfl
theorem built40 : Try.prog.built 40 [] = some (Array.replicate 19 (.int .i64 0)) := by kernel_rfl
theorem zero40 (W : World) : (zeroValue 40).run Try.prog W = .ok (.agg (rn 19 fun _ => 0)) W := by rw [← rn_zero]; exact (zero_of_info row40).1 W
theorem build40 (W : World) : (Instr.build 40 #[]).run Try.prog W = .ok (.agg (rn 19 fun _ => 0)) W := by rw [← rn_zero]; exact run_build W 40 #[] _ built40
theorem info40 (f : Nat → Int) : (Try.prog.info? 40).map (·.size) = some (rn 19 f).size := by rw [rn_size]; exact (zero_of_info row40).2
theorem builtO : Try.prog.built 40 [(0, .int .i64 16), (1, .int .i64 17), (2, .int .i64 18), (3, .int .i64 0), (4, .int .i64 8), (5, .int .i64 7), (6, .int .i64 9), (7, .int .i64 6), (8, .int .i64 10), (9, .int .i64 5), (10, .int .i64 11), (11, .int .i64 4), (12, .int .i64 12), (13, .int .i64 3), (14, .int .i64 13), (15, .int .i64 2), (16, .int .i64 14), (17, .int .i64 1), (18, .int .i64 15)] = some (rn 19 ordI) := by kernel_rfl
theorem buildO (W : World) : (Instr.build 40 #[(0, .int .i64 16), (1, .int .i64 17), (2, .int .i64 18), (3, .int .i64 0), (4, .int .i64 8), (5, .int .i64 7), (6, .int .i64 9), (7, .int .i64 6), (8, .int .i64 10), (9, .int .i64 5), (10, .int .i64 11), (11, .int .i64 4), (12, .int .i64 12), (13, .int .i64 3), (14, .int .i64 13), (15, .int .i64 2), (16, .int .i64 14), (17, .int .i64 1), (18, .int .i64 15)]).run Try.prog W = .ok (.agg (rn 19 ordI)) W := run_build W 40 _ _ builtO

theorem order_any (w : World) : Calls Try.prog 17 #[] w fun e w' => e = .returned (.agg (rn 19 ordI)) ∧ Below w.heap.size w w' := by
  have hz := zero40
  have hb := buildO
  have HI := Lib.hid info40
  go_enter Try.func17, Try.ntmps17
  go_wp2_with (with_reducible refine wpList_store_row rfl 40 (.tmp 0) (.tmp 1) rfl w.heap.size (rn 19 ordI) rfl rfl 40 (rn 19 fun _ => 0) (heap_alloc_new w _) (HI.out _) (by simp) (rn_one _ _) ?_)
  exact bodyPost_ret (v := .agg (rn 19 ordI)) (results_cell_row (p := 0) (ty := 40) rfl _ _ w.heap.size 40 (rn 19 ordI) (0, 0) _ rfl ((Whole.new w 40 _).setRow _) Try.underlying40 rfl (HI.out _)) rfl ⟨rfl, below_setRow ((Below.refl _ _).alloc (Nat.le_refl _) _) _ (Nat.le_refl _)⟩

/-- Two arrays: the order, the lengths of lengths. -/
def Ord40 (w : World) (f : Nat → Int) (wr : World) : Prop := Whole wr w.heap.size 40 (rn 19 ordI) ∧ Whole wr (w.heap.size + 1) 40 (rn 19 f) ∧ Below w.heap.size w wr
theorem ord40_start (w : World) : Ord40 w (fun _ => 0) ((((w.alloc (.cells (rn 19 fun _ => 0) 40)).alloc (.cells (rn 19 fun _ => 0) 40)).setRow w.heap.size (rn 19 ordI)).setRow (w.heap.size + 1) (rn 19 fun _ => 0)) := by
  have h1 : Whole ((w.alloc (.cells (rn 19 fun _ => 0) 40)).alloc (.cells (rn 19 fun _ => 0) 40)) (w.heap.size + 1) 40 (rn 19 fun _ => 0) := by
    have := Whole.new (w.alloc (.cells (rn 19 fun _ => 0) 40)) 40 (rn 19 fun _ => 0)
    simpa using this
  refine ⟨((((Whole.new w 40 _).alloc _).setRow _).setRow_far _ (by omega)), ((h1.setRow_far _ (by omega)).setRow _), ?_⟩
  exact below_setRow (below_setRow (((Below.refl _ _).alloc (Nat.le_refl _) _).alloc (by simp) _) _ (Nat.le_refl _)) _ (by omega)
theorem new40 (w : World) (cs ds : Array Value) : ((w.alloc (.cells cs 40)).alloc (.cells ds 40)).heap[w.heap.size]? = some (.cells cs 40 (0, 0)) := (Whole.new w 40 cs).alloc (.cells ds 40)
theorem new40' (w : World) (cs ds es : Array Value) : (((w.alloc (.cells cs 40)).alloc (.cells ds 40)).setRow w.heap.size es).heap[w.heap.size + 1]? = some (.cells ds 40 (0, 0)) := by
  have := Whole.new (w.alloc (.cells cs 40)) 40 ds
  exact (by simpa using this : Whole ((w.alloc (.cells cs 40)).alloc (.cells ds 40)) (w.heap.size + 1) 40 ds).setRow_far es (by omega)

def LcRes (c : Cx) (n a : Nat) (o : List Nat) (ov p q : Value) (w : World) (e : Ending) (w' : World) : Prop :=
  (c.L.length < a + 3 * n ∧ e = .returned (.tuple #[.pointer none, .int .i64 6]) ∧ Fr c.B0 w w') ∨
  (a + 3 * n ≤ c.L.length ∧ kindOf (llF c.L a n) = 0 ∧ e = .returned (.tuple #[.pointer none, .int .i64 12]) ∧ Fr c.B0 w w') ∨
  (a + 3 * n ≤ c.L.length ∧ kindOf (llF c.L a n) ≠ 0 ∧ ∃ g, e = .returned (.tuple #[.pointer (some ⟨g, 0, none⟩), .int .i64 0]) ∧ CodeOwn w' w.heap.size g (llF c.L a n) 19 ∧ StAt c w' ov p q (a + 3 * n) o ∧ Fr c.B0 w w')

/-- Within: the two arrays at g and g + 1. -/
def LcIn (c : Cx) (a : Nat) (o : List Nat) (ov p q : Value) (w : World) (g k : Nat) (wr : World) : Prop :=
  Whole wr g 40 (rn 19 ordI) ∧ Whole wr (g + 1) 40 (rn 19 fun i => (llF c.L a k).getD i 0) ∧ StAt c wr ov p q (a + 3 * k) o ∧ Fr c.B0 w wr

set_option maxHeartbeats 1000000 in
theorem lengthsCode_any {c : Cx} (hg : c.Good) (ov p q : Value) (a : Nat) (o : List Nat) (n : Nat) (hn : n ≤ 19) (w : World) (h : StAt c w ov p q a o) :
    Calls Try.prog 55 #[.pointer (some ⟨c.gs, 0, none⟩), .int .i64 n] w (LcRes c n a o ov p q w) := by
  have H := Lib.hid h; clear h
  have hz := zero40
  have hb := build40
  have HI := Lib.hid info40
  unfold LcRes
  go_enter Try.func55, Try.ntmps55
  go_wp2_with (first
    | (go_at_call 17; refine (order_any w).mono ?_; rintro e w1 ⟨rfl, hb1⟩)
    | (with_reducible refine wpList_store_row rfl 40 (.tmp 6) (.tmp 11) rfl w1.heap.size (rn 19 ordI) rfl rfl 40 (rn 19 fun _ => 0) (new40 w1 _ _) (HI.out _) (by simp) (rn_one _ _) ?_)
    | (with_reducible refine wpList_store_row rfl 40 (.tmp 7) (.tmp 12) rfl (w1.heap.size + 1) (rn 19 fun _ => 0) rfl rfl 40 (rn 19 fun _ => 0) (new40' w1 _ _ _) (HI.out _) rfl (rn_one _ _) ?_))
  have h0 := ord40_start w1
  generalize (((w1.alloc (.cells (rn 19 fun _ => 0) 40)).alloc (.cells (rn 19 fun _ => 0) 40)).setRow w1.heap.size (rn 19 ordI)).setRow (w1.heap.size + 1) (rn 19 fun _ => 0) = W at *
  obtain ⟨g, hg1⟩ : ∃ g, w1.heap.size = g := ⟨_, rfl⟩
  have hsz : w.heap.size ≤ g := by have := hb1.size; omega
  have H0 : Hid (LcIn c a o ov p q w g 0 W) := Lib.hid (by
    have hB := hb1.trans (h0.2.2.mono hb1.size)
    subst hg1
    refine ⟨h0.1, ?_, by simpa using H.out.below hB, Fr.of_below hB _⟩
    rw [rn_ext 19 _ (fun _ => 0) (fun i _ => by show (List.replicate 19 (0 : Int)).getD i 0 = 0; rw [List.getD, List.getElem?_replicate]; split <;> rfl)]
    exact h0.2.1)
  clear hz hb h0 hb1
  try rw [hg1]
  clear hg1
  go_loopw [8, 9, 10, 14] (fun _ _ _ i wr => ∃ k : Nat, k ≤ n ∧ i = .int .i64 k ∧ LcIn c a o ov p q w g k wr) (fun _ _ _ i _ => n - (intOf i).toNat)
  case atStart => exact ⟨0, Nat.zero_le _, rfl, H0.out⟩
  case round =>
    obtain ⟨k, hk, rfl, hin⟩ := hrel
    have hpl := hin.2.2.1.place
    have c0 := hin.2.2.1.c0
    have HIn := Lib.hid hin; clear hin
    by_cases hlt : k < n
    · have d1 : decide (k < n) = true := decide_eq_true hlt
      go_wp2_with fail
      refine (getBits_any hg ov p q (a + 3 * k) o 3 (by omega) _ HIn.out.2.2.1).mono ?_
      rintro e w2 (⟨v, hv, hv2, rfl, hs2, hf2⟩ | ⟨hv, rfl, hs2, hf2⟩)
      · obtain ⟨j, hj⟩ : ∃ j, ordL.getD k 0 = j := ⟨_, rfl⟩
        have hj19 : j < 19 := by rw [← hj]; exact ordL_lt k (by omega)
        have hW1 := hf2.whole HIn.out.1 (by decide) (by decide) (by decide)
        have hW2 := hf2.whole HIn.out.2.1 (by decide) (by decide) (by decide)
        have q1 : w2.cell? ⟨g, k, none⟩ = some (.int .i64 (j : Nat)) := by
          rw [hW1.cell k, rn_get _ _ k (by omega)]
          simp only [ordI]
          rw [hj]
        have q2 := (hW2.cell j).trans (rn_get _ _ j hj19)
        have z2 := hW2.frozen j
        have hbv : num ((c.L.drop (a + 3 * k)).take 3) = v := by
          unfold bitsAt at hv
          split at hv
          · injection hv
          · cases hv
        have N1 : Hid (LcIn c a o ov p q w g (k + 1) (w2.setCell ⟨g + 1, j, none⟩ (.int .i64 (v : Nat)))) := Lib.hid (by
          have hp := hW2.put j (.int .i64 (v : Nat))
          rw [rn_set] at hp
          have hB : Only (fun m => m = g + 1) w2 (w2.setCell ⟨g + 1, j, none⟩ (.int .i64 (v : Nat))) := (Only.refl (fun m => m = g + 1) w2).setCell (p := ⟨g + 1, j, none⟩) (.inl rfl) _
          have hne : ∀ {gg : Nat} {t : TypeId} {cs : Array Value}, Whole w2 gg t cs → t ≠ 40 → ¬ gg = g + 1 := fun hw ht e => hw.ne hW2 ht e
          have hF : Fr c.B0 w (w2.setCell ⟨g + 1, j, none⟩ (.int .i64 (v : Nat))) := (HIn.out.2.2.2.trans hf2).past ((Below.refl _ _).setCell (by simp; omega) _)
          refine ⟨hW1.far (by simp) _, ?_, ?_, hF⟩
          · rw [rn_ext 19 _ _ (fun i hi => ?_)]
            · exact hp
            · rw [llF, hj, hbv]
              by_cases hij : i = j
              · subst hij
                rw [if_pos rfl]
                simp [List.getD, hi]
              · rw [if_neg hij]
                simp [List.getD, Ne.symm hij]
          · rw [show a + 3 * (k + 1) = a + 3 * k + 3 by omega]
            exact ⟨hs2.st.only hB (hne hs2.st (by decide)), hs2.rd.only hB (hne hs2.rd.2.1 (by decide)) (fun m hm => own_ne_whole hs2.rd.2.2 hW2 (by decide) m hm), own_only hs2.out hB (fun m hm => own_ne_whole hs2.out hW2 (by decide) m hm), H.out.fx.keep (fun h => hF.code h), by simpa [World.setCell] using hs2.size, hs2.place, hs2.room⟩)
        have hv8 : v < 8 := hv2
        have wv : IntKind.i64.wrap (v : Int) = v := IntWalk.i64_in _ (by omega)
        clear hs2 hf2 hv hv2 hW1 hW2 hbv hj c0 HIn
        have j0 : (0 : Int) ≤ j := by omega
        have j1 : (j : Int) < 19 := by omega
        go_wp2_with fail
        go_roundw
        case rel => exact ⟨k + 1, by omega, by go_num, N1.out⟩
        case measure => simp [intOf]; omega
      · have F2 := Lib.hid (HIn.out.2.2.2.trans hf2)
        have hover : c.L.length < a + 3 * n := by
          unfold bitsAt at hv
          split at hv
          · cases hv
          · omega
        clear hs2 hf2 hv c0
        go_wp2_with fail
        go_ret2
        exact .inl ⟨hover, rfl, F2.out⟩
    · obtain rfl : k = n := by omega
      have d1 : decide (k < k) = false := decide_eq_false (by omega)
      have hle : a + 3 * k ≤ c.L.length := by simpa using hpl
      have SN := Lib.hid (seen_rn (l := llF c.L a k) HIn.out.2.1 (by simp) (fun _ _ => rfl))
      by_cases hkind : kindOf (llF c.L a k) = 0
      · have HB := Lib.hid (new_bad _ 19 19 wr.heap.size (llF c.L a k) (by simp) (by omega) hkind wr SN.out)
        have HKD := Lib.hid hkind; clear hkind
        go_wp2_with fail
        refine HB.out.mono ?_
        rintro e w3 ⟨rfl, rfl⟩
        go_wp2_with fail
        go_ret2
        exact .inr (.inl ⟨hle, HKD.out, rfl, HIn.out.2.2.2⟩)
      · have HB := Lib.hid (new_any _ 19 19 wr.heap.size (llF c.L a k) (by simp) (by omega) hkind wr SN.out (Nat.le_refl _))
        have HKD := Lib.hid hkind; clear hkind
        go_wp2_with fail
        refine HB.out.mono ?_
        rintro e w3 ⟨g3, rfl, hc3, hb3⟩
        have C3 := Lib.hid (hc3.base HIn.out.2.2.2.size)
        have S3 := Lib.hid (HIn.out.2.2.1.below hb3)
        have F3 := Lib.hid (HIn.out.2.2.2.trans (Fr.of_below hb3 _))
        clear hc3 hb3
        go_wp2_with fail
        go_ret2
        exact .inr (.inr ⟨hle, HKD.out, g3, rfl, C3.out, S3.out, F3.out⟩)
end Go.Proofs.Ytobchlakjgeadaa
