/-
  The program's wrongLine. Conditions: a text of less than four thousand million bytes.
-/
import Derived.Test.YteadhiehhpafjaaDoorNJ
namespace Go.Proofs.YteadhiehhpafjaaDoor
open Go Go.RowKit
attribute [local go_sem] Oper.semAt_some
set_option maxRecDepth 100000

/-- A line without its end. -/
def chomp (l : List UInt8) : List UInt8 := Lib.trimSuffix l [10]
/-- What is wrong with the first line that may not be. -/
def wrong1 (a l : List UInt8) : Int := if 72 < (chomp l).length then 3 else if Lib.hasPrefix (chomp l) [32] = true ∧ a = [] then 2 else 0
def wrongL : List UInt8 → List (List UInt8) → Int
  | _, [] => 0
  | a, l :: ls => if wrong1 a l = 0 then wrongL (chomp l) ls else wrong1 a l
def lastA (a : List UInt8) (ls : List (List UInt8)) : List UInt8 := match ls.getLast? with | none => a | some l => chomp l
theorem lastA_cons (a l : List UInt8) (ls : List (List UInt8)) : lastA a (l :: ls) = lastA (chomp l) ls := by
  unfold lastA
  cases ls with
  | nil => rfl
  | cons x xs => rw [List.getLast?_cons_cons]; cases h : (x :: xs).getLast? with
    | none => simp at h
    | some y => rfl
theorem lastA_snoc (a l : List UInt8) (ls : List (List UInt8)) : lastA a (ls ++ [l]) = chomp l := by simp [lastA]
theorem wrongL_app : ∀ (a : List UInt8) (ls r : List (List UInt8)), wrongL a (ls ++ r) = if wrongL a ls = 0 then wrongL (lastA a ls) r else wrongL a ls
  | a, [], r => by simp [wrongL, lastA]
  | a, l :: ls, r => by
    rw [List.cons_append, wrongL, wrongL, lastA_cons]
    by_cases h : wrong1 a l = 0
    · rw [if_pos h, if_pos h]; exact wrongL_app _ ls r
    · rw [if_neg h, if_neg h, if_neg h]
theorem lnL_len : ∀ (s : List UInt8), ∀ x ∈ lnL s, x.length ≤ s.length
  | [], x, h => by simp [lnL] at h
  | b :: l, x, h => by
    have ih := lnL_len l
    unfold lnL at h
    split at h
    · rcases List.mem_cons.1 h with rfl | h
      · simp
      · have := ih x h; simp; omega
    · split at h
      · rcases List.mem_cons.1 h with rfl | h
        · simp
        · simp at h
      · rename_i y ys hy
        rcases List.mem_cons.1 h with rfl | h
        · have := ih y (by rw [hy]; simp); simp; omega
        · have := ih x (by rw [hy]; simp [h]); simp; omega

/-- What strings.Lines gives. -/
def MakesLines (w : World) (s : ByteArray) (e : Ending) (w' : World) : Prop :=
  ∃ c, e = .returned (.func (.func 54) #[] #[.pointer (some ⟨c, 0, none⟩)]) ∧ Whole w' c 9 #[.string s] ∧ w.heap.size ≤ c ∧ Below w.heap.size w w'
theorem lines_new (s : ByteArray) (w : World) : Calls Tryd.prog 35 #[.string s] w (MakesLines w s) := by
  have H1 := Lib.hid (Whole.new w 9 #[.string s])
  go_enter Tryd.func35, Tryd.ntmps35
  go_wp2
  go_ret
  exact ⟨w.heap.size, rfl, H1.out, Nat.le_refl _, (Below.refl _ _).alloc (Nat.le_refl _) _⟩
theorem trim_nl (x : List UInt8) (hx : x.length ≤ 4294967296) (w : World) : Calls Tryd.prog 36 #[.string (tx x), .string ⟨#[10]⟩] w fun e w' => e = .returned (.string (tx (chomp x))) ∧ w' = w :=
  Tryd.strings_TrimSuffix (tx x) ⟨#[10]⟩ w (by rw [tx_size]; omega)
theorem has_blank (x : List UInt8) (w : World) : Calls Tryd.prog 37 #[.string (tx x), .string ⟨#[32]⟩] w fun e w' => e = .returned (.bool (Lib.hasPrefix x [32])) ∧ w' = w :=
  Tryd.strings_HasPrefix (tx x) ⟨#[32]⟩ w

theorem load28 (w : World) (g : Nat) (x : Int) (h : w.cell? ⟨g, 0, none⟩ = some (.int .i64 x)) : (loadVar 28 ⟨g, 0, none⟩).run Tryd.prog w = .ok (.int .i64 x) w := by
  simp [loadVar, Tryd.isAgg28, h, go_sem]
theorem results_one {fn : Func} {p : Tmp} {ty : TypeId} (h : fn.results = #[.cell p ty]) (tmps : Array Value) (w : World) (g : Nat) (v : Value) (hp : tmps.getD p undef = .pointer (some ⟨g, 0, none⟩)) (hv : (loadVar ty ⟨g, 0, none⟩).run Tryd.prog w = .ok v w) :
    (results fn tmps).run Tryd.prog w = .ok v w := by
  have hp' : tmps[p]?.getD undef = .pointer (some ⟨g, 0, none⟩) := by simpa using hp
  simp [results, h, hp', asAddr, hv]
/-- What holds between the lines. -/
def WI (w : World) (pre : List (List UInt8)) (W : World) : Prop :=
  Whole W w.heap.size 28 #[.int .i64 0] ∧ Whole W (w.heap.size + 1) 9 #[.string (tx (lastA [] pre))] ∧ wrongL [] pre = 0 ∧ Below w.heap.size w W
/-- What holds where a line is wrong. -/
def WX (w : World) (xs : List (List UInt8)) (pre : List (List UInt8)) (W : World) : Prop :=
  ∃ r, r ≠ 0 ∧ Whole W w.heap.size 28 #[.int .i64 r] ∧ wrongL [] pre = r ∧ pre <+: xs ∧ Below w.heap.size w W

set_option maxHeartbeats 4000000 in
theorem wrong_any (s : List UInt8) (hs : s.length < 4294967281) (w : World) : Calls Tryd.prog 23 #[.string (tx s)] w (Gives w (.int .i64 (wrongL [] (lnL s)))) := by
  have LN := Lib.hid (fun W => lines_new (tx s) W)
  refine callsIn_wide.1 (callsIn_of_wp_marks (n := 3) Tryd.func23 rfl trivial ?_ rfl)
  simp only [Tryd.ntmps23, List.size_toArray, List.length_cons, List.length_nil, Nat.reduceAdd, Nat.reduceSub, Array.replicate_succ, Array.replicate_zero, List.push_toArray, List.append_toArray, List.nil_append, List.cons_append]
  obtain ⟨w0, hw0⟩ : ∃ W, (w.alloc (.cells #[.int .i64 0] 28)).alloc (.cells #[.string ⟨#[]⟩] 9) = W := ⟨_, rfl⟩
  have hA : Whole w0 w.heap.size 28 #[.int .i64 0] := hw0 ▸ (Whole.new w 28 #[.int .i64 0]).alloc _
  have hB : Whole w0 (w.heap.size + 1) 9 #[.string ⟨#[]⟩] := by
    have := Whole.new (w.alloc (.cells #[.int .i64 0] 28)) 9 #[.string ⟨#[]⟩]
    rw [World.size_alloc] at this
    exact hw0 ▸ this
  have hC : Below w.heap.size w w0 := hw0 ▸ ((Below.refl w.heap.size w).alloc (Nat.le_refl _) (.cells #[.int .i64 0] 28)).alloc (by simp) (.cells #[.string ⟨#[]⟩] 9)
  have hD : w0.heap.size = w.heap.size + 2 := by rw [← hw0]; simp
  have HA := Lib.hid (And.intro hA (And.intro hB (And.intro hC hD)))
  have HW0 := Lib.hid hw0
  clear hA hB hC hD hw0
  gi_wp2_with (refine ⟨trivial, ?_⟩; gi_at_call 35; refine (callsIn_wide.2 (LN.out _)).mono ?_; rintro e w1 ⟨c, rfl, h1, h2, b1⟩)
  rw [HW0.out] at b1 h2
  obtain ⟨hA, hB, hC, hD⟩ := HA.out
  have hA1 := hA.bel b1
  have hB1 := hB.bel b1
  have hC1 := hC.trans (b1.mono (by omega))
  have hsz := h1.lt
  have HK := Lib.hid (And.intro hA1 (And.intro hB1 hC1))
  clear hA hB hC hA1 hB1 hC1
  refine rf_law2 (gf := 54) (lb := #[.pointer (some ⟨c, 0, none⟩)]) (c := fun k => k = c) (d := fun k => k = c) (enc := fun l : List UInt8 => Value.string (tx l)) (xs := lnL s)
    rfl (enters_of Tryd.func54 (by kernel_rfl) rfl) (by rintro k rfl; omega) (by rintro k rfl; omega)
    (fun W1 ho => lines_hands W1 c s hs (h1.only ho (fun h => h))) rfl
    (WI w) (fun ch pre W => ch = .ret ∧ WX w (lnL s) pre W) ?hI ?hIx ?h0 ?hround ?hdone ?hstop
  case hI =>
    rintro pre X Y ⟨o1, o2, o3, o4⟩ ho
    have hne : ∀ k, k < w.heap.size + 2 → ¬ Sx (fun k => k = c) w1 k := fun k hk => sx_no (fun h => by omega) (.inl (by omega))
    exact ⟨o1.only ho (hne _ (by omega)), o2.only ho (hne _ (by omega)), o3, o4.trans (ho.below (B := w.heap.size) o4.size (by rintro k (h | h | h) <;> omega))⟩
  case hIx =>
    rintro ch pre X Y ⟨rfl, r, o0, o1, o2, o3, o4⟩ ho
    have hne : ∀ k, k < w.heap.size + 2 → ¬ Sx (fun k => k = c) w1 k := fun k hk => sx_no (fun h => by omega) (.inl (by omega))
    exact ⟨rfl, r, o0, o1.only ho (hne _ (by omega)), o2, o3, o4.trans (ho.below (B := w.heap.size) o4.size (by rintro k (h | h | h) <;> omega))⟩
  case h0 => exact ⟨HK.out.1, HK.out.2.1, rfl, HK.out.2.2⟩
  case hround =>
    intro x
    refine ⟨_, fun l W K hK => by gi_wp2; exact hK, fun l pre W hI hz hpre => ?_⟩
    obtain ⟨o1, o2, o3, o4⟩ := hI
    have hxl := lnL_len s x (hpre.subset (by simp))
    have T1 := Lib.hid (fun W => trim_nl x (by omega) W)
    obtain ⟨y, hy⟩ : ∃ y, chomp x = y := ⟨_, rfl⟩
    have hyl : y.length ≤ x.length := by
      rw [← hy]; unfold chomp Lib.trimSuffix; split
      · simp
      · exact Nat.le_refl _
    rw [hy] at T1
    have T2 := Lib.hid (fun W => has_blank y W)
    have c2 := o1.cell 0
    have c3 := o2.cell 0
    have f2 := o1.frozen 0
    have f3 := o2.frozen 0
    simp only [List.getElem?_toArray, List.getElem?_cons_zero] at c2 c3
    have hys := tx_size y
    have hw1 : wrongL [] (pre ++ [x]) = wrong1 (lastA [] pre) x := by
      rw [wrongL_app, if_pos o3, wrongL]
      by_cases h : wrong1 (lastA [] pre) x = 0
      · rw [if_pos h, h]; rfl
      · rw [if_neg h]
    unfold wrong1 at hw1
    rw [hy] at hw1
    obtain ⟨a, ha⟩ : ∃ a, lastA [] pre = a := ⟨_, rfl⟩
    rw [ha] at hw1 c3
    have HO := Lib.hid (And.intro o1 (And.intro o2 (And.intro o4 (And.intro hz hpre))))
    have HLA : Hid (lastA [] (pre ++ [x]) = y) := Lib.hid (by rw [lastA_snoc, hy])
    clear o1 o2 o3 o4 hz hpre hy ha
    by_cases hlen : 72 < y.length
    · have d1 : decide ((72 : Int) < (y.length : Int)) = true := by rw [decide_eq_true_iff]; omega
      rw [if_pos hlen] at hw1
      have HW1 := Lib.hid hw1
      clear hw1 hlen
      gi_wp2_with (first | (refine ⟨trivial, ?_⟩; gi_at_call 36; refine (CallsIn.inRound l (callsIn_wide.2 (T1.out _))).mono ?_; rintro e w' ⟨rfl, rfl⟩) | (refine ⟨trivial, ?_⟩; gi_at_call 37; refine (CallsIn.inRound l (callsIn_wide.2 (T2.out _))).mono ?_; rintro e w' ⟨rfl, rfl⟩))
      obtain ⟨o1, o2, o4, hz, hpre⟩ := HO.out
      have OW := (Only.refl (fun k => k = w.heap.size) w').setCell (p := ⟨w.heap.size, 0, none⟩) (.inl rfl) (Value.int IntKind.i64 3)
      exact ⟨OW.size, fun k hk => OW.block k (by rcases hk with h | h | h <;> omega) (by rcases hk with h | h | h <;> omega), rfl, 3, by decide, o1.put 0 _, HW1.out, hpre, o4.trans (OW.below o4.size (fun k h => by omega))⟩
    · have d1 : decide ((72 : Int) < (y.length : Int)) = false := by rw [decide_eq_false_iff_not]; omega
      rw [if_neg hlen] at hw1
      clear hlen
      have hae : (tx a).toList.isEmpty = decide (a.length = 0) := by rw [ba_empty, tx_size]
      cases hb : Lib.hasPrefix y [32] with
      | true =>
        rw [hb] at T2
        by_cases ha0 : a = []
        · rw [if_pos ⟨hb, ha0⟩] at hw1
          have hae2 : (tx a).toList.isEmpty = true := by rw [hae, ha0]; rfl
          have HW1 := Lib.hid hw1
          clear hw1 hb hae ha0
          gi_wp2_with (first | (refine ⟨trivial, ?_⟩; gi_at_call 36; refine (CallsIn.inRound l (callsIn_wide.2 (T1.out _))).mono ?_; rintro e w' ⟨rfl, rfl⟩) | (refine ⟨trivial, ?_⟩; gi_at_call 37; refine (CallsIn.inRound l (callsIn_wide.2 (T2.out _))).mono ?_; rintro e w' ⟨rfl, rfl⟩))
          obtain ⟨o1, o2, o4, hz, hpre⟩ := HO.out
          have OW := (Only.refl (fun k => k = w.heap.size) w').setCell (p := ⟨w.heap.size, 0, none⟩) (.inl rfl) (Value.int IntKind.i64 2)
          exact ⟨OW.size, fun k hk => OW.block k (by rcases hk with h | h | h <;> omega) (by rcases hk with h | h | h <;> omega), rfl, 2, by decide, o1.put 0 _, HW1.out, hpre, o4.trans (OW.below o4.size (fun k h => by omega))⟩
        · rw [if_neg (fun h => ha0 h.2)] at hw1
          have hae2 : (tx a).toList.isEmpty = false := by rw [hae, decide_eq_false_iff_not]; exact fun h => ha0 (List.eq_nil_of_length_eq_zero h)
          have HW1 := Lib.hid hw1
          clear hw1 hb hae ha0
          gi_wp2_with (first | (refine ⟨trivial, ?_⟩; gi_at_call 36; refine (CallsIn.inRound l (callsIn_wide.2 (T1.out _))).mono ?_; rintro e w' ⟨rfl, rfl⟩) | (refine ⟨trivial, ?_⟩; gi_at_call 37; refine (CallsIn.inRound l (callsIn_wide.2 (T2.out _))).mono ?_; rintro e w' ⟨rfl, rfl⟩))
          obtain ⟨o1, o2, o4, hz, hpre⟩ := HO.out
          have OW := (Only.refl (fun k => k = w.heap.size + 1) w').setCell (p := ⟨w.heap.size + 1, 0, none⟩) (.inl rfl) (Value.string (tx y))
          refine ⟨OW.size, fun k hk => OW.block k (by rcases hk with h | h | h <;> omega) (by rcases hk with h | h | h <;> omega), o1.only OW (by omega), ?_, HW1.out, o4.trans (OW.below o4.size (fun k h => by omega))⟩
          rw [HLA.out]
          exact o2.put 0 _
      | false =>
        rw [if_neg (fun h => by rw [hb] at h; cases h.1)] at hw1
        rw [hb] at T2
        have HW1 := Lib.hid hw1
        clear hw1 hb hae
        gi_wp2_with (first | (refine ⟨trivial, ?_⟩; gi_at_call 36; refine (CallsIn.inRound l (callsIn_wide.2 (T1.out _))).mono ?_; rintro e w' ⟨rfl, rfl⟩) | (refine ⟨trivial, ?_⟩; gi_at_call 37; refine (CallsIn.inRound l (callsIn_wide.2 (T2.out _))).mono ?_; rintro e w' ⟨rfl, rfl⟩))
        obtain ⟨o1, o2, o4, hz, hpre⟩ := HO.out
        have OW := (Only.refl (fun k => k = w.heap.size + 1) w').setCell (p := ⟨w.heap.size + 1, 0, none⟩) (.inl rfl) (Value.string (tx y))
        refine ⟨OW.size, fun k hk => OW.block k (by rcases hk with h | h | h <;> omega) (by rcases hk with h | h | h <;> omega), o1.only OW (by omega), ?_, HW1.out, o4.trans (OW.below o4.size (fun k h => by omega))⟩
        rw [HLA.out]
        exact o2.put 0 _
  case hdone =>
    rintro W ⟨o1, o2, o3, o4⟩ hK
    have c2 := o1.cell 0
    have f2 := o1.frozen 0
    simp only [List.getElem?_toArray, List.getElem?_cons_zero] at c2
    gi_wp2
    have hC := HA.out.2.2.2
    have o1' := o1.put 0 (.int .i64 0)
    have OW := (Only.refl (fun k => k = w.heap.size) W).setCell (p := ⟨w.heap.size, 0, none⟩) (.inl rfl) (Value.int .i64 0)
    have hK' := (OW.block _ (Array.getElem?_eq_some_iff.1 hK).1 (by omega)).trans hK
    have OP := only_putObj (S := fun k => k = w1.heap.size) (W.setCell { block := w.heap.size, off := 0 } (Value.int IntKind.i64 0)) w1.heap.size (.deferred none) rfl
    refine ⟨by simp, .inl ⟨_, _, rfl, run_takeDeferred hK', ?_⟩⟩
    refine ⟨_, results_one rfl _ _ w.heap.size _ rfl (load28 _ _ 0 ?_), by rw [o3], (o4.trans (OW.below o4.size (fun k h => by omega))).trans (OP.below (Nat.le_trans o4.size OW.size) (fun k h => by omega))⟩
    exact (o1'.only OP (by omega)).cell 0
  case hstop =>
    rintro ch pre W ⟨rfl, r, o0, o1, o2, o3, o4⟩ hK
    have c2 := o1.cell 0
    simp only [List.getElem?_toArray, List.getElem?_cons_zero] at c2
    gi_wp2
    have OP := only_putObj (S := fun k => k = w1.heap.size) W w1.heap.size (.deferred none) rfl
    have hC := HA.out.2.2.2
    refine ⟨by simp, .inl ⟨_, _, rfl, run_takeDeferred hK, ?_⟩⟩
    obtain ⟨rest, hrest⟩ := o3
    refine ⟨_, results_one rfl _ _ w.heap.size _ rfl (load28 _ _ r ?_), by rw [← hrest, wrongL_app, if_neg (by rw [o2]; exact o0), o2], o4.trans (OP.below o4.size (fun k h => by omega))⟩
    exact (o1.only OP (by omega)).cell 0
end Go.Proofs.YteadhiehhpafjaaDoor
