/-
  The program's Class. Conditions: texts of at most a hundred thousand bytes.
-/
import Derived.Test.YtibkdmliolebgaaDoorTE
namespace Go.Proofs.YtibkdmliolebgaaDoor
open Go Go.RowKit
attribute [local go_sem] Oper.semAt_some
set_option maxRecDepth 100000

/-- A range over a function, its round's frame found by the walk. -/
theorem rf_law2 {P : Program} {α : Type} {g : Operand} {ps : Array Tmp} {assign body : Code} {Q : Exit → Act → World → Prop} {a : Act} {w : World}
    {gf : Nat} {lb : Array Value} (hg : a.eval g = .func (.func gf) #[] lb) (eg : ∀ args w, (callFunc gf args).run P w = .ok (.enter gf args) w)
    {c d : Nat → Prop} (hc : ∀ k, c k → k < w.heap.size) (hd : ∀ k, d k → k < w.heap.size) {enc : α → Value} {xs : List α} (hseq : ∀ W1, Only Nob w W1 → Hands P gf lb c d enc xs W1) (hps : ps.size = 1)
    (I : List α → World → Prop) (Ix : Code → List α → World → Prop)
    (hI : ∀ pre A B, I pre A → Only (Sx c w) A B → I pre B) (hIx : ∀ ch pre A B, Ix ch pre A → Only (Sx c w) A B → Ix ch pre B) (h0 : I [] w)
    (hround : ∀ x : α, ∃ a1 : Act,
      (∀ (l : Nat) (W : World) (K : Act → World → Prop), K a1 W → assign.wpIn (Fence.wide.inRound l) 2 P (Exit.then K (fun _ _ _ => False)) { tmps := (ps.zip #[enc x]).foldl (fun t (p, v) => t.setIfInBounds p v) a.tmps, defers := [] } W) ∧
      (∀ (l : Nat) (pre : List α) (W : World), I pre W → w.heap.size + 2 ≤ W.heap.size → pre ++ [x] <+: xs → body.wpIn (Fence.wide.inRound l) 2 P (rPost (Sx d w) I Ix (pre ++ [x]) W) a1 W))
    (hdone : ∀ (W : World), I xs W → W.heap[w.heap.size]? = some (.deferred (some [])) → Q .normal { a with defers := { target := .collected w.heap.size, args := #[] } :: a.defers } W)
    (hstop : ∀ (ch : Code) (pre : List α) (W : World), Ix ch pre W → W.heap[w.heap.size]? = some (.deferred (some [])) → ch.wpIn Fence.wide 3 P Q { a with defers := { target := .collected w.heap.size, args := #[] } :: a.defers } W) :
    (Code.rangeFunc g ps assign body).wpIn Fence.wide 3 P Q a w :=
  rf_law hg eg hc hd hseq hps I Ix hI hIx h0 (fun x => (hround x).choose) (fun l x W K hK => (hround x).choose_spec.1 l W K hK) (fun l pre x W h1 h2 h3 => (hround x).choose_spec.2 l pre W h1 h2 h3) hdone hstop

theorem load4 (w : World) (g : Nat) (x : Bool) (h : w.cell? ⟨g, 0, none⟩ = some (.bool x)) : (loadVar 4 ⟨g, 0, none⟩).run Tryd.prog w = .ok (.bool x) w := by
  simp [loadVar, Tryd.isAgg4, h, go_sem]
theorem results_one {fn : Func} {p : Tmp} {ty : TypeId} (h : fn.results = #[.cell p ty]) (tmps : Array Value) (w : World) (g : Nat) (v : Value) (hp : tmps.getD p undef = .pointer (some ⟨g, 0, none⟩)) (hv : (loadVar ty ⟨g, 0, none⟩).run Tryd.prog w = .ok v w) :
    (results fn tmps).run Tryd.prog w = .ok v w := by
  have hp' : tmps[p]?.getD undef = .pointer (some ⟨g, 0, none⟩) := by simpa using hp
  simp [results, h, hp', asAddr, hv]
/-- What holds between the parts. -/
def WI (w : World) (pre : List (List UInt8)) (W : World) : Prop := Whole W w.heap.size 4 #[.bool false] ∧ pre.all partM = true ∧ Below w.heap.size w W
/-- What holds where a part may not be. -/
def WX (w : World) (xs : List (List UInt8)) (pre : List (List UInt8)) (W : World) : Prop := Whole W w.heap.size 4 #[.bool false] ∧ pre.all partM = false ∧ pre <+: xs ∧ Below w.heap.size w W

set_option maxHeartbeats 4000000 in
theorem pclass_any (l : List UInt8) (hl : l.length ≤ 100000) (w : World) : Calls Tryd.prog 11 #[.string (tx l)] w (Gives w (.bool (classM l))) := by
  have SP := Lib.hid (fun W => split_new (tx l) (tx [47]) W)
  have RR := Lib.hid (fun W => pright_any l l.length rfl hl W)
  rw [classM_eq]
  unfold rightM
  obtain ⟨r, hr⟩ : ∃ r, (unitsM l).isSome = r := ⟨_, rfl⟩
  rw [hr] at RR ⊢
  clear hr
  obtain ⟨R, hR⟩ : ∃ R, (splS 47 l).all partM = R := ⟨_, rfl⟩
  rw [hR]
  have HR := Lib.hid hR
  clear hR
  have hlen := splS_len 47 l
  have SH := Lib.hid (fun W cs cp cv => split_hands W cs cp cv l 47 (by omega))
  refine callsIn_wide.1 (callsIn_of_wp_marks (n := 3) Tryd.func11 rfl trivial ?_ rfl)
  simp only [Tryd.ntmps11, List.size_toArray, List.length_cons, List.length_nil, Nat.reduceAdd, Nat.reduceSub, Array.replicate_succ, Array.replicate_zero, List.push_toArray, List.append_toArray, List.nil_append, List.cons_append]
  obtain ⟨w0, hw0⟩ : ∃ W, w.alloc (.cells #[.bool false] 4) = W := ⟨_, rfl⟩
  have hA : Whole w0 w.heap.size 4 #[.bool false] := hw0 ▸ Whole.new w 4 #[.bool false]
  have hC : Below w.heap.size w w0 := hw0 ▸ (Below.refl w.heap.size w).alloc (Nat.le_refl _) (.cells #[.bool false] 4)
  have hD : w0.heap.size = w.heap.size + 1 := by rw [← hw0]; simp
  have HA := Lib.hid (And.intro hA (And.intro hC hD))
  have HW0 := Lib.hid hw0
  clear hA hC hD hw0
  have e47 : tx [47] = ⟨#[47]⟩ := rfl
  rw [e47] at SP
  gi_wp2_with (refine ⟨trivial, ?_⟩; gi_at_call 30; refine (callsIn_wide.2 (SP.out _)).mono ?_; rintro e w2 ⟨cp, cs, cv, rfl, k1, k2, k3, k4, k5, k6, k7, k8, b2⟩)
  rw [HW0.out] at b2 k4 k5 k6
  rw [← e47] at k2
  clear HW0
  obtain ⟨hA, hC, hD⟩ := HA.out
  have hO2 : Only Nob w0 w2 := Only.of_below b2 Nob
  have hA2 := hA.only hO2 (fun h => h)
  have hD2 := hC.trans (hO2.below (B := w.heap.size) (by omega) (fun k h => h.elim))
  have hs2 := b2.size
  have hcs := k1.lt
  have hcp := k2.lt
  have hcv := k3.lt
  clear hA hC hO2 b2
  have H0 := Lib.hid (And.intro hA2 hD2)
  clear hA2 hD2
  refine rf_law2 (gf := 52) (lb := #[.pointer (some ⟨cp, 0, none⟩), .pointer (some ⟨cs, 0, none⟩), .pointer (some ⟨cv, 0, none⟩)]) (c := fun k => k = cs) (d := fun k => k = cs ∨ k = cp ∨ k = cv) (enc := fun l : List UInt8 => Value.string (tx l)) (xs := splS 47 l)
    rfl (enters_of Tryd.func52 (by kernel_rfl) rfl) (by rintro k rfl; omega) (by rintro k (rfl | rfl | rfl) <;> omega)
    (fun W1 ho => SH.out W1 cs cp cv ⟨k7, k8⟩ (k1.only ho (fun h => h)) (k2.only ho (fun h => h)) (k3.only ho (fun h => h))) rfl
    (WI w) (fun ch pre W => ch = .ret ∧ WX w (splS 47 l) pre W) ?hI ?hIx ?h0 ?hround ?hdone ?hstop
  case hI =>
    rintro pre X Y ⟨o1, o3, o4⟩ ho
    have hne : ∀ k, k < w.heap.size + 1 → ¬ Sx (fun k => k = cs) w2 k := fun k hk => sx_no (fun h => by omega) (.inl (by omega))
    exact ⟨o1.only ho (hne _ (by omega)), o3, o4.trans (ho.below (B := w.heap.size) o4.size (by rintro k (h | h | h) <;> omega))⟩
  case hIx =>
    rintro ch pre X Y ⟨rfl, o1, o2, o3, o4⟩ ho
    have hne : ∀ k, k < w.heap.size + 1 → ¬ Sx (fun k => k = cs) w2 k := fun k hk => sx_no (fun h => by omega) (.inl (by omega))
    exact ⟨rfl, o1.only ho (hne _ (by omega)), o2, o3, o4.trans (ho.below (B := w.heap.size) o4.size (by rintro k (h | h | h) <;> omega))⟩
  case h0 => exact ⟨H0.out.1, rfl, H0.out.2⟩
  case hround =>
    intro x
    refine ⟨_, fun l W K hK => by gi_wp2; exact hK, fun lp pre W hI hz hpre => ?_⟩
    obtain ⟨o1, o3, o4⟩ := hI
    have hxl := hlen x (hpre.subset (by simp))
    have T1 := Lib.hid (fun W => part_any x (by omega) W)
    obtain ⟨q, hq⟩ : ∃ q, partM x = q := ⟨_, rfl⟩
    rw [hq] at T1
    have hall : (pre ++ [x]).all partM = q := by rw [List.all_append, o3]; simp [hq]
    have HO := Lib.hid (And.intro o1 (And.intro o4 (And.intro hz (And.intro hpre hall))))
    clear o1 o3 o4 hz hpre hq hall
    cases q with
    | true =>
      gi_wp2_with (refine ⟨trivial, ?_⟩; gi_at_call 25; refine (CallsIn.inRound lp (callsIn_wide.2 (T1.out _))).mono ?_; rintro e w' ⟨rfl, b1⟩)
      obtain ⟨o1, o4, hz, hpre, hall⟩ := HO.out
      have OW := Only.of_below b1 Nob
      exact ⟨OW.size, fun k hk => OW.block k (by rcases hk with (h | h | h) | h | h <;> omega) (fun h => h), o1.only OW (fun h => h), hall, o4.trans (OW.below o4.size (fun k h => h.elim))⟩
    | false =>
      gi_wp2_with (refine ⟨trivial, ?_⟩; gi_at_call 25; refine (CallsIn.inRound lp (callsIn_wide.2 (T1.out _))).mono ?_; rintro e w' ⟨rfl, b1⟩; have A5 := HO.out.1.only (Only.of_below b1 Nob) (fun h => h); have cA5 := A5.cell 0; have fA5 := A5.frozen 0; simp only [List.getElem?_toArray, List.getElem?_cons_zero] at cA5; have HA5 := Lib.hid A5; clear A5)
      obtain ⟨o1, o4, hz, hpre, hall⟩ := HO.out
      have OW0 := Only.of_below b1 (fun k => k = w.heap.size)
      have OW := OW0.setCell (p := ⟨w.heap.size, 0, none⟩) (.inl rfl) (Value.bool false)
      exact ⟨OW.size, fun k hk => OW.block k (by rcases hk with (h | h | h) | h | h <;> omega) (by rcases hk with (h | h | h) | h | h <;> omega), rfl, HA5.out.put 0 _, hall, hpre, o4.trans (OW.below o4.size (fun k h => by omega))⟩
  case hdone =>
    rintro W ⟨o1, o3, o4⟩ hK
    have c2 := o1.cell 0
    have f2 := o1.frozen 0
    simp only [List.getElem?_toArray, List.getElem?_cons_zero] at c2
    gi_wp2_with (refine ⟨trivial, ?_⟩; gi_at_call 26; refine (callsIn_wide.2 (RR.out _)).mono ?_; rintro e w' ⟨rfl, rfl⟩)
    have o1' := o1.put 0 (.bool r)
    have OW := (Only.refl (fun k => k = w.heap.size) W).setCell (p := ⟨w.heap.size, 0, none⟩) (.inl rfl) (Value.bool r)
    have hK' := (OW.block _ (Array.getElem?_eq_some_iff.1 hK).1 (by omega)).trans hK
    have OP := only_putObj (S := fun k => k = w2.heap.size) (W.setCell { block := w.heap.size, off := 0 } (Value.bool r)) w2.heap.size (.deferred none) rfl
    refine ⟨by simp, .inl ⟨_, _, rfl, run_takeDeferred hK', ?_⟩⟩
    refine ⟨_, results_one rfl _ _ w.heap.size _ rfl (load4 _ _ r ?_), by rw [← HR.out, o3]; rfl, (o4.trans (OW.below o4.size (fun k h => by omega))).trans (OP.below (Nat.le_trans o4.size OW.size) (fun k h => by omega))⟩
    exact (o1'.only OP (by omega)).cell 0
  case hstop =>
    rintro ch pre W ⟨rfl, o1, o2, o3, o4⟩ hK
    have c2 := o1.cell 0
    simp only [List.getElem?_toArray, List.getElem?_cons_zero] at c2
    gi_wp2
    have OP := only_putObj (S := fun k => k = w2.heap.size) W w2.heap.size (.deferred none) rfl
    refine ⟨by simp, .inl ⟨_, _, rfl, run_takeDeferred hK, ?_⟩⟩
    obtain ⟨rest, hrest⟩ := o3
    refine ⟨_, results_one rfl _ _ w.heap.size _ rfl (load4 _ _ false ?_), by rw [← HR.out, ← hrest, List.all_append, o2]; rfl, o4.trans (OP.below o4.size (fun k h => by omega))⟩
    exact (o1.only OP (by omega)).cell 0
end Go.Proofs.YtibkdmliolebgaaDoor
