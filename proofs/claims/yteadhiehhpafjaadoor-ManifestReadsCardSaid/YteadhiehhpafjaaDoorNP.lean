/-
  The program's parseSections. Conditions: a text of less than four thousand million bytes.
-/
import Derived.Test.YteadhiehhpafjaaDoorNO
import Derived.Laws.Cover3
namespace Go.Proofs.YteadhiehhpafjaaDoor
open Go Go.RowKit
attribute [local go_sem] Oper.semAt_some
set_option maxRecDepth 100000

/-- What is done with a section's text, behind others. -/
def fstOf (acc : List Sec) : ByteArray := if acc = [] then mainF else partF
def psF : List Sec → List (List UInt8) → Int × List Sec
  | acc, [] => (0, acc)
  | acc, x :: xs => if Lib.trimB x 10 = [] then psF acc xs else
    if (psL (fstOf acc) [] (splL [10] (Lib.trimB x 10))).1 = 0 then psF (acc ++ [(psL (fstOf acc) [] (splL [10] (Lib.trimB x 10))).2]) xs
    else ((psL (fstOf acc) [] (splL [10] (Lib.trimB x 10))).1, [])
theorem psF_app : ∀ (acc : List Sec) (ls r : List (List UInt8)), psF acc (ls ++ r) = if (psF acc ls).1 = 0 then psF (psF acc ls).2 r else psF acc ls
  | acc, [], r => by simp [psF]
  | acc, l :: ls, r => by
    rw [List.cons_append, psF, psF]
    by_cases h0 : Lib.trimB l 10 = []
    · rw [if_pos h0, if_pos h0]; exact psF_app acc ls r
    · rw [if_neg h0, if_neg h0]
      by_cases h : (psL (fstOf acc) [] (splL [10] (Lib.trimB l 10))).1 = 0
      · rw [if_pos h, if_pos h]; exact psF_app _ ls r
      · rw [if_neg h, if_neg h, if_neg h]
theorem psF_step (acc acc2 : List Sec) (pre : List (List UInt8)) (x : List UInt8) (h : psF acc pre = (0, acc2)) : psF acc (pre ++ [x]) = if Lib.trimB x 10 = [] then (0, acc2) else
    if (psL (fstOf acc2) [] (splL [10] (Lib.trimB x 10))).1 = 0 then (0, acc2 ++ [(psL (fstOf acc2) [] (splL [10] (Lib.trimB x 10))).2]) else ((psL (fstOf acc2) [] (splL [10] (Lib.trimB x 10))).1, []) := by
  rw [psF_app, h, if_pos rfl, psF]
  split
  · rfl
  · split <;> rfl
theorem psF_length : ∀ (acc : List Sec) (ls : List (List UInt8)), (psF acc ls).2.length ≤ acc.length + ls.length
  | acc, [] => by simp [psF]
  | acc, l :: ls => by
    rw [psF]
    split
    · have := psF_length acc ls; simp; omega
    · split
      · have := psF_length (acc ++ [(psL (fstOf acc) [] (splL [10] (Lib.trimB l 10))).2]) ls; simp at this ⊢; omega
      · simp
theorem psL_all (first : ByteArray) : ∀ (acc acc2 : Sec) (ls : List (List UInt8)), psL first acc ls = (0, acc2) → acc2.length = acc.length + ls.length
  | acc, acc2, [], h => by simp [psL] at h; rw [h]; simp
  | acc, acc2, l :: ls, h => by
    rw [psL] at h
    split at h
    · have := psL_all first _ _ ls h; simp at this ⊢; omega
    · rename_i hn; injection h with h1 h2; exact absurd h1 hn
theorem splF_pos (sep : List UInt8) : ∀ (k : Nat) (s : List UInt8), 0 < (splF sep k s).length
  | 0, _ => by simp [splF]
  | k + 1, s => by unfold splF; split <;> simp
theorem trimB_len (l : List UInt8) (c : UInt8) : (Lib.trimB l c).length ≤ l.length := by
  unfold Lib.trimB Lib.trimLeftB Lib.trimRightB
  refine Nat.le_trans (List.IsSuffix.length_le (List.dropWhile_suffix _)) ?_
  rw [List.length_reverse]
  refine Nat.le_trans (List.IsSuffix.length_le (List.dropWhile_suffix _)) ?_
  simp

theorem only_setRow {S : Nat → Prop} (w : World) (g : Nat) (cs : Array Value) (hg : S g) : Only S w (w.setRow g cs) := by
  have hb := below_setRow (Below.refl 0 w) (g := g) cs (Nat.zero_le _)
  exact ⟨hb.os, hb.tape, hb.output, hb.size, fun i _ hn => setRow_other w g i cs (fun e => hn (e ▸ hg))⟩
theorem eql_nil (w : World) (A : Option Addr) (n c : Nat) : (binOp .eql 24 (.slice A n c) (.slice none 0 0)).run Tryd.prog w = .ok (.bool A.isNone) w := by
  simp only [binOp]
  simp [run_equal_slice_nil w 24 44 A n c Tryd.underlying24]
/-- Sections in rows of the call's own. -/
def SecsOwn (W : World) (base z : Nat) (rows : List Value) (ps : List Sec) : Prop :=
  rows.length = ps.length ∧ ∀ (i : Nat) (h : i < ps.length), ∃ v, rows[i]? = some v ∧ W.ownsRow base 44 2 v ps[i].length (pvs ps[i]) ∧ ∀ k, v.ownBlock = some k → z ≤ k
theorem SecsOwn.only {W W' : World} {base z : Nat} {rows : List Value} {ps : List Sec} {S : Nat → Prop} (h : SecsOwn W base z rows ps) (ho : Only S W W') (hn : ∀ k cs, z ≤ k → Whole W k 44 cs → ¬ S k) : SecsOwn W' base z rows ps :=
  ⟨h.1, fun i hi => by
    obtain ⟨v, h1, h2, h3⟩ := h.2 i hi
    refine ⟨v, h1, own_only h2 ho (fun k hk => ?_), h3⟩
    obtain ⟨_, cs, hw⟩ := own_whole h2 hk
    exact hn k cs (h3 k hk) hw⟩
/-- A manifest under way: none yet, or a main section and others. -/
def ManOwn (W : World) (base z : Nat) (vm vp : Value) (acc : List Sec) : Prop :=
  (acc = [] ∧ vm = .slice none 0 0 ∧ vp = .slice none 0 0) ∨
  (∃ main ps rows, acc = main :: ps ∧ 0 < main.length ∧ W.ownsRow base 44 2 vm main.length (pvs main) ∧ (∀ k, vm.ownBlock = some k → z ≤ k) ∧
    W.ownsRow base 24 1 vp ps.length rows ∧ (∀ k, vp.ownBlock = some k → z ≤ k) ∧ SecsOwn W base z rows ps)
theorem ManOwn.only {W W' : World} {base z : Nat} {vm vp : Value} {acc : List Sec} {S : Nat → Prop} (h : ManOwn W base z vm vp acc) (ho : Only S W W') (hn : ∀ k, z ≤ k → k < W.heap.size → ¬ S k) : ManOwn W' base z vm vp acc := by
  rcases h with h | ⟨main, ps, rows, h1, h2, h3, h4, h5, h6, h7⟩
  · exact .inl h
  · refine .inr ⟨main, ps, rows, h1, h2, own_only h3 ho (fun k hk => hn k (h4 k hk) ?_), h4, own_only h5 ho (fun k hk => hn k (h6 k hk) ?_), h6, h7.only ho (fun k cs hz hw => hn k hz hw.lt)⟩
    · obtain ⟨_, cs, hw⟩ := own_whole h3 hk
      exact hw.lt
    · obtain ⟨_, cs, hw⟩ := own_whole h5 hk
      exact hw.lt

/-- What holds between the sections. -/
def MI (w w2 : World) (pre : List (List UInt8)) (W : World) : Prop :=
  ∃ vm vp acc, psF [] pre = (0, acc) ∧ ManOwn W w.heap.size (w2.heap.size + 2) vm vp acc ∧
    Whole W w.heap.size 27 #[.slice none 0 0, .slice none 0 0] ∧ Whole W (w.heap.size + 1) 28 #[.int .i64 0] ∧ Whole W (w.heap.size + 2) 27 #[vm, vp] ∧ Below w.heap.size w W
/-- What holds where a section is wrong. -/
def MX (w : World) (xs pre : List (List UInt8)) (W : World) : Prop :=
  ∃ r, r ≠ 0 ∧ psF [] pre = (r, []) ∧ pre <+: xs ∧ Whole W w.heap.size 27 #[.slice none 0 0, .slice none 0 0] ∧ Whole W (w.heap.size + 1) 28 #[.int .i64 r] ∧ Below w.heap.size w W
/-- What sections' texts tell. -/
def psAll (xs : List (List UInt8)) : Int × List Sec := if (psF [] xs).1 = 0 ∧ (psF [] xs).2 = [] then (2, []) else psF [] xs
/-- What parsing sections does. -/
def ParsesAll (w : World) (r : Int × List Sec) (e : Ending) (w' : World) : Prop :=
  ∃ vm vp, e = .returned (.tuple #[.agg #[vm, vp], .int .i64 r.1]) ∧ Below w.heap.size w w' ∧ (r.1 ≠ 0 → vm = .slice none 0 0 ∧ vp = .slice none 0 0) ∧ (r.1 = 0 → r.2 ≠ [] ∧ ManOwn w' w.heap.size w.heap.size vm vp r.2)
theorem trim_any (x : List UInt8) (hx : x.length ≤ 4294967296) (w : World) : Calls Tryd.prog 39 #[.string (tx x), .string ⟨#[10]⟩] w fun e w' => e = .returned (.string (tx (Lib.trimB x 10))) ∧ ∃ n, w' = w.drewN n :=
  (Tryd.strings_Trim_one (tx x) 10 (by decide) w (by rw [tx_size]; omega)).mono fun e w' ⟨h1, h2⟩ => ⟨h1, by
    rcases h2 with h2 | h2
    · exact ⟨0, h2⟩
    · exact ⟨1, h2⟩⟩
theorem man_size (a b : Value) : (Tryd.prog.info? 27).map (·.size) = some (#[a, b] : Array Value).size := by
  show _ = some 2
  kernel_rfl
theorem two_one (a b : Option Addr × Nat × Nat) : (#[.slice a.1 a.2.1 a.2.2, .slice b.1 b.2.1 b.2.2] : Array Value).all (·.oneCell') = true := by simp [Value.oneCell']
theorem nil_one : (#[.slice none 0 0, .slice none 0 0] : Array Value).all (·.oneCell') = true := by simp [Value.oneCell']
theorem slice_info : (Tryd.prog.info? 24).map (fun i => (i.zero, i.size, i.bytes)) = some (some (.slice none 0 0), 1, 24) := by kernel_rfl

set_option maxHeartbeats 8000000 in
theorem psecs_any (s : List UInt8) (hs : s.length < 4294967281) (m : Int) (w : World) (hm : w.cell? ⟨1, 0, none⟩ = some (.int .i64 m)) :
    Calls Tryd.prog 24 #[.string (tx s)] w (ParsesAll w (psAll (splL [10, 10] s))) := by
  have SP := Lib.hid (fun W => split_new (tx s) ⟨#[10, 10]⟩ W)
  refine callsIn_wide.1 (callsIn_of_wp_marks (n := 3) Tryd.func24 rfl trivial ?_ rfl)
  simp only [Tryd.ntmps24, List.size_toArray, List.length_cons, List.length_nil, Nat.reduceAdd, Nat.reduceSub, Array.replicate_succ, Array.replicate_zero, List.push_toArray, List.append_toArray, List.nil_append, List.cons_append]
  obtain ⟨w0, hw0⟩ : ∃ W, ((w.alloc (.cells #[.slice none 0 0, .slice none 0 0] 27)).alloc (.cells #[.int .i64 0] 28)).alloc (.cells #[.slice none 0 0, .slice none 0 0] 27) = W := ⟨_, rfl⟩
  have h1w : 1 < w.heap.size := World.block_lt_of_cell? w ⟨1, 0, none⟩ hm
  have HA : Hid (Whole w0 w.heap.size 27 #[.slice none 0 0, .slice none 0 0] ∧ Whole w0 (w.heap.size + 1) 28 #[.int .i64 0] ∧ Whole w0 (w.heap.size + 2) 27 #[.slice none 0 0, .slice none 0 0] ∧ Below w.heap.size w w0 ∧ w0.heap.size = w.heap.size + 3) := Lib.hid (by
    have a1 := Whole.new w 27 #[.slice none 0 0, .slice none 0 0]
    have a2 := Whole.new (w.alloc (.cells #[.slice none 0 0, .slice none 0 0] 27)) 28 #[.int .i64 0]
    have a3 := Whole.new ((w.alloc (.cells #[.slice none 0 0, .slice none 0 0] 27)).alloc (.cells #[.int .i64 0] 28)) 27 #[.slice none 0 0, .slice none 0 0]
    simp only [World.size_alloc] at a2 a3
    rw [← hw0]
    exact ⟨(a1.alloc _).alloc _, a2.alloc _, a3, (((Below.refl _ _).alloc (Nat.le_refl _) _).alloc (by simp) _).alloc (by simp; omega) _, by simp⟩)
  have HW0 := Lib.hid hw0
  clear hw0
  gi_wp2_with (refine ⟨trivial, ?_⟩; gi_at_call 38; refine (callsIn_wide.2 (SP.out _)).mono ?_; rintro e w2 ⟨cp, cs, cv, rfl, k1, k2, k3, k4, k5, k6, k7, k8, b2⟩)
  rw [HW0.out] at b2 k4 k5 k6
  clear HW0
  obtain ⟨hA, hB, hC, hD, hE⟩ := HA.out
  have hO2 : Only Nob w0 w2 := Only.of_below b2 Nob
  have hA2 := hA.only hO2 (fun h => h)
  have hB2 := hB.only hO2 (fun h => h)
  have hC2 := hC.only hO2 (fun h => h)
  have hD2 := hD.trans (hO2.below (B := w.heap.size) (by omega) (fun k h => h.elim))
  have hs2 := b2.size
  have hcs := k1.lt
  have hcp := k2.lt
  have hcv := k3.lt
  have hm2 : w2.cell? ⟨1, 0, none⟩ = some (.int .i64 m) := (World.cell?_of_block (a := ⟨1, 0, none⟩) (hD2.block 1 h1w)).trans hm
  clear hA hB hC hD hO2 b2
  have H0 := Lib.hid (And.intro hA2 (And.intro hB2 (And.intro hC2 hD2)))
  clear hA2 hB2 hC2 hD2
  have hxs : ∀ x ∈ splL [10, 10] s, x.length ≤ s.length := fun x hx => splF_len [10, 10] _ _ x hx
  have hxn : (splL [10, 10] s).length ≤ s.length + 1 := splF_count [10, 10] _ _
  refine rf_law2 (gf := 78) (lb := #[.pointer (some ⟨cp, 0, none⟩), .pointer (some ⟨cs, 0, none⟩), .pointer (some ⟨cv, 0, none⟩)]) (c := fun k => k = cs) (d := fun k => k = cs ∨ k = cp ∨ k = cv ∨ k = 1) (enc := fun l : List UInt8 => Value.string (tx l)) (xs := splL [10, 10] s)
    rfl (enters_of Tryd.func78 (by kernel_rfl) rfl) (by rintro k rfl; omega) (by rintro k (rfl | rfl | rfl | rfl) <;> omega)
    (fun W1 ho => split_hands W1 cs cp cv s [10, 10] hs (by decide) (by decide) m ⟨k7, k8, by omega⟩ (ho.cell hm2 (fun h => h)) (k1.only ho (fun h => h)) (k2.only ho (fun h => h)) (k3.only ho (fun h => h))) rfl
    (MI w w2) (fun ch pre W => ch = .ret ∧ MX w (splL [10, 10] s) pre W) ?hI ?hIx ?h0 ?hround ?hdone ?hstop
  case hI =>
    rintro pre X Y ⟨vm, vp, acc, p1, o1, oA, oB, oC, o4⟩ ho
    have hne : ∀ k, k < w.heap.size + 3 → ¬ Sx (fun k => k = cs) w2 k := fun k hk => sx_no (fun h => by omega) (.inl (by omega))
    exact ⟨vm, vp, acc, p1, o1.only ho (fun k hk _ => sx_no (fun h => by omega) (.inr hk)), oA.only ho (hne _ (by omega)), oB.only ho (hne _ (by omega)), oC.only ho (hne _ (by omega)), o4.trans (ho.below (B := w.heap.size) o4.size (by rintro k (h | h | h) <;> omega))⟩
  case hIx =>
    rintro ch pre X Y ⟨rfl, r, r0, r1, r2, oA, oB, o4⟩ ho
    have hne : ∀ k, k < w.heap.size + 3 → ¬ Sx (fun k => k = cs) w2 k := fun k hk => sx_no (fun h => by omega) (.inl (by omega))
    exact ⟨rfl, r, r0, r1, r2, oA.only ho (hne _ (by omega)), oB.only ho (hne _ (by omega)), o4.trans (ho.below (B := w.heap.size) o4.size (by rintro k (h | h | h) <;> omega))⟩
  case h0 =>
    obtain ⟨h1, h2, h3, h4⟩ := H0.out
    exact ⟨_, _, [], rfl, .inl ⟨rfl, rfl, rfl⟩, h1, h2, h3, h4⟩
  case hround =>
    intro x
    refine ⟨_, fun l W K hK => by gi_wp2; exact hK, fun l pre W hI hz hpre => ?_⟩
    obtain ⟨vm, vp, acc, p1, o1, oA, oB, oC, o4⟩ := hI
    have hx : x ∈ splL [10, 10] s := hpre.subset (by simp)
    have hxl := hxs x hx
    have hmW : W.cell? ⟨1, 0, none⟩ = some (.int .i64 m) := (World.cell?_of_block (a := ⟨1, 0, none⟩) (o4.block 1 h1w)).trans hm
    have T1 := Lib.hid (trim_any x (by omega) W)
    have hstep := psF_step [] acc pre x p1
    have hal : acc.length ≤ s.length + 1 := by
      have a1 := psF_length [] pre
      rw [p1] at a1
      have a2 := hpre.length_le
      simp at a1 a2; omega
    obtain ⟨y, hy⟩ : ∃ y, Lib.trimB x 10 = y := ⟨_, rfl⟩
    have hyl : y.length ≤ x.length := by rw [← hy]; exact trimB_len x 10
    rw [hy] at T1 hstep
    have hye : (tx y).toList.isEmpty = decide (y.length = 0) := by rw [ba_empty, tx_size]
    have cC0 := oC.cell 0
    have cC1 := oC.cell 1
    simp only [List.getElem?_toArray, List.getElem?_cons_zero, List.getElem?_cons_succ] at cC0 cC1
    have HO := Lib.hid (And.intro o1 (And.intro oA (And.intro oB (And.intro oC (And.intro o4 (And.intro hz hpre))))))
    clear hx hy
    have EN := fun W => eql_nil W none 0 0
    simp only [Option.isNone_none] at EN
    by_cases hy0 : y = []
    · rw [if_pos hy0] at hstep
      have hye2 : (tx y).toList.isEmpty = true := by rw [hye, hy0]; rfl
      have HST := Lib.hid hstep
      clear hstep hye hy0 o1 oA oB oC o4 hz hpre
      gi_wp2_with (refine ⟨trivial, ?_⟩; gi_at_call 39; refine (CallsIn.inRound l (callsIn_wide.2 T1.out)).mono ?_; rintro e w' ⟨rfl, nd, rfl⟩)
      obtain ⟨o1, oA, oB, oC, o4, hz, hpre⟩ := HO.out
      have OW := (Only.refl Nob W).drewN nd
      exact ⟨OW.size, fun k hk => rfl, vm, vp, acc, HST.out, o1.only OW (fun _ _ _ h => h), oA.drewN nd, oB.drewN nd, oC.drewN nd, o4.trans (OW.below o4.size (fun k h => h.elim))⟩
    · rw [if_neg hy0] at hstep
      have hye2 : (tx y).toList.isEmpty = false := by rw [hye, decide_eq_false_iff_not]; exact fun h => hy0 (List.eq_nil_of_length_eq_zero h)
      rcases o1 with ⟨rfl, rfl, rfl⟩ | ⟨main, ps, rows, rfl, hml, om1, om2, op1, op2, oss⟩
      · have PS := Lib.hid (fun nd => psec_any y mainF (by omega) m (W.drewN nd) hmW)
        rw [show fstOf [] = mainF from rfl] at hstep
        obtain ⟨q, hq⟩ : ∃ q, psL mainF [] (splL [10] y) = q := ⟨_, rfl⟩
        rw [hq] at hstep PS
        unfold mainF at PS
        obtain ⟨r, sec⟩ := q
        have HQ := Lib.hid hq
        have HY0 := Lib.hid hy0
        simp only at hstep
        clear hq hye hy0
        by_cases hr0 : r = 0
        · subst hr0
          rw [if_pos rfl] at hstep
          have HST := Lib.hid hstep
          clear hstep oA oB oC o4 hz hpre
          gi_wp2_with (first | (refine ⟨trivial, ?_⟩; gi_at_call 39; refine (CallsIn.inRound l (callsIn_wide.2 T1.out)).mono ?_; rintro e w' ⟨rfl, nd, rfl⟩) | (refine ⟨trivial, ?_⟩; gi_at_call 40; refine (CallsIn.inRound l (callsIn_wide.2 (PS.out _))).mono ?_; rintro e w5 ⟨v5, rfl, g1, g2, b5⟩; have A5 := Lib.hid ((HO.out.2.1.drewN nd).bel b5); have B5 := Lib.hid ((HO.out.2.2.1.drewN nd).bel b5); have C5 := Lib.hid ((HO.out.2.2.2.1.drewN nd).bel b5); have cB5 := B5.out.cell 0; have fB5 := B5.out.frozen 0; have cC50 := C5.out.cell 0; have cC51 := C5.out.cell 1; have fC50 := C5.out.frozen 0; have fC51 := C5.out.frozen 1; simp only [List.getElem?_toArray, List.getElem?_cons_zero, List.getElem?_cons_succ] at cB5 cC50 cC51; have o5 := g2 rfl; obtain ⟨A6, c6, rfl, _⟩ := own_form o5; have H5 := Lib.hid (And.intro o5 b5); clear o5 g1 g2 b5))
          obtain ⟨o1, oA, oB, oC, o4, hz, hpre⟩ := HO.out
          obtain ⟨o5, b5⟩ := H5.out
          have O7 : Only (fun k => k = w.heap.size + 2) w5 (w5.setCell { block := w.heap.size + 1 + 1, off := 0 } (Value.slice A6 sec.length c6)) := (Only.refl (fun k => k = w.heap.size + 2) w5).setCell (p := ⟨w.heap.size + 1 + 1, 0, none⟩) (.inl rfl) _
          have OW : Only (fun k => k = w.heap.size + 2) W (w5.setCell { block := w.heap.size + 1 + 1, off := 0 } (Value.slice A6 sec.length c6)) := (((Only.refl (fun k => k = w.heap.size + 2) W).drewN nd).trans (Only.of_below b5 _)).trans O7
          have hkz : ∀ k, (Value.slice A6 sec.length c6).ownBlock = some k → w2.heap.size + 2 ≤ k := fun k hk => by have a1 : W.heap.size ≤ k := (own_whole o5 hk).1; omega
          refine ⟨OW.size, fun k hk => OW.block k (by rcases hk with (h | h | h | h) | h | h <;> omega) (by rcases hk with (h | h | h | h) | h | h <;> omega), _, _, [sec], HST.out, .inr ⟨sec, [], [], rfl, ?_, own_only (own_base o5 (base' := w.heap.size) (by have := o4.size; show w.heap.size ≤ W.heap.size; omega)) O7 (fun k hk h => by have := hkz k hk; omega), hkz, World.ownsRow_nil _ _ _ _, fun k hk => by simp [Value.ownBlock] at hk, rfl, fun i h => absurd h (Nat.not_lt_zero _)⟩, A5.out.only O7 (by omega), B5.out.only O7 (by omega), C5.out.put 0 _, o4.trans (OW.below o4.size (fun k h => by omega))⟩
          have := psL_all mainF [] sec _ HQ.out
          have := splF_pos [10] y.length y
          unfold splL at *
          simp at *; omega
        · rw [if_neg hr0] at hstep
          have hr1 : (r != 0) = true := by rw [bne_iff_ne]; exact hr0
          have HST := Lib.hid hstep
          have HR0 := Lib.hid hr0
          clear hstep hr0 oA oB oC o4 hz hpre
          gi_wp2_with (first | (refine wpListIn_store_row rfl 27 (.tmp 2) (.tmp 27) rfl w.heap.size #[.slice none 0 0, .slice none 0 0] rfl rfl 27 #[.slice none 0 0, .slice none 0 0] A5.out (man_size _ _) rfl nil_one ?_) | (refine ⟨trivial, ?_⟩; gi_at_call 39; refine (CallsIn.inRound l (callsIn_wide.2 T1.out)).mono ?_; rintro e w' ⟨rfl, nd, rfl⟩) | (refine ⟨trivial, ?_⟩; gi_at_call 40; refine (CallsIn.inRound l (callsIn_wide.2 (PS.out _))).mono ?_; rintro e w5 ⟨v5, rfl, g1, g2, b5⟩; have A5 := Lib.hid ((HO.out.2.1.drewN nd).bel b5); have B5 := Lib.hid ((HO.out.2.2.1.drewN nd).bel b5); have C5 := Lib.hid ((HO.out.2.2.2.1.drewN nd).bel b5); have cB5 := B5.out.cell 0; have fB5 := B5.out.frozen 0; have cC50 := C5.out.cell 0; have cC51 := C5.out.cell 1; have fC50 := C5.out.frozen 0; have fC51 := C5.out.frozen 1; simp only [List.getElem?_toArray, List.getElem?_cons_zero, List.getElem?_cons_succ] at cB5 cC50 cC51; have H5 := Lib.hid b5; obtain ⟨w6, hw6⟩ : ∃ V, w5.setRow w.heap.size #[.slice none 0 0, .slice none 0 0] = V := ⟨_, rfl⟩; have O6 : Hid (Only (fun k => k = w.heap.size) w5 w6) := Lib.hid (hw6 ▸ only_setRow w5 w.heap.size _ rfl); have A6 : Hid (Whole w6 w.heap.size 27 #[.slice none 0 0, .slice none 0 0]) := Lib.hid (hw6 ▸ A5.out.setRow _); have B6 := Lib.hid (B5.out.only O6.out (by omega)); have cB6 := B6.out.cell 0; have fB6 := B6.out.frozen 0; simp only [List.getElem?_toArray, List.getElem?_cons_zero] at cB6; clear g1 g2 b5))
          obtain ⟨o1, oA, oB, oC, o4, hz, hpre⟩ := HO.out
          have O7 : Only (fun k => k = w.heap.size + 1) w6 (w6.setCell { block := w.heap.size + 1, off := 0 } (Value.int .i64 r)) := (Only.refl (fun k => k = w.heap.size + 1) w6).setCell (p := ⟨w.heap.size + 1, 0, none⟩) (.inl rfl) _
          have OW : Only (fun k => k = w.heap.size ∨ k = w.heap.size + 1) W (w6.setCell { block := w.heap.size + 1, off := 0 } (Value.int .i64 r)) :=
            ((((Only.refl (fun k => k = w.heap.size ∨ k = w.heap.size + 1) W).drewN nd).trans (Only.of_below H5.out _)).trans (O6.out.mono (fun k _ h => .inl h))).trans (O7.mono (fun k _ h => .inr h))
          exact ⟨OW.size, fun k hk => OW.block k (by rcases hk with (h | h | h | h) | h | h <;> omega) (by rcases hk with (h | h | h | h) | h | h <;> omega), rfl, r, HR0.out, HST.out, hpre, A6.out.only O7 (by omega), B6.out.put 0 _, o4.trans (OW.below o4.size (fun k h => by omega))⟩
      · obtain ⟨gm, cm, rfl, _, _⟩ := own_pos om1 hml
        have EN2 := fun W => eql_nil W (some ⟨gm, 0, none⟩) main.length cm
        simp only [Option.isNone_some] at EN2
        have PS := Lib.hid (fun nd => psec_any y partF (by omega) m (W.drewN nd) hmW)
        rw [show fstOf (main :: ps) = partF from rfl] at hstep
        obtain ⟨q, hq⟩ : ∃ q, psL partF [] (splL [10] y) = q := ⟨_, rfl⟩
        rw [hq] at hstep PS
        unfold partF at PS
        obtain ⟨r, sec⟩ := q
        have HQ := Lib.hid hq
        have HY0 := Lib.hid hy0
        have HM := Lib.hid (And.intro om1 (And.intro om2 (And.intro op1 (And.intro op2 oss))))
        have hpl : ps.length ≤ s.length + 1 := by simp at hal; omega
        simp only at hstep
        clear hq hye hy0 om1 om2 op1 op2 oss EN
        by_cases hr0 : r = 0
        · subst hr0
          rw [if_pos rfl] at hstep
          have HST := Lib.hid hstep
          clear hstep oA oB oC o4 hz hpre
          obtain ⟨i0, hi0, hz0, hz1, hz2⟩ := info_parts slice_info
          gi_wp2_with (first | (refine ⟨trivial, ?_⟩; gi_at_call 39; refine (CallsIn.inRound l (callsIn_wide.2 T1.out)).mono ?_; rintro e w' ⟨rfl, nd, rfl⟩) | (refine ⟨trivial, ?_⟩; gi_at_call 40; refine (CallsIn.inRound l (callsIn_wide.2 (PS.out _))).mono ?_; rintro e w5 ⟨v5, rfl, g1, g2, b5⟩; have A5 := Lib.hid ((HO.out.2.1.drewN nd).bel b5); have B5 := Lib.hid ((HO.out.2.2.1.drewN nd).bel b5); have C5 := Lib.hid ((HO.out.2.2.2.1.drewN nd).bel b5); have cB5 := B5.out.cell 0; have fB5 := B5.out.frozen 0; have cC50 := C5.out.cell 0; have cC51 := C5.out.cell 1; have fC50 := C5.out.frozen 0; have fC51 := C5.out.frozen 1; simp only [List.getElem?_toArray, List.getElem?_cons_zero, List.getElem?_cons_succ] at cB5 cC50 cC51; have o5 := g2 rfl; obtain ⟨A6, c6, rfl, _⟩ := own_form o5; have q1 := own_only (own_only (own_only HM.out.2.2.1 ((Only.refl Nob W).drewN nd) (fun _ _ h => h)) (Only.of_below b5 Nob) (fun _ _ h => h)) ((Only.refl Nob w5).alloc (.cells #[.slice A6 sec.length c6] 24)) (fun _ _ h => h); obtain ⟨v2, w6, hrun, r1, r2, r3⟩ := run_append_seen (P := Tryd.prog) (w5.alloc (.cells #[.slice A6 sec.length c6] 24)) w.heap.size 25 25 24 i0 _ 1 24 Tryd.underlying25 hi0 hz0 hz1 hz2 rfl (by omega) vp ps.length _ q1 (w5.heap.size + 1) (some ⟨w5.heap.size, 0, none⟩) 1 1 [.slice A6 sec.length c6] (seen_one w5 24 (.slice A6 sec.length c6)) (by (intro u hu; simp at hu; subst hu; rfl)) (by (simp [maxLen]; omega)) (by omega) (by (have a1 := HO.out.2.2.2.2.1.size; have a2 := b5.size; rw [World.size_alloc]; have a3 : (W.drewN nd).heap.size = W.heap.size := rfl; omega)); obtain ⟨A7, c7, rfl, _⟩ := own_form r1; have C6 := Lib.hid ((C5.out.alloc (.cells #[.slice A6 sec.length c6] 24)).grown r2 (fun h => own_ne_whole HM.out.2.2.1 HO.out.2.2.2.1 (by decide) _ h.symm rfl)); have cC61 := C6.out.cell 1; have fC61 := C6.out.frozen 1; simp only [List.getElem?_toArray, List.getElem?_cons_zero, List.getElem?_cons_succ] at cC61; have H5 := Lib.hid (And.intro o5 (And.intro b5 (And.intro r1 (And.intro r2 r3)))); clear o5 g1 g2 b5 r1 r2 r3 q1) | (gi_at_builtin; refine wpListIn_append_run rfl (.tmp 35) (.tmp 37) _ rfl vp _ _ w6 rfl rfl hrun ?_))
          obtain ⟨o1, oA, oB, oC, o4, hz, hpre⟩ := HO.out
          obtain ⟨om1, om2, op1, op2, oss⟩ := HM.out
          obtain ⟨o5, b5, r1, r2, r3⟩ := H5.out
          have O5 : Only (fun k => vp.ownBlock = some k ∨ k = w.heap.size + 2) w5 (w6.setCell { block := w.heap.size + 1 + 1, off := 1 } (Value.slice A7 (ps.length + 1) c7)) :=
            (((Only.refl (fun k => vp.ownBlock = some k ∨ k = w.heap.size + 2) w5).alloc _).grown r2 (fun k h _ => .inl h)).setCell (p := ⟨w.heap.size + 1 + 1, 1, none⟩) (.inl (.inr rfl)) _
          have OW : Only (fun k => vp.ownBlock = some k ∨ k = w.heap.size + 2) W (w6.setCell { block := w.heap.size + 1 + 1, off := 1 } (Value.slice A7 (ps.length + 1) c7)) :=
            (((Only.refl _ W).drewN nd).trans (Only.of_below b5 _)).trans O5
          have O6 : Only (fun k => k = w.heap.size + 2) w6 (w6.setCell { block := w.heap.size + 1 + 1, off := 1 } (Value.slice A7 (ps.length + 1) c7)) := (Only.refl (fun k => k = w.heap.size + 2) w6).setCell (p := ⟨w.heap.size + 1 + 1, 1, none⟩) (.inl rfl) _
          have hkz : ∀ k, (Value.slice A6 sec.length c6).ownBlock = some k → w2.heap.size + 2 ≤ k := fun k hk => by have a1 : W.heap.size ≤ k := (own_whole o5 hk).1; omega
          have hkl : ∀ k, (Value.slice A6 sec.length c6).ownBlock = some k → W.heap.size ≤ k := fun k hk => (own_whole o5 hk).1
          have hW5 : W.heap.size ≤ w5.heap.size := b5.size
          have hno : ∀ k, k ≠ w.heap.size + 2 → k < w2.heap.size + 2 → ¬ (vp.ownBlock = some k ∨ k = w.heap.size + 2) := by
            intro k k2 k3 h
            rcases h with h | h
            · have := op2 k h; omega
            · exact k2 h
          have o2' : ∀ k, (Value.slice A7 (ps.length + 1) c7).ownBlock = some k → w2.heap.size + 2 ≤ k := by
            intro k hk
            rcases r3 with r3 | r3
            · exact op2 k (r3 ▸ hk)
            · rw [r3] at hk; injection hk with hk; simp at hk; omega
          have hrl := oss.1
          have oss2 := oss.only OW (fun k cs hk hw h => by
            rcases h with h | h
            · exact own_ne_whole op1 hw (by decide) k h rfl
            · omega)
          refine ⟨OW.size, fun k hk => OW.block k (by rcases hk with (h | h | h | h) | h | h <;> omega) (hno k ?_ ?_), ?_⟩
          · rcases hk with (h | h | h | h) | h | h <;> omega
          · rcases hk with (h | h | h | h) | h | h <;> omega
          · refine ⟨_, _, main :: (ps ++ [sec]), HST.out, .inr ⟨main, ps ++ [sec], rows ++ [.slice A6 sec.length c6], rfl, hml, own_only om1 OW (fun k hk h => ?_), om2, ?_, o2', ?_, ?_⟩, oA.only OW (hno _ (by omega) (by omega)), oB.only OW (hno _ (by omega) (by omega)), C6.out.put 1 _, o4.trans (OW.below o4.size (fun k h => ?_))⟩
            · rcases h with h | h
              · exact own_ne_own om1 op1 (by decide) k hk h
              · have := om2 k hk; omega
            · rw [List.length_append]
              exact own_only r1 O6 (fun k hk h => by have := o2' k hk; omega)
            · rw [List.length_append, List.length_append, hrl]; rfl
            · intro i hi
              by_cases hip : i < ps.length
              · obtain ⟨v, h1, h2, h3⟩ := oss2.2 i hip
                refine ⟨v, by rw [List.getElem?_append_left (by omega)]; exact h1, ?_, h3⟩
                rw [List.getElem_append_left hip]; exact h2
              · have hi2 : i = ps.length := by simp at hi; omega
                subst hi2
                refine ⟨_, by rw [List.getElem?_append_right (by omega), hrl]; simp, ?_, hkz⟩
                rw [List.getElem_append_right (Nat.le_refl _)]
                simp only [Nat.sub_self, List.getElem_cons_zero]
                exact own_only (own_base o5 (base' := w.heap.size) (by have := o4.size; show w.heap.size ≤ W.heap.size; omega)) O5 (fun k hk h => by
                  rcases h with h | h
                  · have a1 := hkl k hk
                    obtain ⟨_, cs', hw'⟩ := own_whole op1 h
                    have := hw'.lt; omega
                  · have := hkz k hk; omega)
            · rcases h with h | h
              · exact (own_whole op1 h).1
              · omega
        · rw [if_neg hr0] at hstep
          have hr1 : (r != 0) = true := by rw [bne_iff_ne]; exact hr0
          have HST := Lib.hid hstep
          have HR0 := Lib.hid hr0
          clear hstep hr0 oA oB oC o4 hz hpre
          gi_wp2_with (first | (refine wpListIn_store_row rfl 27 (.tmp 2) (.tmp 27) rfl w.heap.size #[.slice none 0 0, .slice none 0 0] rfl rfl 27 #[.slice none 0 0, .slice none 0 0] A5.out (man_size _ _) rfl nil_one ?_) | (refine ⟨trivial, ?_⟩; gi_at_call 39; refine (CallsIn.inRound l (callsIn_wide.2 T1.out)).mono ?_; rintro e w' ⟨rfl, nd, rfl⟩) | (refine ⟨trivial, ?_⟩; gi_at_call 40; refine (CallsIn.inRound l (callsIn_wide.2 (PS.out _))).mono ?_; rintro e w5 ⟨v5, rfl, g1, g2, b5⟩; have A5 := Lib.hid ((HO.out.2.1.drewN nd).bel b5); have B5 := Lib.hid ((HO.out.2.2.1.drewN nd).bel b5); have C5 := Lib.hid ((HO.out.2.2.2.1.drewN nd).bel b5); have cB5 := B5.out.cell 0; have fB5 := B5.out.frozen 0; have cC50 := C5.out.cell 0; have cC51 := C5.out.cell 1; have fC50 := C5.out.frozen 0; have fC51 := C5.out.frozen 1; simp only [List.getElem?_toArray, List.getElem?_cons_zero, List.getElem?_cons_succ] at cB5 cC50 cC51; have H5 := Lib.hid b5; obtain ⟨w6, hw6⟩ : ∃ V, w5.setRow w.heap.size #[.slice none 0 0, .slice none 0 0] = V := ⟨_, rfl⟩; have O6 : Hid (Only (fun k => k = w.heap.size) w5 w6) := Lib.hid (hw6 ▸ only_setRow w5 w.heap.size _ rfl); have A6 : Hid (Whole w6 w.heap.size 27 #[.slice none 0 0, .slice none 0 0]) := Lib.hid (hw6 ▸ A5.out.setRow _); have B6 := Lib.hid (B5.out.only O6.out (by omega)); have cB6 := B6.out.cell 0; have fB6 := B6.out.frozen 0; simp only [List.getElem?_toArray, List.getElem?_cons_zero] at cB6; clear g1 g2 b5))
          obtain ⟨o1, oA, oB, oC, o4, hz, hpre⟩ := HO.out
          have O7 : Only (fun k => k = w.heap.size + 1) w6 (w6.setCell { block := w.heap.size + 1, off := 0 } (Value.int .i64 r)) := (Only.refl (fun k => k = w.heap.size + 1) w6).setCell (p := ⟨w.heap.size + 1, 0, none⟩) (.inl rfl) _
          have OW : Only (fun k => k = w.heap.size ∨ k = w.heap.size + 1) W (w6.setCell { block := w.heap.size + 1, off := 0 } (Value.int .i64 r)) :=
            ((((Only.refl (fun k => k = w.heap.size ∨ k = w.heap.size + 1) W).drewN nd).trans (Only.of_below H5.out _)).trans (O6.out.mono (fun k _ h => .inl h))).trans (O7.mono (fun k _ h => .inr h))
          exact ⟨OW.size, fun k hk => OW.block k (by rcases hk with (h | h | h | h) | h | h <;> omega) (by rcases hk with (h | h | h | h) | h | h <;> omega), rfl, r, HR0.out, HST.out, hpre, A6.out.only O7 (by omega), B6.out.put 0 _, o4.trans (OW.below o4.size (fun k h => by omega))⟩
  case hdone =>
    rintro W ⟨vm, vp, acc, p1, o1, oA, oB, oC, o4⟩ hK
    have cB := oB.cell 0
    have fB := oB.frozen 0
    have cC0 := oC.cell 0
    simp only [List.getElem?_toArray, List.getElem?_cons_zero] at cB cC0
    have OA := Lib.hid oA
    have OC := Lib.hid oC
    rcases o1 with ⟨rfl, rfl, rfl⟩ | ⟨main, ps, rows, rfl, hml, om1, om2, op1, op2, oss⟩
    · have EN := fun W => eql_nil W none 0 0
      simp only [Option.isNone_none] at EN
      obtain ⟨w6, hw6⟩ : ∃ V, W.setRow w.heap.size #[.slice none 0 0, .slice none 0 0] = V := ⟨_, rfl⟩
      have O6 : Only (fun k => k = w.heap.size) W w6 := hw6 ▸ only_setRow W w.heap.size _ rfl
      have A6 : Whole w6 w.heap.size 27 #[.slice none 0 0, .slice none 0 0] := hw6 ▸ oA.setRow _
      have B6 := oB.only O6 (by omega)
      have cB6 := B6.cell 0
      have fB6 := B6.frozen 0
      simp only [List.getElem?_toArray, List.getElem?_cons_zero] at cB6
      have HH := Lib.hid (And.intro O6 (And.intro A6 (And.intro B6 o4)))
      clear O6 A6 B6 o4 oA oB oC
      gi_wp2_with (refine wpListIn_store_row rfl 27 (.tmp 2) (.tmp 43) rfl w.heap.size #[.slice none 0 0, .slice none 0 0] rfl rfl 27 #[.slice none 0 0, .slice none 0 0] OA.out (man_size _ _) rfl nil_one ?_)
      obtain ⟨O6, A6, B6, o4⟩ := HH.out
      have O7 : Only (fun k => k = w.heap.size + 1) w6 (w6.setCell { block := w.heap.size + 1, off := 0 } (Value.int .i64 2)) := (Only.refl (fun k => k = w.heap.size + 1) w6).setCell (p := ⟨w.heap.size + 1, 0, none⟩) (.inl rfl) _
      have OW : Only (fun k => k = w.heap.size ∨ k = w.heap.size + 1) W (w6.setCell { block := w.heap.size + 1, off := 0 } (Value.int .i64 2)) := (O6.mono (fun k _ h => .inl h)).trans (O7.mono (fun k _ h => .inr h))
      have hK' := (OW.block _ (Array.getElem?_eq_some_iff.1 hK).1 (by omega)).trans hK
      have A7 := A6.only O7 (by omega)
      have B7 := B6.put 0 (.int .i64 2)
      generalize w6.setCell { block := w.heap.size + 1, off := 0 } (Value.int .i64 2) = W9 at *
      have OP := only_putObj (S := fun k => k = w2.heap.size) W9 w2.heap.size (.deferred none) rfl
      have hp : psAll (splL [10, 10] s) = (2, []) := by rw [psAll, p1, if_pos ⟨rfl, rfl⟩]
      refine ⟨by simp, .inl ⟨_, _, rfl, run_takeDeferred hK', ?_⟩⟩
      refine ⟨_, results_two rfl _ _ w.heap.size (w.heap.size + 1) _ _ rfl rfl (run_loadVar_row _ _ 27 27 _ _ _ (A7.only OP (by omega)) Tryd.underlying27 rfl (man_size _ _)) (load28 _ _ 2 ((B7.only OP (by omega)).cell 0)), _, _, by rw [hp], (o4.trans (OW.below o4.size (fun k h => by omega))).trans (OP.below (Nat.le_trans o4.size OW.size) (fun k h => by omega)), fun _ => ⟨rfl, rfl⟩, fun h => by rw [hp] at h; cases h⟩
    · obtain ⟨gm, cm, rfl, _, _⟩ := own_pos om1 hml
      obtain ⟨A8, c8, rfl, _⟩ := own_form op1
      have EN := fun W => eql_nil W (some ⟨gm, 0, none⟩) main.length cm
      simp only [Option.isNone_some] at EN
      obtain ⟨w6, hw6⟩ : ∃ V, W.setRow w.heap.size #[.slice (some ⟨gm, 0, none⟩) main.length cm, .slice A8 ps.length c8] = V := ⟨_, rfl⟩
      have O6 : Only (fun k => k = w.heap.size) W w6 := hw6 ▸ only_setRow W w.heap.size _ rfl
      have A6 : Whole w6 w.heap.size 27 #[.slice (some ⟨gm, 0, none⟩) main.length cm, .slice A8 ps.length c8] := hw6 ▸ oA.setRow _
      have B6 := oB.only O6 (by omega)
      have cB6 := B6.cell 0
      have fB6 := B6.frozen 0
      simp only [List.getElem?_toArray, List.getElem?_cons_zero] at cB6
      have HH := Lib.hid (And.intro O6 (And.intro A6 (And.intro B6 (And.intro o4 (And.intro om1 (And.intro om2 (And.intro op1 (And.intro op2 oss))))))))
      clear O6 A6 B6 o4 oA oB oC om1 om2 op1 op2 oss
      gi_wp2_with (first | (refine wpListIn_load_row rfl 27 (.tmp 4) rfl (w.heap.size + 1 + 1) rfl 27 #[.slice (some ⟨gm, 0, none⟩) main.length cm, .slice A8 ps.length c8] (0, 0) _ OC.out Tryd.underlying27 rfl (man_size _ _) ?_) | (refine wpListIn_store_row rfl 27 (.tmp 2) (.tmp 44) rfl w.heap.size #[.slice (some ⟨gm, 0, none⟩) main.length cm, .slice A8 ps.length c8] rfl rfl 27 #[.slice none 0 0, .slice none 0 0] OA.out (man_size _ _) rfl (two_one (some ⟨gm, 0, none⟩, main.length, cm) (A8, ps.length, c8)) ?_))
      obtain ⟨O6, A6, B6, o4, om1, om2, op1, op2, oss⟩ := HH.out
      have O7 : Only (fun k => k = w.heap.size + 1) w6 (w6.setCell { block := w.heap.size + 1, off := 0 } (Value.int .i64 0)) := (Only.refl (fun k => k = w.heap.size + 1) w6).setCell (p := ⟨w.heap.size + 1, 0, none⟩) (.inl rfl) _
      have OW : Only (fun k => k = w.heap.size ∨ k = w.heap.size + 1) W (w6.setCell { block := w.heap.size + 1, off := 0 } (Value.int .i64 0)) := (O6.mono (fun k _ h => .inl h)).trans (O7.mono (fun k _ h => .inr h))
      have hK' := (OW.block _ (Array.getElem?_eq_some_iff.1 hK).1 (by omega)).trans hK
      have A7 := A6.only O7 (by omega)
      have B7 := B6.put 0 (.int .i64 0)
      generalize w6.setCell { block := w.heap.size + 1, off := 0 } (Value.int .i64 0) = W9 at *
      have OP := only_putObj (S := fun k => k = w2.heap.size) W9 w2.heap.size (.deferred none) rfl
      have OO : Only (fun k => k < w2.heap.size + 2) W (W9.putObj w2.heap.size (.deferred none)) := (OW.mono (fun k _ h => by omega)).trans (OP.mono (fun k _ h => by omega))
      have hp : psAll (splL [10, 10] s) = (0, main :: ps) := by rw [psAll, p1, if_neg (fun h => by cases h.2)]
      refine ⟨by simp, .inl ⟨_, _, rfl, run_takeDeferred hK', ?_⟩⟩
      refine ⟨_, results_two rfl _ _ w.heap.size (w.heap.size + 1) _ _ rfl rfl (run_loadVar_row _ _ 27 27 _ _ _ (A7.only OP (by omega)) Tryd.underlying27 rfl (man_size _ _)) (load28 _ _ 0 ((B7.only OP (by omega)).cell 0)), _, _, by rw [hp], (o4.trans (OW.below o4.size (fun k h => by omega))).trans (OP.below (Nat.le_trans o4.size OW.size) (fun k h => by omega)), fun h => absurd (by rw [hp]) h, fun _ => ?_⟩
      rw [hp]
      refine ⟨by simp, .inr ⟨main, ps, rows, rfl, hml, own_only om1 OO (fun k hk h => by have := om2 k hk; omega), fun k hk => by have := om2 k hk; omega, own_only op1 OO (fun k hk h => by have := op2 k hk; omega), fun k hk => by have := op2 k hk; omega, ?_⟩⟩
      have := oss.only OO (fun k cs hk _ h => by omega)
      exact ⟨this.1, fun i hi => by obtain ⟨v, h1, h2, h3⟩ := this.2 i hi; exact ⟨v, h1, h2, fun k hk => by have := h3 k hk; omega⟩⟩
  case hstop =>
    rintro ch pre W ⟨rfl, r, r0, r1, r2, oA, oB, o4⟩ hK
    gi_wp2
    have OP := only_putObj (S := fun k => k = w2.heap.size) W w2.heap.size (.deferred none) rfl
    obtain ⟨rest, hrest⟩ := r2
    have hp : psAll (splL [10, 10] s) = (r, []) := by
      have : psF [] (splL [10, 10] s) = (r, []) := by rw [← hrest, psF_app, r1, if_neg r0]
      rw [psAll, this, if_neg (fun h => r0 h.1)]
    refine ⟨by simp, .inl ⟨_, _, rfl, run_takeDeferred hK, ?_⟩⟩
    refine ⟨_, results_two rfl _ _ w.heap.size (w.heap.size + 1) _ _ rfl rfl (run_loadVar_row _ _ 27 27 _ _ _ (oA.only OP (by omega)) Tryd.underlying27 rfl (man_size _ _)) (load28 _ _ r ((oB.only OP (by omega)).cell 0)), _, _, by rw [hp], o4.trans (OP.below o4.size (fun k h => by omega)), fun _ => ⟨rfl, rfl⟩, fun h => absurd (by rw [hp] at h; exact h) r0⟩
end Go.Proofs.YteadhiehhpafjaaDoor
