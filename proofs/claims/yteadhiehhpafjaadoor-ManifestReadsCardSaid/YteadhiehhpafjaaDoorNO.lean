/-
  The program's parseSection. Conditions: a text of less than four thousand million bytes.
-/
import Derived.Test.YteadhiehhpafjaaDoorNN
import Derived.Test.YteadhiehhpafjaaDoorNM
import Derived.Laws.ResultCell
import Derived.Laws.EntriesVeiled
namespace Go.Proofs.YteadhiehhpafjaaDoor
open Go Go.RowKit
attribute [local go_sem] Oper.semAt_some
set_option maxRecDepth 100000

/-- A whole row stored, within a fence. -/
theorem wpListIn_store_row {F : Fence} {nF : Nat} {P : Program} {ops : Array Oper} {rest : List Oper} {o : Oper} {a : Act} {w : World} {Q : Exit → Act → World → Prop} (hgd : o.guard = none) (ty : TypeId) (x y : Operand) (ho : o.op = .store ty x y)
    (g : Nat) (cells : Array Value) (hx : a.eval x = .pointer (some ⟨g, 0, none⟩)) (hy : a.eval y = .agg cells)
    (t : TypeId) (old : Array Value) (hg : w.heap[g]? = some (.cells old t (0, 0))) (hi : (P.info? ty).map (·.size) = some cells.size)
    (hold : old.size = cells.size) (h1 : cells.all (·.oneCell') = true)
    (h : wpListIn F nF P ops Q rest (a.put o.dst undef) (w.setRow g cells)) : wpListIn F nF P ops Q (o :: rest) a w := by
  refine wpListIn_plain hgd fun K' hK' => ?_
  unfold Oper.wpIn
  refine ⟨by simp [Oper.about, ho], ?_⟩
  rw [Oper.semAt_plain F _ _ (by rw [ho]; intro c hc'; cases hc')]
  unfold execOp
  simp only [ho, hx, hy, Instr.storeAt, Instr.sureAddr, Sem.run_bind, Sem.run_pure, Result.andThen_ok, run_storeVar_row w g t ty old cells hg hi hold h1]
  exact hK' _ _ h
/-- A whole row loaded, within a fence. -/
theorem wpListIn_load_row {F : Fence} {nF : Nat} {P : Program} {ops : Array Oper} {rest : List Oper} {o : Oper} {a : Act} {w : World} {Q : Exit → Act → World → Prop} (hgd : o.guard = none) (ty : TypeId) (x : Operand) (ho : o.op = .load ty x)
    (g : Nat) (hx : a.eval x = .pointer (some ⟨g, 0, none⟩)) (t : TypeId) (cs : Array Value) (fr : Nat × Nat) (d : TypeDesc) (hg : w.heap[g]? = some (.cells cs t fr))
    (hu : P.underlying ty = some d) (hd : (match d with | .struct _ | .array _ _ => true | _ => false) = true) (hi : (P.info? ty).map (·.size) = some cs.size)
    (h : wpListIn F nF P ops Q rest (a.put o.dst (.agg cs)) w) : wpListIn F nF P ops Q (o :: rest) a w := by
  refine wpListIn_plain hgd fun K' hK' => ?_
  unfold Oper.wpIn
  refine ⟨by simp [Oper.about, ho], ?_⟩
  rw [Oper.semAt_plain F _ _ (by rw [ho]; intro c hc'; cases hc')]
  unfold execOp
  simp only [ho, hx, Instr.loadAt, Instr.sureAddr, Sem.run_bind, Sem.run_pure, Result.andThen_ok, run_loadVar_row w g t ty cs fr d hg hu hd hi]
  exact hK' _ _ h

theorem load24 (w : World) (g : Nat) (A : Option Addr) (n c : Nat) (h : w.cell? ⟨g, 0, none⟩ = some (.slice A n c)) : (loadVar 24 ⟨g, 0, none⟩).run Tryd.prog w = .ok (.slice A n c) w := by
  simp [loadVar, Tryd.isAgg24, h, go_sem]
theorem results_two {fn : Func} {p q : Tmp} {ty tq : TypeId} (h : fn.results = #[.cell p ty, .cell q tq]) (tmps : Array Value) (w : World) (g1 g2 : Nat) (v1 v2 : Value) (hp : tmps.getD p undef = .pointer (some ⟨g1, 0, none⟩)) (hq : tmps.getD q undef = .pointer (some ⟨g2, 0, none⟩))
    (hv1 : (loadVar ty ⟨g1, 0, none⟩).run Tryd.prog w = .ok v1 w) (hv2 : (loadVar tq ⟨g2, 0, none⟩).run Tryd.prog w = .ok v2 w) : (results fn tmps).run Tryd.prog w = .ok (.tuple #[v1, v2]) w := by
  have hp' : tmps[p]?.getD undef = .pointer (some ⟨g1, 0, none⟩) := by simpa using hp
  have hq' : tmps[q]?.getD undef = .pointer (some ⟨g2, 0, none⟩) := by simpa using hq
  simp [results, h, hp', hq', asAddr, hv1, hv2]

/-- What strings.SplitSeq gives. -/
def MakesSplit (w : World) (s sep : ByteArray) (e : Ending) (w' : World) : Prop :=
  ∃ cp cs cv, e = .returned (.func (.func 78) #[] #[.pointer (some ⟨cp, 0, none⟩), .pointer (some ⟨cs, 0, none⟩), .pointer (some ⟨cv, 0, none⟩)]) ∧ Whole w' cs 9 #[.string s] ∧ Whole w' cp 9 #[.string sep] ∧ Whole w' cv 3 #[.int .i64 0] ∧
    w.heap.size ≤ cs ∧ w.heap.size ≤ cp ∧ w.heap.size ≤ cv ∧ cs ≠ cp ∧ cs ≠ cv ∧ Below w.heap.size w w'
theorem split_new0 (s sep : ByteArray) (w : World) : Calls Tryd.prog 58 #[.string s, .string sep, .int .i64 0] w (MakesSplit w s sep) := by
  have h1 := Whole.new w 9 #[.string s]
  have h2 := Whole.new (w.alloc (.cells #[.string s] 9)) 9 #[.string sep]
  have h3 := Whole.new ((w.alloc (.cells #[.string s] 9)).alloc (.cells #[.string sep] 9)) 3 #[.int .i64 0]
  simp only [World.size_alloc] at h2 h3
  have HH := Lib.hid (And.intro h1 (And.intro h2 h3))
  clear h1 h2 h3
  go_enter Tryd.func58, Tryd.ntmps58
  go_wp2
  go_ret
  obtain ⟨h1, h2, h3⟩ := HH.out
  exact ⟨w.heap.size + 1, w.heap.size, w.heap.size + 1 + 1, rfl, (h1.alloc _).alloc _, h2.alloc _, h3, Nat.le_refl _, by omega, by omega, by omega, by omega, (((Below.refl _ _).alloc (Nat.le_refl _) _).alloc (by simp) _).alloc (by simp; omega) _⟩
theorem split_new (s sep : ByteArray) (w : World) : Calls Tryd.prog 38 #[.string s, .string sep] w (MakesSplit w s sep) := by
  have S := Lib.hid (fun W => split_new0 s sep W)
  go_enter Tryd.func38, Tryd.ntmps38
  go_wp2_with (go_at_call 58; refine (S.out _).mono ?_; rintro e w' ⟨cp, cs, cv, rfl, hh⟩)
  go_ret
  exact ⟨cp, cs, cv, rfl, hh⟩

theorem splF_len (sep : List UInt8) : ∀ (k : Nat) (s : List UInt8), ∀ x ∈ splF sep k s, x.length ≤ s.length
  | 0, s, x, h => by simp [splF] at h; rw [h]; exact Nat.le_refl _
  | k + 1, s, x, h => by
    unfold splF at h
    split at h
    · simp at h; rw [h]; exact Nat.le_refl _
    · rcases List.mem_cons.1 h with rfl | h
      · simp; omega
      · have := splF_len sep k _ x h; simp at this; omega
theorem splF_count (sep : List UInt8) : ∀ (k : Nat) (s : List UInt8), (splF sep k s).length ≤ k + 1
  | 0, _ => by simp [splF]
  | k + 1, s => by
    unfold splF
    split
    · simp
    · have := splF_count sep k (s.drop ((Lib.index s sep).toNat + sep.length)); simp; omega

/-- A line's header. -/
def pairL (l : List UInt8) : ByteArray × ByteArray := (tx (Lib.cut l [58, 32]).1, tx (Lib.cut l [58, 32]).2.1)
/-- What is wrong with a line behind such headers. -/
def ps1 (first : ByteArray) (acc : Sec) (l : List UInt8) : Int := if (Lib.cut l [58, 32]).2.2 = false then 2 else judgeM first (smNames acc) (pairL l)
def psL (first : ByteArray) : Sec → List (List UInt8) → Int × Sec
  | acc, [] => (0, acc)
  | acc, l :: ls => if ps1 first acc l = 0 then psL first (acc ++ [pairL l]) ls else (ps1 first acc l, [])
theorem psL_app (first : ByteArray) : ∀ (acc : Sec) (ls r : List (List UInt8)), psL first acc (ls ++ r) = if (psL first acc ls).1 = 0 then psL first (psL first acc ls).2 r else psL first acc ls
  | acc, [], r => by simp [psL]
  | acc, l :: ls, r => by
    rw [List.cons_append, psL, psL]
    by_cases h : ps1 first acc l = 0
    · rw [if_pos h, if_pos h]; exact psL_app first _ ls r
    · rw [if_neg h, if_neg h, if_neg h]
theorem psL_length (first : ByteArray) : ∀ (acc : Sec) (ls : List (List UInt8)), (psL first acc ls).2.length ≤ acc.length + ls.length
  | acc, [] => by simp [psL]
  | acc, l :: ls => by
    rw [psL]
    split
    · have := psL_length first (acc ++ [pairL l]) ls; simp at this ⊢; omega
    · simp
theorem psL_step (first : ByteArray) (acc acc2 : Sec) (pre : List (List UInt8)) (l : List UInt8) (h : psL first acc pre = (0, acc2)) : psL first acc (pre ++ [l]) = if ps1 first acc2 l = 0 then (0, acc2 ++ [pairL l]) else (ps1 first acc2 l, []) := by
  rw [psL_app, h, if_pos rfl, psL]
  split <;> rfl

theorem pair_info : (Tryd.prog.info? 44).map (fun i => (i.zero, i.size, i.bytes)) = some (some (.agg #[.string ⟨#[]⟩, .string ⟨#[]⟩]), 2, 32) := by kernel_rfl
theorem info_parts2 {t : TypeId} {z : Value} {n k : Nat} (h : (Tryd.prog.info? t).map (fun i => (i.zero, i.size, i.bytes)) = some (some z, n, k)) : ∃ i, Tryd.prog.info? t = some i ∧ i.zero = some z ∧ i.size = n ∧ i.bytes = k := by
  cases hi : Tryd.prog.info? t with
  | none => rw [hi] at h; simp at h
  | some i => rw [hi] at h; simp at h; exact ⟨i, rfl, h.1, h.2.1, h.2.2⟩
theorem seen_pair (w : World) (a b : ByteArray) : Seen (w.alloc (.cells #[.string a, .string b] 44)) (w.heap.size + 1) 2 (some ⟨w.heap.size, 0, none⟩) 1 1 [.string a, .string b] := by
  refine ⟨rfl, Nat.le_refl _, .inr ⟨_, rfl, fun _ => ⟨rfl, by simp, fun j x hx => ?_⟩⟩⟩
  rw [Whole.cell (Whole.new w 44 #[.string a, .string b])]
  simpa using hx
theorem pvs_snoc (l : Sec) (p : ByteArray × ByteArray) : pvs (l ++ [p]) = pvs l ++ [.string p.1, .string p.2] := by simp [pvs]

/-- What holds between the lines of a section. -/
def SI (w w1 : World) (g M cj t7 : Nat) (first : ByteArray) (pre : List (List UInt8)) (W : World) : Prop :=
  ∃ v acc, psL first [] pre = (0, acc) ∧ W.ownsRow w.heap.size 44 2 v acc.length (pvs acc) ∧ (∀ k, v.ownBlock = some k → w1.heap.size + 2 ≤ k) ∧
    Whole W w.heap.size 24 #[.slice none 0 0] ∧ Whole W (w.heap.size + 1) 28 #[.int .i64 0] ∧ Whole W (w.heap.size + 2) 24 #[v] ∧ Whole W t7 79 #[judgeV g cj] ∧ JudgeAt W g M cj first (smNames acc) ∧ Below w.heap.size w W
/-- What holds where a line is wrong. -/
def SX (w : World) (first : ByteArray) (xs pre : List (List UInt8)) (W : World) : Prop :=
  ∃ r, r ≠ 0 ∧ psL first [] pre = (r, []) ∧ pre <+: xs ∧ Whole W w.heap.size 24 #[.slice none 0 0] ∧ Whole W (w.heap.size + 1) 28 #[.int .i64 r] ∧ Below w.heap.size w W
/-- What parsing a section does. -/
def ParsesSec (w : World) (r : Int × Sec) (e : Ending) (w' : World) : Prop :=
  ∃ v, e = .returned (.tuple #[v, .int .i64 r.1]) ∧ (r.1 ≠ 0 → v = .slice none 0 0) ∧ (r.1 = 0 → w'.ownsRow w.heap.size 44 2 v r.2.length (pvs r.2)) ∧ Below w.heap.size w w'
theorem cut_any (l : List UInt8) (hl : l.length < 4294967281) (m : Int) (w : World) (hm : w.cell? ⟨1, 0, none⟩ = some (.int .i64 m)) :
    Calls Tryd.prog 66 #[.string (tx l), .string ⟨#[58, 32]⟩] w fun e w' => e = .returned (.tuple #[.string (pairL l).1, .string (pairL l).2, .bool (Lib.cut l [58, 32]).2.2]) ∧ ∃ n, w' = w.drewN n :=
  Tryd.strings_Cut (tx l) ⟨#[58, 32]⟩ m w (by rw [tx_size]; exact hl) hm

set_option maxHeartbeats 8000000 in
theorem psec_any (s : List UInt8) (first : ByteArray) (hs : s.length < 4294967281) (m : Int) (w : World) (hm : w.cell? ⟨1, 0, none⟩ = some (.int .i64 m)) :
    Calls Tryd.prog 40 #[.string (tx s), .string first] w (ParsesSec w (psL first [] (splL [10] s))) := by
  have JN := Lib.hid (fun W => judge_new first W)
  have SP := Lib.hid (fun W => split_new (tx s) ⟨#[10]⟩ W)
  refine callsIn_wide.1 (callsIn_of_wp_marks (n := 3) Tryd.func40 rfl trivial ?_ rfl)
  simp only [Tryd.ntmps40, List.size_toArray, List.length_cons, List.length_nil, Nat.reduceAdd, Nat.reduceSub, Array.replicate_succ, Array.replicate_zero, List.push_toArray, List.append_toArray, List.nil_append, List.cons_append]
  obtain ⟨w0, hw0⟩ : ∃ W, ((w.alloc (.cells #[.slice none 0 0] 24)).alloc (.cells #[.int .i64 0] 28)).alloc (.cells #[.slice none 0 0] 24) = W := ⟨_, rfl⟩
  have h1w : 1 < w.heap.size := World.block_lt_of_cell? w ⟨1, 0, none⟩ hm
  have HA : Hid (Whole w0 w.heap.size 24 #[.slice none 0 0] ∧ Whole w0 (w.heap.size + 1) 28 #[.int .i64 0] ∧ Whole w0 (w.heap.size + 2) 24 #[.slice none 0 0] ∧ Below w.heap.size w w0 ∧ w0.heap.size = w.heap.size + 3) := Lib.hid (by
    have a1 := Whole.new w 24 #[.slice none 0 0]
    have a2 := Whole.new (w.alloc (.cells #[.slice none 0 0] 24)) 28 #[.int .i64 0]
    have a3 := Whole.new ((w.alloc (.cells #[.slice none 0 0] 24)).alloc (.cells #[.int .i64 0] 28)) 24 #[.slice none 0 0]
    simp only [World.size_alloc] at a2 a3
    rw [← hw0]
    exact ⟨(a1.alloc _).alloc _, a2.alloc _, a3, (((Below.refl _ _).alloc (Nat.le_refl _) _).alloc (by simp) _).alloc (by simp; omega) _, by simp⟩)
  have HW0 := Lib.hid hw0
  clear hw0
  gi_wp2_with (first | (refine ⟨trivial, ?_⟩; gi_at_call 44; refine (callsIn_wide.2 (JN.out _)).mono ?_; rintro e w1 ⟨g, M, cj, rfl, j1, j2, j3, j4, b1⟩; unfold judgeV) | (refine ⟨trivial, ?_⟩; gi_at_call 38; refine (callsIn_wide.2 (SP.out _)).mono ?_; rintro e w2 ⟨cp, cs, cv, rfl, k1, k2, k3, k4, k5, k6, k7, k8, b2⟩))
  rw [HW0.out] at b1 j2 j3 j4
  clear HW0
  obtain ⟨hA, hB, hC, hD, hE⟩ := HA.out
  have hG := Whole.new w1 79 #[judgeV g cj]
  unfold judgeV at hG
  have hO1 : Only Nob w0 w1 := Only.of_below b1 Nob
  have hO2 : Only Nob (w1.alloc (.cells #[.func (.func 67) #[] #[.pointer (some ⟨cj, 0, none⟩), .pointer (some ⟨g, 0, none⟩)]] 79)) w2 := Only.of_below b2 Nob
  have hO12 : Only Nob w0 w2 := (hO1.alloc _).trans hO2
  have hA2 := hA.only hO12 (fun h => h)
  have hB2 := hB.only hO12 (fun h => h)
  have hC2 := hC.only hO12 (fun h => h)
  have hG2 := hG.only hO2 (fun h => h)
  have hJ2 := (j1.only ((Only.refl Nob w1).alloc (.cells #[.func (.func 67) #[] #[.pointer (some ⟨cj, 0, none⟩), .pointer (some ⟨g, 0, none⟩)]] 79)) (fun h => h) (fun h => h) (fun h => h)).only hO2 (fun h => h) (fun h => h) (fun h => h)
  have hD2 := hD.trans (hO12.below (B := w.heap.size) (by omega) (fun k h => h.elim))
  have hs1 := b1.size
  have hs2 := b2.size
  simp only [World.size_alloc] at hs2 k4 k5 k6
  have hcs := k1.lt
  have hcp := k2.lt
  have hcv := k3.lt
  have hm2 : w2.cell? ⟨1, 0, none⟩ = some (.int .i64 m) := (World.cell?_of_block (a := ⟨1, 0, none⟩) (hD2.block 1 h1w)).trans hm
  have hgM := j1.set.ne j1.fst
  have hcM := j1.set.ne j1.ptr
  have hMl := j1.set.lt
  have hgl := j1.fst.lt
  have hcl := j1.ptr.lt
  clear hA hB hC hD hG hO1 hO2 hO12 b1 b2 j1
  have H0 := Lib.hid (And.intro hA2 (And.intro hB2 (And.intro hC2 (And.intro hG2 (And.intro hJ2 hD2)))))
  clear hA2 hB2 hC2 hG2 hJ2 hD2
  have hxs : ∀ x ∈ splL [10] s, x.length ≤ s.length := fun x hx => splF_len [10] _ _ x hx
  have hxn : (splL [10] s).length ≤ s.length + 1 := splF_count [10] _ _
  refine rf_law2 (gf := 78) (lb := #[.pointer (some ⟨cp, 0, none⟩), .pointer (some ⟨cs, 0, none⟩), .pointer (some ⟨cv, 0, none⟩)]) (c := fun k => k = cs) (d := fun k => k = cs ∨ k = cp ∨ k = cv ∨ k = 1) (enc := fun l : List UInt8 => Value.string (tx l)) (xs := splL [10] s)
    rfl (enters_of Tryd.func78 (by kernel_rfl) rfl) (by rintro k rfl; omega) (by rintro k (rfl | rfl | rfl | rfl) <;> omega)
    (fun W1 ho => split_hands W1 cs cp cv s [10] hs (by decide) (by decide) m ⟨k7, k8, by omega⟩ (ho.cell hm2 (fun h => h)) (k1.only ho (fun h => h)) (k2.only ho (fun h => h)) (k3.only ho (fun h => h))) rfl
    (SI w w2 g M cj w1.heap.size first) (fun ch pre W => ch = .ret ∧ SX w first (splL [10] s) pre W) ?hI ?hIx ?h0 ?hround ?hdone ?hstop
  case hI =>
    rintro pre X Y ⟨v, acc, p1, o1, o2, oA, oB, oC, oF, oJ, o4⟩ ho
    have hne : ∀ k, k < w1.heap.size + 1 → ¬ Sx (fun k => k = cs) w2 k := fun k hk => sx_no (fun h => by omega) (.inl (by omega))
    exact ⟨v, acc, p1, own_only o1 ho (fun k hk => sx_no (fun h => by have := o2 k hk; omega) (.inr (o2 k hk))), o2, oA.only ho (hne _ (by omega)), oB.only ho (hne _ (by omega)), oC.only ho (hne _ (by omega)), oF.only ho (hne _ (by omega)),
      oJ.only ho (hne _ (by omega)) (hne _ (by omega)) (hne _ (by omega)), o4.trans (ho.below (B := w.heap.size) o4.size (by rintro k (h | h | h) <;> omega))⟩
  case hIx =>
    rintro ch pre X Y ⟨rfl, r, r0, r1, r2, oA, oB, o4⟩ ho
    have hne : ∀ k, k < w1.heap.size + 1 → ¬ Sx (fun k => k = cs) w2 k := fun k hk => sx_no (fun h => by omega) (.inl (by omega))
    exact ⟨rfl, r, r0, r1, r2, oA.only ho (hne _ (by omega)), oB.only ho (hne _ (by omega)), o4.trans (ho.below (B := w.heap.size) o4.size (by rintro k (h | h | h) <;> omega))⟩
  case h0 =>
    obtain ⟨h1, h2, h3, h4, h5, h6⟩ := H0.out
    exact ⟨_, [], rfl, World.ownsRow_nil _ _ _ _, fun k hk => by simp [Value.ownBlock] at hk, h1, h2, h3, h4, h5, h6⟩
  case hround =>
    intro x
    refine ⟨_, fun l W K hK => by gi_wp2; exact hK, fun l pre W hI hz hpre => ?_⟩
    obtain ⟨v, acc, p1, o1, o2, oA, oB, oC, oF, oJ, o4⟩ := hI
    have hx : x ∈ splL [10] s := hpre.subset (by simp)
    have hxl := hxs x hx
    have hmW : W.cell? ⟨1, 0, none⟩ = some (.int .i64 m) := (World.cell?_of_block (a := ⟨1, 0, none⟩) (o4.block 1 h1w)).trans hm
    have T1 := Lib.hid (cut_any x (by omega) m W hmW)
    have hstep := psL_step first [] acc pre x p1
    have hal : acc.length ≤ s.length + 1 := by
      have a1 := psL_length first [] pre
      rw [p1] at a1
      have a2 := hpre.length_le
      simp at a1 a2; omega
    have hcl1 : (Lib.cut x [58, 32]).1.length ≤ x.length := by unfold Lib.cut; split <;> simp; omega
    have hcl2 : (Lib.cut x [58, 32]).2.1.length ≤ x.length := by unfold Lib.cut; split <;> simp
    obtain ⟨a, ha⟩ : ∃ a, (pairL x).1 = a := ⟨_, rfl⟩
    obtain ⟨b, hb⟩ : ∃ b, (pairL x).2 = b := ⟨_, rfl⟩
    have hab : pairL x = (a, b) := by rw [← ha, ← hb]
    have has : a.size ≤ 4294967280 := by rw [← ha, pairL, tx_size]; omega
    have hbs : b.size ≤ 4294967280 := by rw [← hb, pairL, tx_size]; omega
    rw [ha, hb] at T1
    unfold ps1 at hstep
    rw [hab] at hstep
    have cA := oA.cell 0
    have cB := oB.cell 0
    have fA := oA.frozen 0
    have fB := oB.frozen 0
    simp only [List.getElem?_toArray, List.getElem?_cons_zero] at cA cB
    have hsf : Whole W w1.heap.size 79 #[.func (.func 67) #[] #[.pointer (some ⟨cj, 0, none⟩), .pointer (some ⟨g, 0, none⟩)]] := oF
    have cF := hsf.cell 0
    simp only [List.getElem?_toArray, List.getElem?_cons_zero] at cF
    have HO := Lib.hid (And.intro o1 (And.intro o2 (And.intro oA (And.intro oB (And.intro oC (And.intro oF (And.intro oJ (And.intro o4 (And.intro hz hpre)))))))))
    have HAB := Lib.hid hab
    clear o1 o2 oA oB oC oF oJ o4 hz hpre hsf p1 hx hxl ha hb hab hcl1 hcl2
    cases hf : (Lib.cut x [58, 32]).2.2 with
    | false =>
      rw [hf] at T1
      rw [hf, if_pos rfl, if_neg (by decide)] at hstep
      have HST := Lib.hid hstep
      clear hstep hf
      gi_wp2_with (refine ⟨trivial, ?_⟩; gi_at_call 66; refine (CallsIn.inRound l (callsIn_wide.2 T1.out)).mono ?_; rintro e w' ⟨rfl, nd, rfl⟩)
      obtain ⟨o1, o2, oA, oB, oC, oF, oJ, o4, hz, hpre⟩ := HO.out
      have OW := ((((Only.refl (fun k => k = w.heap.size ∨ k = w.heap.size + 1) W).drewN nd).setCell (p := ⟨w.heap.size, 0, none⟩) (.inl (.inl rfl)) (Value.slice none 0 0))).setCell (p := ⟨w.heap.size + 1, 0, none⟩) (.inl (.inr rfl)) (Value.int .i64 2)
      exact ⟨OW.size, fun k hk => OW.block k (by rcases hk with (h | h | h | h) | h | h <;> omega) (by rcases hk with (h | h | h | h) | h | h <;> omega), rfl, 2, by decide, HST.out, hpre,
        (((oA.drewN nd).put 0 (.slice none 0 0)).far (p := ⟨w.heap.size + 1, 0, none⟩) (by simp) _), (((oB.drewN nd).far (p := ⟨w.heap.size, 0, none⟩) (by simp) _).put 0 (.int .i64 2)), o4.trans (OW.below o4.size (fun k h => by omega))⟩
    | true =>
      rw [hf] at T1
      rw [hf, show (if (true = false) then (2 : Int) else judgeM first (smNames acc) (a, b)) = judgeM first (smNames acc) (a, b) from if_neg (by simp)] at hstep
      clear hf
      obtain ⟨r, hr⟩ : ∃ r, judgeM first (smNames acc) (a, b) = r := ⟨_, rfl⟩
      rw [hr] at hstep
      have HJR := Lib.hid hr
      clear hr
      by_cases hr0 : r = 0
      · subst hr0
        rw [if_pos rfl] at hstep
        have HST := Lib.hid hstep
        clear hstep
        obtain ⟨i0, hi0, hz0, hz1, hz2⟩ := info_parts2 pair_info
        gi_wp2_with (first | (refine wpListIn_store_row rfl 44 (.tmp 12) (.tmp 29) rfl W.heap.size (pairA a b) rfl rfl 44 (pairA ⟨#[]⟩ ⟨#[]⟩) ZW.out (pair_size _ _) rfl (pair_one _ _) ?_) | ((try rw [hw3]); refine wpListIn_load_row rfl 44 (.tmp 12) rfl W.heap.size rfl 44 (pairA a b) (0, 0) _ P3.out Tryd.underlying44 rfl (pair_size _ _) ?_) | (refine ⟨trivial, ?_⟩; gi_at_call 66; refine (CallsIn.inRound l (callsIn_wide.2 T1.out)).mono ?_; rintro e w' ⟨rfl, nd, rfl⟩; have ZW := Lib.hid (Whole.new (W.drewN nd) 44 (pairA ⟨#[]⟩ ⟨#[]⟩)); obtain ⟨w3, hw3⟩ : ∃ V, ((W.drewN nd).alloc (.cells #[.string ⟨#[]⟩, .string ⟨#[]⟩] 44)).setRow W.heap.size (pairA a b) = V := ⟨_, rfl⟩; have P3 : Hid (Whole w3 W.heap.size 44 (pairA a b)) := Lib.hid (hw3 ▸ ZW.out.setRow (pairA a b)); have E3 : Hid (Only Nob W w3) := Lib.hid (hw3 ▸ Only.of_below (below_setRow ((show Below W.heap.size W (W.drewN nd) from ⟨rfl, rfl, rfl, Nat.le_refl _, fun _ _ => rfl⟩).alloc (Nat.le_refl _) (.cells (pairA ⟨#[]⟩ ⟨#[]⟩) 44)) (pairA a b) (Nat.le_refl _)) Nob); have JC := Lib.hid (judge_any a b first (smNames acc) g M cj has hbs (by (simp [smNames]; omega)) w3 (HO.out.2.2.2.2.2.2.1.only E3.out (fun h => h) (fun h => h) (fun h => h))); unfold Judges at JC; rw [HJR.out] at JC; have oF3 : Whole w3 w1.heap.size 79 #[.func (.func 67) #[] #[.pointer (some ⟨cj, 0, none⟩), .pointer (some ⟨g, 0, none⟩)]] := HO.out.2.2.2.2.2.1.only E3.out (fun h => h); have cF3 := oF3.cell 0; simp only [List.getElem?_toArray, List.getElem?_cons_zero] at cF3; clear oF3))
        refine ⟨trivial, ?_⟩
        gi_at_call 67
        refine (CallsIn.inRound l (callsIn_wide.2 JC.out)).mono ?_
        rintro e w5 ⟨rfl, j5, q5⟩
        have hPM : W.heap.size ≠ M := fun h => by (have a1 := HO.out.2.2.2.2.2.2.1.set.lt; omega)
        have eP : Hid (Whole w5 W.heap.size 44 #[.string a, .string b]) := Lib.hid (P3.out.only q5 hPM)
        have cP := eP.out.cell 0
        have cP1 := eP.out.cell 1
        have eC := Lib.hid ((HO.out.2.2.2.2.1.only E3.out (fun h => h)).only q5 (by omega))
        have cC5 := eC.out.cell 0
        simp only [List.getElem?_toArray, List.getElem?_cons_zero, List.getElem?_cons_succ] at cP cP1 cC5
        have g1 := own_only (own_only HO.out.1 E3.out (fun _ _ h => h)) q5 (fun k hk e => by (obtain ⟨_, cs', hw'⟩ := own_whole HO.out.1 hk; exact (HO.out.2.2.2.2.2.2.1.set.ne hw') e.symm))
        have g2 := own_only g1 ((Only.refl Nob w5).alloc (.cells #[.string a, .string b] 44)) (fun _ _ h => h)
        obtain ⟨v2, w6, hrun, r1, r2, r3⟩ := run_append_seen (P := Tryd.prog) (w5.alloc (.cells #[.string a, .string b] 44)) w.heap.size 24 24 44 i0 _ 2 32 Tryd.underlying24 hi0 hz0 hz1 hz2 rfl (by omega) v acc.length _ g2 (w5.heap.size + 1) (some ⟨w5.heap.size, 0, none⟩) 1 1 [.string a, .string b] (seen_pair w5 a b) (by (intro u hu; simp at hu; rcases hu with rfl | rfl <;> rfl)) (by (simp [maxLen]; omega)) (by omega) (by (have b1 := q5.size; have b2 := HO.out.2.2.2.2.2.2.2.1.size; have b3 := E3.out.size; rw [World.size_alloc]; omega))
        obtain ⟨A2, c2, rfl, _⟩ := own_form r1
        have eC6 := Lib.hid ((eC.out.alloc (.cells #[.string a, .string b] 44)).grown r2 (fun h => own_ne_whole HO.out.1 HO.out.2.2.2.2.1 (by decide) _ h.symm rfl))
        have cC6 := eC6.out.cell 0
        have fC6 := eC6.out.frozen 0
        simp only [List.getElem?_toArray, List.getElem?_cons_zero] at cC6
        have H5 := Lib.hid (And.intro j5 (And.intro q5 (And.intro r1 (And.intro r2 r3))))
        clear j5 q5 r1 r2 r3 g1 g2
        gi_wp2_with (first | (gi_at_builtin; refine wpListIn_append_run rfl (.tmp 36) (.tmp 38) _ rfl v _ _ w6 rfl rfl hrun ?_) | (refine wpListIn_load_row rfl 44 (.tmp 12) rfl W.heap.size rfl 44 #[.string a, .string b] (0, 0) _ eP.out Tryd.underlying44 rfl (pair_size a b) ?_))
        obtain ⟨o1, o2, oA, oB, oC, oF, oJ, o4, hz, hpre⟩ := HO.out
        obtain ⟨j5, q5, r1, r2, r3⟩ := H5.out
        simp only [if_true] at j5
        have O5 : Only (fun k => v.ownBlock = some k ∨ k = w.heap.size + 2) w5 (w6.setCell { block := w.heap.size + 1 + 1, off := 0 } (Value.slice A2 (acc.length + 1) c2)) :=
          (((Only.refl _ w5).alloc _).grown r2 (fun k h _ => .inl h)).setCell (p := ⟨w.heap.size + 1 + 1, 0, none⟩) (.inl (.inr rfl)) _
        have OW : Only (fun k => v.ownBlock = some k ∨ k = M ∨ k = w.heap.size + 2) W (w6.setCell { block := w.heap.size + 1 + 1, off := 0 } (Value.slice A2 (acc.length + 1) c2)) :=
          ((E3.out.mono (T := fun k => v.ownBlock = some k ∨ k = M ∨ k = w.heap.size + 2) (fun k _ h => h.elim)).trans (q5.mono (T := fun k => v.ownBlock = some k ∨ k = M ∨ k = w.heap.size + 2) (fun k _ h => .inr (.inl h)))).trans
            (O5.mono (fun k _ h => h.elim .inl (fun h => .inr (.inr h))))
        have hno : ∀ k, k ≠ M → k ≠ w.heap.size + 2 → k < w2.heap.size + 2 → ¬ (v.ownBlock = some k ∨ k = M ∨ k = w.heap.size + 2) := by
          intro k k1 k2 k3 h
          rcases h with h | h | h
          · have := o2 k h; omega
          · exact k1 h
          · exact k2 h
        have hno5 : ∀ k, k ≠ w.heap.size + 2 → k < w2.heap.size + 2 → ¬ (v.ownBlock = some k ∨ k = w.heap.size + 2) := by
          intro k k2 k3 h
          rcases h with h | h
          · have := o2 k h; omega
          · exact k2 h
        have hW5 : W.heap.size ≤ w5.heap.size := Nat.le_trans E3.out.size q5.size
        have o2' : ∀ k, (Value.slice A2 (acc.length + 1) c2).ownBlock = some k → w2.heap.size + 2 ≤ k := by
          intro k hk
          rcases r3 with r3 | r3
          · exact o2 k (r3 ▸ hk)
          · rw [r3] at hk; injection hk with hk; simp at hk; omega
        refine ⟨OW.size, fun k hk => OW.block k (by rcases hk with (h | h | h | h) | h | h <;> omega) (hno k ?_ ?_ ?_), ?_⟩
        · rcases hk with (h | h | h | h) | h | h <;> omega
        · rcases hk with (h | h | h | h) | h | h <;> omega
        · rcases hk with (h | h | h | h) | h | h <;> omega
        · refine ⟨_, acc ++ [(a, b)], HST.out, ?_, o2', oA.only OW (hno _ (by omega) (by omega) (by omega)), oB.only OW (hno _ (by omega) (by omega) (by omega)), ?_, oF.only OW (hno _ (by omega) (by omega) (by omega)), ?_, o4.trans (OW.below o4.size (fun k h => ?_))⟩
          · have := own_only r1 ((Only.refl (fun k => k = w.heap.size + 2) w6).setCell (p := ⟨w.heap.size + 1 + 1, 0, none⟩) (.inl rfl) (Value.slice A2 (acc.length + 1) c2)) (fun k hk h => by have := o2' k hk; omega)
            rw [List.length_append, pvs_snoc]
            exact this
          · exact eC6.out.put 0 (Value.slice A2 (acc.length + 1) c2)
          · rw [smNames_snoc]
            exact j5.only O5 (hno5 _ (by omega) (by omega)) (hno5 _ (by omega) (by omega)) (hno5 _ (by omega) (by omega))
          · rcases h with h | h | h
            · exact (own_whole o1 h).1
            · omega
            · omega
      · rw [if_neg hr0] at hstep
        have HST := Lib.hid hstep
        have hr1 : (r != 0) = true := by rw [bne_iff_ne]; exact hr0
        have HR0 := Lib.hid hr0
        clear hstep hr0
        gi_wp2_with (first | (refine wpListIn_store_row rfl 44 (.tmp 12) (.tmp 29) rfl W.heap.size (pairA a b) rfl rfl 44 (pairA ⟨#[]⟩ ⟨#[]⟩) ZW.out (pair_size _ _) rfl (pair_one _ _) ?_) | ((try rw [hw3]); refine wpListIn_load_row rfl 44 (.tmp 12) rfl W.heap.size rfl 44 (pairA a b) (0, 0) _ P3.out Tryd.underlying44 rfl (pair_size _ _) ?_) | (refine ⟨trivial, ?_⟩; gi_at_call 66; refine (CallsIn.inRound l (callsIn_wide.2 T1.out)).mono ?_; rintro e w' ⟨rfl, nd, rfl⟩; have ZW := Lib.hid (Whole.new (W.drewN nd) 44 (pairA ⟨#[]⟩ ⟨#[]⟩)); obtain ⟨w3, hw3⟩ : ∃ V, ((W.drewN nd).alloc (.cells #[.string ⟨#[]⟩, .string ⟨#[]⟩] 44)).setRow W.heap.size (pairA a b) = V := ⟨_, rfl⟩; have P3 : Hid (Whole w3 W.heap.size 44 (pairA a b)) := Lib.hid (hw3 ▸ ZW.out.setRow (pairA a b)); have E3 : Hid (Only Nob W w3) := Lib.hid (hw3 ▸ Only.of_below (below_setRow ((show Below W.heap.size W (W.drewN nd) from ⟨rfl, rfl, rfl, Nat.le_refl _, fun _ _ => rfl⟩).alloc (Nat.le_refl _) (.cells (pairA ⟨#[]⟩ ⟨#[]⟩) 44)) (pairA a b) (Nat.le_refl _)) Nob); have JC := Lib.hid (judge_any a b first (smNames acc) g M cj has hbs (by (simp [smNames]; omega)) w3 (HO.out.2.2.2.2.2.2.1.only E3.out (fun h => h) (fun h => h) (fun h => h))); unfold Judges at JC; rw [HJR.out] at JC; have oF3 : Whole w3 w1.heap.size 79 #[.func (.func 67) #[] #[.pointer (some ⟨cj, 0, none⟩), .pointer (some ⟨g, 0, none⟩)]] := HO.out.2.2.2.2.2.1.only E3.out (fun h => h); have cF3 := oF3.cell 0; simp only [List.getElem?_toArray, List.getElem?_cons_zero] at cF3; clear oF3) | (refine ⟨trivial, ?_⟩; gi_at_call 67; refine (CallsIn.inRound l (callsIn_wide.2 JC.out)).mono ?_; rintro e w5 ⟨rfl, j5, q5⟩; have eA := Lib.hid ((HO.out.2.2.1.only E3.out (fun h => h)).only q5 (by omega)); have eB := Lib.hid ((HO.out.2.2.2.1.only E3.out (fun h => h)).only q5 (by omega)); have cA5 := eA.out.cell 0; have fA5 := eA.out.frozen 0; have cB5 := eB.out.cell 0; have fB5 := eB.out.frozen 0; simp only [List.getElem?_toArray, List.getElem?_cons_zero] at cA5 cB5; have H5 := Lib.hid (And.intro j5 q5); clear j5 q5))
        obtain ⟨o1, o2, oA, oB, oC, oF, oJ, o4, hz, hpre⟩ := HO.out
        obtain ⟨j5, q5⟩ := H5.out
        have OW := ((((E3.out.mono (T := fun k => k = w.heap.size ∨ k = w.heap.size + 1 ∨ k = M) (fun k _ h => h.elim)).trans (q5.mono (T := fun k => k = w.heap.size ∨ k = w.heap.size + 1 ∨ k = M) (fun k _ h => .inr (.inr h)))).setCell (p := ⟨w.heap.size, 0, none⟩) (.inl (.inl rfl)) (Value.slice none 0 0))).setCell (p := ⟨w.heap.size + 1, 0, none⟩) (.inl (.inr (.inl rfl))) (Value.int .i64 r)
        exact ⟨OW.size, fun k hk => OW.block k (by rcases hk with (h | h | h | h) | h | h <;> omega) (by rcases hk with (h | h | h | h) | h | h <;> omega), rfl, r, HR0.out, HST.out, hpre,
          ((eA.out.put 0 (.slice none 0 0)).far (p := ⟨w.heap.size + 1, 0, none⟩) (by simp) _), ((eB.out.far (p := ⟨w.heap.size, 0, none⟩) (by simp) _).put 0 (.int .i64 r)), o4.trans (OW.below o4.size (fun k h => by omega))⟩
  case hdone =>
    rintro W ⟨v, acc, p1, o1, o2, oA, oB, oC, oF, oJ, o4⟩ hK
    obtain ⟨A2, c2, rfl, _⟩ := own_form o1
    have cA := oA.cell 0
    have cB := oB.cell 0
    have cC := oC.cell 0
    have fA := oA.frozen 0
    have fB := oB.frozen 0
    simp only [List.getElem?_toArray, List.getElem?_cons_zero] at cA cB cC
    gi_wp2
    have OW : Only (fun k => k = w.heap.size ∨ k = w.heap.size + 1) W ((W.setCell { block := w.heap.size, off := 0 } (Value.slice A2 acc.length c2)).setCell { block := w.heap.size + 1, off := 0 } (Value.int IntKind.i64 0)) :=
      ((Only.refl _ W).setCell (p := ⟨w.heap.size, 0, none⟩) (.inl (.inl rfl)) _).setCell (p := ⟨w.heap.size + 1, 0, none⟩) (.inl (.inr rfl)) _
    have hA' := (oA.put 0 (Value.slice A2 acc.length c2)).far (p := ⟨w.heap.size + 1, 0, none⟩) (by simp) (Value.int IntKind.i64 0)
    have hB' := (oB.far (p := ⟨w.heap.size, 0, none⟩) (by simp) (Value.slice A2 acc.length c2)).put 0 (Value.int IntKind.i64 0)
    have hK' := (OW.block _ (Array.getElem?_eq_some_iff.1 hK).1 (by omega)).trans hK
    generalize (W.setCell { block := w.heap.size, off := 0 } (Value.slice A2 acc.length c2)).setCell { block := w.heap.size + 1, off := 0 } (Value.int IntKind.i64 0) = W9 at *
    have OP := only_putObj (S := fun k => k = w2.heap.size) W9 w2.heap.size (.deferred none) rfl
    refine ⟨by simp, .inl ⟨_, _, rfl, run_takeDeferred hK', ?_⟩⟩
    refine ⟨_, results_two rfl _ _ w.heap.size (w.heap.size + 1) _ _ rfl rfl (load24 _ _ A2 acc.length c2 ((hA'.only OP (by omega)).cell 0)) (load28 _ _ 0 ((hB'.only OP (by omega)).cell 0)), _, by rw [p1], fun h => absurd (by rw [p1]) h, fun _ => ?_, (o4.trans (OW.below o4.size (fun k h => by omega))).trans (OP.below (Nat.le_trans o4.size OW.size) (fun k h => by omega))⟩
    rw [p1]
    exact own_only (own_only o1 OW (fun k hk h => by have := o2 k hk; omega)) OP (fun k hk h => by have := o2 k hk; omega)
  case hstop =>
    rintro ch pre W ⟨rfl, r, r0, r1, r2, oA, oB, o4⟩ hK
    gi_wp2
    have OP := only_putObj (S := fun k => k = w2.heap.size) W w2.heap.size (.deferred none) rfl
    obtain ⟨rest, hrest⟩ := r2
    have hp : psL first [] (splL [10] s) = (r, []) := by rw [← hrest, psL_app, r1, if_neg r0]
    refine ⟨by simp, .inl ⟨_, _, rfl, run_takeDeferred hK, ?_⟩⟩
    refine ⟨_, results_two rfl _ _ w.heap.size (w.heap.size + 1) _ _ rfl rfl (load24 _ _ none 0 0 ((oA.only OP (by omega)).cell 0)) (load28 _ _ r ((oB.only OP (by omega)).cell 0)), _, by rw [hp], fun _ => rfl, fun h => absurd (by rw [hp] at h; exact h) r0, o4.trans (OP.below o4.size (fun k h => by omega))⟩
end Go.Proofs.YteadhiehhpafjaaDoor
