/-
  The program's Fold. Conditions: a text of less than four thousand million bytes.
-/
import Derived.Test.YteadhiehhpafjaaDoorNI
import Derived.Test.YteadhiehhpafjaaDoorIC
import Derived.RangeFuncCalls
namespace Go.Proofs.YteadhiehhpafjaaDoor
open Go Go.RowKit
attribute [local go_sem] Oper.semAt_some
set_option maxRecDepth 100000

/-- A range over a function, its round's frame found by the walk. -/
theorem rf_law2 {P : Program} {α : Type} {g : Operand} {ps : Array Tmp} {assign body : Code} {Q : Exit → Act → World → Prop} {a : Act} {w : World}
    {gf : Nat} {lb : Array Value} (hg : a.eval g = .func (.func gf) #[] lb) (eg : ∀ args w, (callFunc gf args).run P w = .ok (.enter gf args) w)
    {c d : Nat → Prop} (hc : ∀ k, c k → k < w.heap.size) (hd : ∀ k, d k → k < w.heap.size) {enc : α → Value} {xs : List α} (hseq : ∀ W1, Only Nob w W1 → Hands P gf lb c d enc xs W1) (hps : ps.size = 1)
    (I : List α → World → Prop) (Ix : Code → List α → World → Prop)
    (hI : ∀ pre A B, I pre A → Only (Sx c w) A B → I pre B) (hIx : ∀ ch pre A B, Ix ch pre A → Only (Sx c w) A B → Ix ch pre B) (h0 : I [] w)
    (hround : ∀ x : α, ∃ a1 : Act,
      (∀ (l : Nat) (W : World) (K : Act → World → Prop), K a1 W → assign.wpIn (Fence.wide.inRound l) 2 P (Exit.then K (fun _ _ _ => False)) { tmps := (ps.zip #[enc x]).foldl (fun t (p, v) => t.setIfInBounds p v) a.tmps, defers := [] } W) ∧
      (∀ (l : Nat) (pre : List α) (W : World), I pre W → w.heap.size + 2 ≤ W.heap.size → pre ++ [x] <+: xs → body.wpIn (Fence.wide.inRound l) 2 P (rPost (Sx d w) I Ix (pre ++ [x]) W) a1 W))
    (hdone : ∀ (W : World), I xs W → W.heap[w.heap.size]? = some (.deferred (some [])) → Q .normal { a with defers := { target := .collected w.heap.size, args := #[] } :: a.defers } W)
    (hstop : ∀ (ch : Code) (pre : List α) (W : World), Ix ch pre W → W.heap[w.heap.size]? = some (.deferred (some [])) → ch.wpIn Fence.wide 3 P Q { a with defers := { target := .collected w.heap.size, args := #[] } :: a.defers } W) :
    (Code.rangeFunc g ps assign body).wpIn Fence.wide 3 P Q a w :=
  rf_law hg eg hc hd hseq hps I Ix hI hIx h0 (fun x => (hround x).choose) (fun l x W K hK => (hround x).choose_spec.1 l W K hK) (fun l pre x W h1 h2 h3 => (hround x).choose_spec.2 l pre W h1 h2 h3) hdone hstop

/-- An append whose run is known, at the operation. -/
theorem wpListIn_append_run {F : Fence} {nF : Nat} {P : Program} {w : World} {ops : Array Oper} {rest : List Oper} {o : Oper} {a : Act} {Q : Exit → Act → World → Prop}
    (hgd : o.guard = none) (s x : Operand) (t : TypeId) (ho : o.op = .call { callee := .builtin .append, args := #[s, x], argTypes := #[t, t] })
    (v u v' : Value) (w' : World) (hs : a.eval s = v) (hx : a.eval x = u) (hrun : (Builtin.append_ #[t, t] o.type #[v, u]).run P w = .ok v' w')
    (h : wpListIn F nF P ops Q rest (a.put o.dst v') w') : wpListIn F nF P ops Q (o :: rest) a w := by
  refine wpListIn_plain hgd fun K' hK' => ?_
  unfold Oper.wpIn
  refine ⟨by simp [Oper.about, ho, resolve, Target.leads, Sem.run_pure], ?_⟩
  rw [Oper.semAt_plain F _ _ (by rw [ho]; intro c hc'; cases hc')]
  simp [execOp, ho, resolve, invoke, builtin, hs, hx, hrun, Result.andThen]
  exact hK' _ _ h

theorem sx_no {c : Nat → Prop} {w : World} {k : Nat} (h : ¬ c k) (h1 : k < w.heap.size ∨ w.heap.size + 2 ≤ k) : ¬ Sx c w k := by
  rintro (h' | h' | h')
  · exact h h'
  · omega
  · omega

/-- What slices.Chunk gives. -/
def MakesChunk (w : World) (b L cap n : Nat) (e : Ending) (w' : World) : Prop :=
  ∃ bs bn, e = .returned (.func (.func 46) #[] #[.pointer (some ⟨bs, 0, none⟩), .pointer (some ⟨bn, 0, none⟩)]) ∧ Whole w' bs 22 #[.slice (some ⟨b, 0, none⟩) L cap] ∧ Whole w' bn 3 #[.int .i64 n] ∧ w.heap.size ≤ bs ∧ w.heap.size ≤ bn ∧ Below w.heap.size w w'
theorem chunk_new (b L cap n : Nat) (h : 0 < n) (w : World) : Calls Tryd.prog 30 #[.slice (some ⟨b, 0, none⟩) L cap, .int .i64 n] w (MakesChunk w b L cap n) := by
  have d1 : decide ((n : Int) < 1) = false := by rw [decide_eq_false_iff_not]; omega
  have h1 := Whole.new w 22 #[.slice (some ⟨b, 0, none⟩) L cap]
  have h2 := Whole.new (w.alloc (.cells #[.slice (some ⟨b, 0, none⟩) L cap] 22)) 3 #[.int .i64 n]
  simp only [World.size_alloc] at h2
  have H1 := Lib.hid h1
  have H2 := Lib.hid h2
  clear h1 h2
  go_enter Tryd.func30, Tryd.ntmps30
  go_wp2
  go_ret
  exact ⟨w.heap.size, w.heap.size + 1, rfl, H1.out.alloc _, H2.out, Nat.le_refl _, by omega, ((Below.refl _ _).alloc (Nat.le_refl _) _).alloc (by simp) _⟩

/-- A folded line: its first part, then the pieces. -/
def pieceOf (s : ByteArray) (p : Nat × Nat) : ByteArray := ⟨#[32]⟩ ++ s.extract (72 + p.1) (72 + p.1 + p.2)
def pfoldL (s : ByteArray) : List ByteArray := s.extract 0 (min s.size 72) :: (chF 71 (s.size - 72) (s.size - 72) 0).map (pieceOf s)

theorem chF_mem (n L : Nat) (hn : 0 < n) : ∀ (k i : Nat) (x : Nat × Nat), x ∈ chF n L k i → x.1 + x.2 ≤ L ∧ 0 < x.2 ∧ x.2 ≤ n
  | 0, _, _, h => by simp [chF] at h
  | k + 1, i, x, h => by
    unfold chF at h
    split at h
    · rcases List.mem_cons.1 h with rfl | h
      · simp only; omega
      · exact chF_mem n L hn k _ x h
    · simp at h
theorem chF_length (n L : Nat) : ∀ (k i : Nat), (chF n L k i).length ≤ k
  | 0, _ => by simp [chF]
  | k + 1, i => by
    unfold chF
    split
    · have := chF_length n L k (i + n); simp; omega
    · simp
theorem Bys.conv_mid {w : World} {g c p m cap : Nat} {l : List UInt8} (h : Bys w g l c) (hp : p + m ≤ l.length) :
    (convert 22 9 (.slice (some ⟨g, p, none⟩) m cap)).run Tryd.prog w = .ok (.string ⟨((l.drop p).take m).toArray⟩) w := by
  have hl : ((l.drop p).take m).length = m := by simp; omega
  have := run_convert_bytes_back (P := Tryd.prog) w 22 9 5 ⟨g, p, none⟩ cap ((l.drop p).take m) Tryd.underlying22 Tryd.underlying5 Tryd.underlying9 (fun j hj => ?_)
  · rw [hl] at this; exact this
  · have h2 := h.cell (p + j) (by omega)
    rw [Addr.add_lit, h2]
    simp
/-- What holds between the pieces of a folded line. -/
def FI (z1 : Nat) (w : World) (s A : ByteArray) (l : List UInt8) (cc : Nat) (pre : List (Nat × Nat)) (W : World) : Prop :=
  ∃ v, W.ownsRow w.heap.size 9 1 v (pre.length + 1) (sv (A :: pre.map (pieceOf s))) ∧ (∀ k, v.ownBlock = some k → k = w.heap.size ∨ z1 + 2 ≤ k) ∧
    Whole W (w.heap.size + 1) 38 #[v] ∧ Bys W (w.heap.size + 2) l cc ∧ Below w.heap.size w W
theorem drop_text (R : ByteArray) (i m : Nat) : (⟨((R.data.toList.drop i).take m).toArray⟩ : ByteArray) = R.extract i (i + m) := by
  apply ByteArray.ext
  rw [← Array.toList_inj]
  have e : (R.extract i (i + m)).data = R.data.extract i (i + m) := by simp
  rw [e, Array.toList_extract, List.extract_eq_take_drop]
  simp

set_option maxHeartbeats 4000000 in
theorem pfold_any (s : ByteArray) (n : Nat) (hn : s.size = n) (hs : n ≤ 4294967280) (w : World) : Calls Tryd.prog 15 #[.string s] w (GivesTexts w (pfoldL s)) := by
  obtain ⟨i0, hi0, hz0, hz1, hz2⟩ := info_parts str_info
  obtain ⟨f, hf⟩ : ∃ f, min n 72 = f := ⟨_, rfl⟩
  have hfl : s.extract 0 (min s.size 72) = s.extract 0 f := by rw [hn, hf]
  obtain ⟨A, hA⟩ : ∃ A, s.extract 0 f = A := ⟨_, rfl⟩
  obtain ⟨R, hR⟩ : ∃ R, s.extract f n = R := ⟨_, rfl⟩
  have hRs : R.size = n - f := by rw [← hR, ByteArray.size_extract]; omega
  have mi : min (n : Int) 72 = (f : Int) := by omega
  have m2 : (f : Int) ≤ n := by omega
  have CV := Lib.hid (fun W => bys_conv W R)
  refine callsIn_wide.1 (callsIn_of_wp_marks (n := 3) Tryd.func15 rfl trivial ?_ rfl)
  simp only [Tryd.ntmps15, List.size_toArray, List.length_cons, List.length_nil, Nat.reduceAdd, Nat.reduceSub, Array.replicate_succ, Array.replicate_zero, List.push_toArray, List.append_toArray, List.nil_append, List.cons_append]
  have cv := CV.out ((w.alloc (.cells #[.string A] 9)).alloc (.cells #[.slice (some ⟨w.heap.size, 0, none⟩) 1 1] 38))
  have hO : (w.alloc (.cells #[.string A] 9)).ownsRow w.heap.size 9 1 (.slice (some ⟨w.heap.size, 0, none⟩) 1 1) 1 [.string A] := World.ownsRow_lit w #[.string A] 1 (Nat.le_refl _) (by simp [maxLen]) rfl
  have hV := Whole.new (w.alloc (.cells #[.string A] 9)) 38 #[.slice (some ⟨w.heap.size, 0, none⟩) 1 1]
  have hB := ((Below.refl w.heap.size w).alloc (Nat.le_refl _) (.cells #[.string A] 9)).alloc (by simp) (.cells #[.slice (some ⟨w.heap.size, 0, none⟩) 1 1] 38)
  have hO2 := own_only hO ((Only.refl Nob (w.alloc (.cells #[.string A] 9))).alloc (.cells #[.slice (some ⟨w.heap.size, 0, none⟩) 1 1] 38)) (fun _ _ h => h)
  have hZ : ((w.alloc (.cells #[.string A] 9)).alloc (.cells #[.slice (some ⟨w.heap.size, 0, none⟩) 1 1] 38)).heap.size = w.heap.size + 2 := by simp
  simp only [World.size_alloc] at hV
  have HO2 := Lib.hid hO2
  have HV := Lib.hid hV
  have HB := Lib.hid hB
  have HZ := Lib.hid hZ
  clear hO hO2 hV hB hZ
  gi_wp2_with (refine ⟨trivial, ?_⟩; gi_at_call 30; refine (callsIn_wide.2 (chunk_new _ _ _ _ (by decide) _)).mono ?_; rintro e w1 ⟨bs, bn, rfl, h1, h2, h3, h4, b1⟩)
  obtain ⟨y1, y2, y3, y4⟩ := bys_new ((w.alloc (.cells #[.string A] 9)).alloc (.cells #[.slice (some ⟨w.heap.size, 0, none⟩) 1 1] 38)) R
  rw [HZ.out] at y1 y2 y4
  rw [hRs] at y1 y3
  clear cv CV
  generalize grownCap ((w.alloc (.cells #[.string A] 9)).alloc (.cells #[.slice (some ⟨w.heap.size, 0, none⟩) 1 1] 38)) (n - f) 0 5 = cc at h1 y1 y3 ⊢
  generalize (w.alloc (.cells #[.string A] 9)).alloc (.cells #[.slice (some ⟨w.heap.size, 0, none⟩) 1 1] 38) = wA at *
  generalize Lib.bytesWorld wA 5 R = wC at *
  have D0 := HB.out.trans (y2.mono (by omega))
  have D1 := D0.trans (b1.mono (by have := D0.size; omega))
  have e2 : Only Nob wA w1 := ((Only.of_below (y2.mono (by rw [HZ.out]; exact Nat.le_refl _)) Nob)).trans (Only.of_below b1 Nob)
  have hOw := own_only HO2.out e2 (fun _ _ h => h)
  have hVw := HV.out.only e2 (fun h => h)
  have hYw := y1.block (b1.block _ y1.lt)
  have hC1 := HZ.out
  have hzC : wC.heap.size = w.heap.size + 3 := y4
  have hzD := b1.size
  have hbs := h1.lt
  have hbn := h2.lt
  have hl0 : R.data.toList.length = n - f := by rw [← hRs]; simp
  refine rf_law2 (gf := 46) (lb := #[.pointer (some ⟨bs, 0, none⟩), .pointer (some ⟨bn, 0, none⟩)]) (c := Nob) (d := fun k => k = bs ∨ k = bn) (enc := fun x : Nat × Nat => Value.slice (some ⟨w.heap.size + 2, x.1, none⟩) x.2 x.2) (xs := chF 71 (n - f) (n - f) 0)
    rfl (enters_of Tryd.func46 (by kernel_rfl) rfl) (fun _ h => h.elim) (by rintro k (rfl | rfl) <;> omega)
    (fun W1 ho => chunk_hands W1 bs bn (w.heap.size + 2) (n - f) cc 71 (by decide) (by decide) (by omega) y3 (h1.only ho (fun h => h)) (h2.only ho (fun h => h))) rfl
    (FI w1.heap.size w s A R.data.toList cc) (fun _ _ _ => False) ?hI (fun _ _ _ _ h _ => h) ?h0 ?hround ?hdone (fun _ _ _ h _ => h.elim)
  case hI =>
    rintro pre X Y ⟨v, o1, o2, o3, o4, o5⟩ ho
    have hne : ∀ k, k < w1.heap.size → ¬ Sx Nob w1 k := fun k hk => sx_no (fun h => h) (.inl hk)
    refine ⟨v, own_only o1 ho (fun k hk => sx_no (fun h => h) ?_), o2, o3.only ho (hne _ (by omega)), o4.block (ho.block _ o4.lt (hne _ (by omega))), o5.trans (ho.below (B := w.heap.size) o5.size (fun k h => ?_))⟩
    · rcases o2 k hk with h | h
      · exact .inl (by omega)
      · exact .inr h
    · rcases h with h | h | h
      · exact h.elim
      · omega
      · omega
  case h0 => exact ⟨_, hOw, fun k hk => .inl (by simpa [Value.ownBlock] using hk.symm), hVw, hYw, D1⟩
  case hround =>
    intro x
    obtain ⟨p, m⟩ := x
    refine ⟨_, fun l W K hK => by gi_wp2; exact hK, fun l pre W hI hz hpre => ?_⟩
    obtain ⟨v, o1, o2, o3, o4, o5⟩ := hI
    have hx : (p, m) ∈ chF 71 (n - f) (n - f) 0 := hpre.subset (by simp)
    obtain ⟨x1, x2, x3⟩ := chF_mem 71 (n - f) (by decide) _ _ _ hx
    have hlen : pre.length + 1 ≤ n - f := by
      have a1 := hpre.length_le
      have a2 := chF_length 71 (n - f) (n - f) 0
      simp at a1; omega
    simp only at x1 x2 x3
    have hf72 : f = 72 := by omega
    have hcv := o4.conv_mid (p := p) (m := m) (cap := m) (by omega)
    rw [drop_text, ← hR, ByteArray.extract_extract] at hcv
    have he : s.extract (f + p) (min (f + (p + m)) n) = s.extract (72 + p) (72 + p + m) := by congr 1 <;> omega
    rw [he] at hcv
    obtain ⟨D, hD⟩ : ∃ D, s.extract (72 + p) (72 + p + m) = D := ⟨_, rfl⟩
    have hDs : D.size ≤ 71 := by rw [← hD, ByteArray.size_extract]; omega
    rw [hD] at hcv
    have hb1 : (⟨#[32]⟩ : ByteArray).size = 1 := rfl
    have hadd := run_string_add_sum (P := Tryd.prog) (w := W) ⟨#[32]⟩ D (by rw [hb1]; omega)
    have hP : (⟨#[32]⟩ : ByteArray) ++ D = pieceOf s (p, m) := by rw [pieceOf, ← hD]
    rw [hP] at hadd
    clear hb1 hDs hP hD he x1 x2 x3 hx
    generalize hPP : pieceOf s (p, m) = P at hadd
    have HPP := Lib.hid hPP
    clear hPP
    have c4 := o3.cell 0
    simp only [List.getElem?_toArray, List.getElem?_cons_zero] at c4
    have f4 := o3.frozen 0
    have q1 := own_only o1 ((Only.refl Nob W).alloc (.cells #[.string P] 9)) (fun _ _ h => h)
    obtain ⟨v2, w2, hrun, r1, r2, r3⟩ := run_append_seen (P := Tryd.prog) (W.alloc (.cells #[.string P] 9)) w.heap.size 38 38 9 i0 _ 1 16 Tryd.underlying38 hi0 hz0 hz1 hz2 rfl (by omega) v (pre.length + 1) _ q1 (W.heap.size + 1) (some ⟨W.heap.size, 0, none⟩) 1 1 [.string P] (seen_one W 9 (.string P)) (by intro u hu; simp at hu; subst hu; rfl) (by simp [maxLen]; omega) (by omega) (by have := o5.size; simp; omega)
    have c5 : w2.cell? ⟨w.heap.size + 1, 0, none⟩ = some v := by
      have : Whole w2 (w.heap.size + 1) 38 #[v] := (o3.alloc _).grown r2 (fun h => by rcases o2 _ h.symm with h | h <;> omega)
      exact this.cell 0
    have f5 : w2.frozen? ⟨w.heap.size + 1, 0, none⟩ = false := by
      have : Whole w2 (w.heap.size + 1) 38 #[v] := (o3.alloc _).grown r2 (fun h => by rcases o2 _ h.symm with h | h <;> omega)
      exact this.frozen 0
    obtain ⟨A2, c2, rfl, _⟩ := own_form r1
    have HH := Lib.hid (And.intro o1 (And.intro o2 (And.intro o3 (And.intro o4 (And.intro o5 (And.intro r1 (And.intro r2 (And.intro r3 (And.intro hz hpre)))))))))
    clear o1 o2 o3 o4 o5 r1 r2 r3 q1 hz hpre
    gi_wp2_with (gi_at_builtin; refine wpListIn_append_run rfl (.tmp 19) (.tmp 23) _ rfl v _ _ w2 rfl rfl hrun ?_)
    obtain ⟨o1, o2, o3, o4, o5, r1, r2, r3, hz, hpre⟩ := HH.out
    have OW : Only (fun k => v.ownBlock = some k ∨ k = w.heap.size + 1) W (w2.setCell { block := w.heap.size + 1, off := 0 } (Value.slice A2 (pre.length + 1 + 1) c2)) :=
      (((Only.refl _ W).alloc _).grown r2 (fun k h _ => .inl h)).setCell (.inl (.inr rfl)) _
    have hno : ∀ k, k ≠ w.heap.size → k ≠ w.heap.size + 1 → k < w1.heap.size + 2 → ¬ (v.ownBlock = some k ∨ k = w.heap.size + 1) := by
      intro k k1 k2 k3 h
      rcases h with h | h
      · rcases o2 k h with h | h <;> omega
      · exact k2 h
    refine ⟨OW.size, fun k hk => OW.block k ?_ (hno k ?_ ?_ ?_), ?_⟩
    · rcases hk with (h | h) | h | h <;> omega
    · rcases hk with (h | h) | h | h <;> omega
    · rcases hk with (h | h) | h | h <;> omega
    · rcases hk with (h | h) | h | h <;> omega
    · have o2' : ∀ k, (Value.slice A2 (pre.length + 1 + 1) c2).ownBlock = some k → k = w.heap.size ∨ w1.heap.size + 2 ≤ k := by
        intro k hk
        rcases r3 with r3 | r3
        · exact o2 k (r3 ▸ hk)
        · rw [r3] at hk; injection hk with hk; simp at hk; exact .inr (by omega)
      refine ⟨_, ?_, o2', ?_, o4.block (OW.block _ o4.lt (hno _ (by omega) (by omega) (by omega))), o5.trans (OW.below o5.size (fun k h => ?_))⟩
      · have := own_only r1 ((Only.refl (fun k => k = w.heap.size + 1) w2).setCell (p := ⟨w.heap.size + 1, 0, none⟩) (.inl rfl) (Value.slice A2 (pre.length + 1 + 1) c2)) (fun k hk h => by rcases o2' k hk with h' | h' <;> omega)
        rw [List.map_append, List.length_append, List.map_singleton, HPP.out, show A :: (pre.map (pieceOf s) ++ [P]) = (A :: pre.map (pieceOf s)) ++ [P] from rfl, sv_snoc]
        exact this
      · exact (((o3.alloc _).grown r2 (fun h => by rcases o2 _ h.symm with h | h <;> omega)).put 0 (Value.slice A2 (pre.length + 1 + 1) c2))
      · rcases h with h | h
        · exact (own_whole o1 h).1
        · omega
  case hdone =>
    rintro W ⟨v, o1, o2, o3, o4, o5⟩ hK
    have c4 := o3.cell 0
    simp only [List.getElem?_toArray, List.getElem?_cons_zero] at c4
    gi_wp2
    have OP := only_putObj (S := fun k => k = w1.heap.size) W w1.heap.size (.deferred none) rfl
    have hL : n - f = s.size - 72 := by omega
    refine ⟨by simp, .inl ⟨_, _, rfl, run_takeDeferred hK, ?_⟩⟩
    refine ⟨_, results_tmp rfl _ _ _, v, rfl, ?_, o5.trans (OP.below o5.size (fun k h => by omega))⟩
    have := own_only o1 OP (fun k hk h => by rcases o2 k hk with h' | h' <;> omega)
    rw [pfoldL, hfl, hA, ← hL]
    simpa using this
end Go.Proofs.YteadhiehhpafjaaDoor
