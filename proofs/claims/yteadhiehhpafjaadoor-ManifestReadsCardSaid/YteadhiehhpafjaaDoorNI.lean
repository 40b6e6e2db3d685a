/-
  A set of texts in memory (a map without values), and the program's judge of headers. Conditions: texts of less than four thousand million bytes.
-/
import Derived.Test.YteadhiehhpafjaaDoorNG
import Derived.Maps.OwnSet
import Derived.StringKeys
import Derived.Carry
namespace Go.Proofs.YteadhiehhpafjaaDoor
open Go.RowKit Go.ChangeMaps Go.MapKept
open Go.Maps (Keyed)
set_option maxRecDepth 100000

theorem key9 : Keyed Tryd.prog 9 := Maps.string_keyed Tryd.underlying9
theorem zero105 (w : World) : (zeroValue 105).run Tryd.prog w = .ok (.agg #[]) w := by kernel_rfl
def kts (l : List ByteArray) : List Lit := l.map fun s => .string s.data.toList
theorem kts_lit (l : List ByteArray) : ∀ x ∈ kts l, WideAt.IsKeyLit x := by
  intro x hx
  obtain ⟨s, _, rfl⟩ := List.mem_map.1 hx
  trivial
/-- Is the text among them? -/
def hasT (l : List ByteArray) (s : ByteArray) : Bool := l.any fun t => t.data.toList == s.data.toList
theorem hasT_iff {l : List ByteArray} {s : ByteArray} : hasT l s = true ↔ s ∈ l := by
  rw [hasT, List.any_eq_true]
  constructor
  · rintro ⟨x, hx, he⟩
    have : x = s := ByteArray.ext (Array.toList_inj.1 (beq_iff_eq.1 he))
    exact this ▸ hx
  · intro hs
    exact ⟨s, hs, by simp⟩
/-- Block M is the set of these texts. -/
def SetAt (w : World) (M : Nat) (l : List ByteArray) : Prop := w.ownsMap Tryd.prog 9 (unitElem (H := Unit)) M l.length (Maps.setOf (.agg []) (kts l))
theorem key_str {s : ByteArray} (hs : s.size ≤ maxLen) : keyOf Tryd.prog 9 (.string s) = some (.string s.data.toList) := Go.WideMaps.keyOf_string_mk Tryd.underlying9 hs

section
variable {w w' : World} {M : Nat} {l : List ByteArray} {S : Nat → Prop}
theorem SetAt.lt (h : SetAt w M l) : M < w.heap.size := World.ownsMap.lt h
theorem SetAt.block (h : SetAt w M l) (hk : w'.heap[M]? = w.heap[M]?) : SetAt w' M l := by
  obtain ⟨es, clock, hb, F, r⟩ := h
  exact ⟨es, clock, hk.trans hb, F, r⟩
theorem SetAt.only (h : SetAt w M l) (ho : Only S w w') (hM : ¬ S M) : SetAt w' M l := h.block (ho.block M h.lt hM)
theorem SetAt.ne {g : Nat} {t : TypeId} {cs : Array Value} (h : SetAt w M l) (hg : Whole w g t cs) : M ≠ g := by
  rintro rfl
  obtain ⟨es, clock, hb, _⟩ := h
  unfold Whole at hg
  rw [hb] at hg
  cases hg
theorem set_has (s : ByteArray) : Maps.has (Maps.setOf (DataW.agg (H := Unit) []) (kts l)) (.string s.data.toList) = hasT l s := by
  rw [Maps.has_setOf _ _ _ (kts_lit l), kts, List.any_map]
  rfl
theorem addKey_le (acc : List Lit) (x : Lit) : acc.length ≤ (Maps.addKey acc x).length := by unfold Maps.addKey; split <;> simp
theorem addKeys_le : ∀ (xs acc : List Lit), acc.length ≤ (xs.foldl Maps.addKey acc).length
  | [], _ => Nat.le_refl _
  | x :: xs, acc => Nat.le_trans (addKey_le acc x) (addKeys_le xs _)
theorem set_size : Maps.size (Maps.setOf (DataW.agg (H := Unit) []) (kts l)) = 0 ↔ l = [] := by
  rw [Maps.size_setOf _ _ (kts_lit l)]
  constructor
  · intro h
    cases l with
    | nil => rfl
    | cons s l =>
      have h1 := addKeys_le (kts l) (Maps.addKey [] (.string s.data.toList))
      have h2 : (Maps.addKey [] (Lit.string s.data.toList)).length = 1 := rfl
      have h3 : (kts (s :: l)).foldl Maps.addKey [] = (kts l).foldl Maps.addKey (Maps.addKey [] (.string s.data.toList)) := rfl
      rw [h3] at h
      omega
  · rintro rfl; rfl
theorem SetAt.look (h : SetAt w M l) {s : ByteArray} (hs : s.size ≤ maxLen) : (Instr.lookup 104 (.map (some M)) (.string s) true).run Tryd.prog w = .ok (.tuple #[.agg #[], .bool (hasT l s)]) w := by
  obtain ⟨v, ps, h1, h2⟩ := World.ownsMap.look_ok h key9 Tryd.underlying104 (zero105 w) (zd := .agg []) (zp := []) unitElem_mk (key_str hs)
  obtain ⟨rfl, _⟩ := unitElem_inv h2
  rw [set_has] at h1
  exact h1
theorem SetAt.len (h : SetAt w M l) (ty : TypeId) : ∃ n : Nat, (n = 0 ↔ l = []) ∧ (Builtin.len_ #[104] ty #[.map (some M)]).run Tryd.prog w = .ok (.int .i64 n) w :=
  ⟨_, set_size, World.ownsMap.len h Tryd.underlying104 ty⟩
theorem SetAt.store (h : SetAt w M l) (hl : l.length < maxLen) {s : ByteArray} (hs : s.size ≤ maxLen) :
    ∃ w', (Instr.mapUpdate 104 (.map (some M)) (.string s) (.agg #[])).run Tryd.prog w = .ok () w' ∧ SetAt w' M (l ++ [s]) ∧ Only (fun k => k = M) w w' := by
  obtain ⟨w', h1, h2, h3⟩ := World.ownsMap.store h key9 Tryd.underlying104 hl (key_str hs) (val := .agg #[]) (d := .agg []) (ps := []) unitElem_mk
  refine ⟨w', h1, ?_, ?_⟩
  · unfold SetAt
    rw [List.length_append, show kts (l ++ [s]) = kts l ++ [.string s.data.toList] by simp [kts], Maps.setOf_snoc]
    exact h2
  · obtain ⟨es, clock, es', clock', hb, rfl⟩ := h3
    exact ⟨rfl, rfl, rfl, by simp [setBlock], fun i _ hi => heap_setBlock_other hb _ hi⟩
theorem SetAt.new (w : World) : SetAt (w.alloc (.map #[] 0)) w.heap.size [] := World.ownsMap_made w Tryd.prog 9 unitElem
end

/-- A judge in memory: its first name, its set. -/
structure JudgeAt (w : World) (g M c : Nat) (first : ByteArray) (l : List ByteArray) : Prop where
  fst : Whole w g 9 #[.string first]
  ptr : Whole w c 104 #[.map (some M)]
  set : SetAt w M l
theorem JudgeAt.only {w w' : World} {g M c : Nat} {first : ByteArray} {l : List ByteArray} {S : Nat → Prop} (h : JudgeAt w g M c first l) (ho : Only S w w') (h1 : ¬ S g) (h2 : ¬ S M) (h3 : ¬ S c) : JudgeAt w' g M c first l :=
  ⟨h.fst.only ho h1, h.ptr.only ho h3, h.set.only ho h2⟩
/-- The judge's value. -/
def judgeV (g c : Nat) : Value := .func (.func 67) #[] #[.pointer (some ⟨c, 0, none⟩), .pointer (some ⟨g, 0, none⟩)]
/-- What makes a judge. -/
def MakesJudge (w : World) (first : ByteArray) (e : Ending) (w' : World) : Prop :=
  ∃ g M c, e = .returned (judgeV g c) ∧ JudgeAt w' g M c first [] ∧ w.heap.size ≤ g ∧ w.heap.size ≤ M ∧ w.heap.size ≤ c ∧ Below w.heap.size w w'

set_option maxHeartbeats 2000000 in
theorem judge_new (first : ByteArray) (w : World) : Calls Tryd.prog 44 #[.string first] w (MakesJudge w first) := by
  go_enter Tryd.func44, Tryd.ntmps44
  go_wp2
  rw [run_makeMap]
  go_wp2
  go_ret
  have h1 := Whole.new w 9 #[.string first]
  have h2 := SetAt.new (w.alloc (.cells #[.string first] 9))
  have h3 := Whole.new ((w.alloc (.cells #[.string first] 9)).alloc (.map #[] 0)) 104 #[.map (some (w.heap.size + 1))]
  simp only [World.size_alloc] at h2 h3
  refine ⟨w.heap.size, w.heap.size + 1, w.heap.size + 1 + 1, rfl, ⟨(h1.alloc _).alloc _, h3, h2.block (Below.heap_alloc _ _ _ (by simp))⟩, Nat.le_refl _, by omega, by omega, (((Below.refl _ _).alloc (Nat.le_refl _) _).alloc (by simp) _).alloc (by simp; omega) _⟩

/-- What is wrong with a header behind others of those small names, in a section that begins so. -/
def judgeM (first : ByteArray) (l : List ByteArray) (p : ByteArray × ByteArray) : Int :=
  if valueM p.2 = false then 2
  else if nameM p.1 = false then 8
  else if l = [] ∧ smallM p.1 ≠ first then 8
  else if hasT l (smallM p.1) = true then 10 else 0
/-- What a judge's call does. -/
def Judges (w : World) (g M c : Nat) (first : ByteArray) (l : List ByteArray) (p : ByteArray × ByteArray) (e : Ending) (w' : World) : Prop :=
  e = .returned (.int .i64 (judgeM first l p)) ∧ JudgeAt w' g M c first (if judgeM first l p = 0 then l ++ [smallM p.1] else l) ∧ Only (fun k => k = M) w w'

set_option maxHeartbeats 4000000 in
theorem judge_any (a b first : ByteArray) (l : List ByteArray) (g M c : Nat) (ha : a.size ≤ 4294967280) (hb : b.size ≤ 4294967280) (hl : l.length ≤ 4294967296) (w : World) (hJ : JudgeAt w g M c first l) :
    Calls Tryd.prog 67 #[.agg (pairA a b), .pointer (some ⟨c, 0, none⟩), .pointer (some ⟨g, 0, none⟩)] w (Judges w g M c first l (a, b)) := by
  have SA := Lib.hid (fun W => psmall_any a a.size rfl (by omega) W)
  have VA := Lib.hid (fun W => pvalue_any b (by omega) W)
  have NA := Lib.hid (fun W => pname_any a a.size rfl (by omega) W)
  have F0 := Lib.hid (Whole.new w 44 (pairA a b))
  have J0 := Lib.hid (hJ.only ((Only.refl Nob w).alloc (.cells (pairA a b) 44)) (fun h => h) (fun h => h) (fun h => h))
  have O0 := Lib.hid ((Only.refl (fun k => k = M) w).alloc (.cells (pairA a b) 44))
  go_enter Tryd.func67, Tryd.ntmps67
  have p0 : (pairA a b)[0]? = some (.string a) := rfl
  have p1 : (pairA a b)[1]? = some (.string b) := rfl
  have C0 := F0.out.cell 0
  have C1 := F0.out.cell 1
  rw [p0] at C0
  rw [p1] at C1
  obtain ⟨w0, hw0⟩ : ∃ W, w.alloc (.cells (pairA a b) 44) = W := ⟨_, rfl⟩
  rw [hw0] at F0 J0 O0 C0 C1
  obtain ⟨T, hT⟩ : ∃ T, smallM a = T := ⟨_, rfl⟩
  have hTs : T.size ≤ maxLen := by
    rw [← hT, ← smP_all, smP_size a _ (Nat.le_refl _)]; simp [maxLen]; omega
  obtain ⟨r, hr⟩ : ∃ r, judgeM first l (a, b) = r := ⟨_, rfl⟩
  have HR := Lib.hid hr
  unfold judgeM at hr
  simp only [hT] at hr
  rw [hT] at SA
  have HT := Lib.hid hT
  clear hT
  clear C1
  cases hv : valueM b with
  | false =>
    rw [hv, if_pos rfl] at hr
    subst hr
    rw [hv] at VA
    go_wp2_with (first | (go_at_call 32; refine (SA.out _).mono ?_; rintro e w1 ⟨rfl, b1⟩; have J1 := Lib.hid (J0.out.only (Only.of_below b1 Nob) (fun h => h) (fun h => h) (fun h => h)); have F1 := Lib.hid (F0.out.bel b1); have O1 := Lib.hid (O0.out.trans (Only.of_below b1 _)); have cc := J1.out.ptr.cell 0; have lk := J1.out.set.look hTs; simp only [List.getElem?_toArray, List.getElem?_cons_zero] at cc; have c21 := (F1.out.alloc (.cells #[] 105)).cell 1; rw [p1] at c21) | (go_at_call 68; refine (VA.out _).mono ?_; rintro e w3 ⟨rfl, b3⟩; have J3 := Lib.hid ((J1.out.only ((Only.refl Nob w1).alloc (.cells #[] 105)) (fun h => h) (fun h => h) (fun h => h)).only (Only.of_below b3 Nob) (fun h => h) (fun h => h) (fun h => h)); have F3 := Lib.hid ((F1.out.alloc (.cells #[] 105)).bel b3); have O3 := Lib.hid ((O1.out.alloc (.cells #[] 105)).trans (Only.of_below b3 _)); have c30 := F3.out.cell 0; rw [p0] at c30) | (go_at_call 17; refine (NA.out _).mono ?_; rintro e w4 ⟨rfl, b4⟩; have J4 := Lib.hid (J3.out.only (Only.of_below b4 Nob) (fun h => h) (fun h => h) (fun h => h)); have O4 := Lib.hid (O3.out.trans (Only.of_below b4 _)); have c4c := J4.out.ptr.cell 0; have c4g := J4.out.fst.cell 0; simp only [List.getElem?_toArray, List.getElem?_cons_zero] at c4c c4g; obtain ⟨n4, hn4, ln4⟩ := J4.out.set.len 3; skip; obtain ⟨w5, st5, s5, o5⟩ := J4.out.set.store (s := T) (by simp [maxLen]; omega) hTs; have S5 := Lib.hid s5; have O5 := Lib.hid o5; clear s5 o5))
    go_ret
    exact ⟨by rw [HR.out]; rfl, by rw [HR.out, if_neg (by decide)]; exact J3.out, O3.out⟩
  | true =>
    rw [hv, if_neg (by simp)] at hr
    rw [hv] at VA
    cases hm : nameM a with
    | false =>
      rw [hm, if_pos rfl] at hr
      subst hr
      rw [hm] at NA
      go_wp2_with (first | (go_at_call 32; refine (SA.out _).mono ?_; rintro e w1 ⟨rfl, b1⟩; have J1 := Lib.hid (J0.out.only (Only.of_below b1 Nob) (fun h => h) (fun h => h) (fun h => h)); have F1 := Lib.hid (F0.out.bel b1); have O1 := Lib.hid (O0.out.trans (Only.of_below b1 _)); have cc := J1.out.ptr.cell 0; have lk := J1.out.set.look hTs; simp only [List.getElem?_toArray, List.getElem?_cons_zero] at cc; have c21 := (F1.out.alloc (.cells #[] 105)).cell 1; rw [p1] at c21) | (go_at_call 68; refine (VA.out _).mono ?_; rintro e w3 ⟨rfl, b3⟩; have J3 := Lib.hid ((J1.out.only ((Only.refl Nob w1).alloc (.cells #[] 105)) (fun h => h) (fun h => h) (fun h => h)).only (Only.of_below b3 Nob) (fun h => h) (fun h => h) (fun h => h)); have F3 := Lib.hid ((F1.out.alloc (.cells #[] 105)).bel b3); have O3 := Lib.hid ((O1.out.alloc (.cells #[] 105)).trans (Only.of_below b3 _)); have c30 := F3.out.cell 0; rw [p0] at c30) | (go_at_call 17; refine (NA.out _).mono ?_; rintro e w4 ⟨rfl, b4⟩; have J4 := Lib.hid (J3.out.only (Only.of_below b4 Nob) (fun h => h) (fun h => h) (fun h => h)); have O4 := Lib.hid (O3.out.trans (Only.of_below b4 _)); have c4c := J4.out.ptr.cell 0; have c4g := J4.out.fst.cell 0; simp only [List.getElem?_toArray, List.getElem?_cons_zero] at c4c c4g; obtain ⟨n4, hn4, ln4⟩ := J4.out.set.len 3; skip; obtain ⟨w5, st5, s5, o5⟩ := J4.out.set.store (s := T) (by simp [maxLen]; omega) hTs; have S5 := Lib.hid s5; have O5 := Lib.hid o5; clear s5 o5))
      go_ret
      exact ⟨by rw [HR.out]; rfl, by rw [HR.out, if_neg (by decide)]; exact J4.out, O4.out⟩
    | true =>
      rw [hm, if_neg (by simp)] at hr
      rw [hm] at NA
      clear hv hm
      by_cases h0 : l = []
      · by_cases hf : T = first
        · have hc : (T.toList == first.toList) = true := by rw [hf]; simp
          have hx : hasT l T = false := by rw [h0]; rfl
          rw [if_neg (by simp [hf]), hx, if_neg (by simp)] at hr
          subst hr
          have H0 := Lib.hid h0
          clear h0 hf
          go_wp2_with (first | (go_at_call 32; refine (SA.out _).mono ?_; rintro e w1 ⟨rfl, b1⟩; have J1 := Lib.hid (J0.out.only (Only.of_below b1 Nob) (fun h => h) (fun h => h) (fun h => h)); have F1 := Lib.hid (F0.out.bel b1); have O1 := Lib.hid (O0.out.trans (Only.of_below b1 _)); have cc := J1.out.ptr.cell 0; have lk := J1.out.set.look hTs; simp only [List.getElem?_toArray, List.getElem?_cons_zero] at cc; have c21 := (F1.out.alloc (.cells #[] 105)).cell 1; rw [p1] at c21) | (go_at_call 68; refine (VA.out _).mono ?_; rintro e w3 ⟨rfl, b3⟩; have J3 := Lib.hid ((J1.out.only ((Only.refl Nob w1).alloc (.cells #[] 105)) (fun h => h) (fun h => h) (fun h => h)).only (Only.of_below b3 Nob) (fun h => h) (fun h => h) (fun h => h)); have F3 := Lib.hid ((F1.out.alloc (.cells #[] 105)).bel b3); have O3 := Lib.hid ((O1.out.alloc (.cells #[] 105)).trans (Only.of_below b3 _)); have c30 := F3.out.cell 0; rw [p0] at c30) | (go_at_call 17; refine (NA.out _).mono ?_; rintro e w4 ⟨rfl, b4⟩; have J4 := Lib.hid (J3.out.only (Only.of_below b4 Nob) (fun h => h) (fun h => h) (fun h => h)); have O4 := Lib.hid (O3.out.trans (Only.of_below b4 _)); have c4c := J4.out.ptr.cell 0; have c4g := J4.out.fst.cell 0; simp only [List.getElem?_toArray, List.getElem?_cons_zero] at c4c c4g; obtain ⟨n4, hn4, ln4⟩ := J4.out.set.len 3; obtain rfl := hn4.2 H0.out; obtain ⟨w5, st5, s5, o5⟩ := J4.out.set.store (s := T) (by simp [maxLen]; omega) hTs; have S5 := Lib.hid s5; have O5 := Lib.hid o5; clear s5 o5))
          go_ret
          refine ⟨by rw [HR.out]; rfl, ?_, O4.out.trans O5.out⟩
          rw [HR.out, if_pos rfl, HT.out]
          exact ⟨J4.out.fst.only O5.out (fun h => (J4.out.set.ne J4.out.fst) h.symm), J4.out.ptr.only O5.out (fun h => (J4.out.set.ne J4.out.ptr) h.symm), S5.out⟩
        · have hc : (T.toList == first.toList) = false := by
            rw [beq_eq_false_iff_ne]
            rw [ByteArray.toList_eq, ByteArray.toList_eq]
            intro e
            exact hf (ByteArray.ext (Array.toList_inj.1 e))
          rw [if_pos ⟨h0, hf⟩] at hr
          subst hr
          have H0 := Lib.hid h0
          clear h0 hf
          go_wp2_with (first | (go_at_call 32; refine (SA.out _).mono ?_; rintro e w1 ⟨rfl, b1⟩; have J1 := Lib.hid (J0.out.only (Only.of_below b1 Nob) (fun h => h) (fun h => h) (fun h => h)); have F1 := Lib.hid (F0.out.bel b1); have O1 := Lib.hid (O0.out.trans (Only.of_below b1 _)); have cc := J1.out.ptr.cell 0; have lk := J1.out.set.look hTs; simp only [List.getElem?_toArray, List.getElem?_cons_zero] at cc; have c21 := (F1.out.alloc (.cells #[] 105)).cell 1; rw [p1] at c21) | (go_at_call 68; refine (VA.out _).mono ?_; rintro e w3 ⟨rfl, b3⟩; have J3 := Lib.hid ((J1.out.only ((Only.refl Nob w1).alloc (.cells #[] 105)) (fun h => h) (fun h => h) (fun h => h)).only (Only.of_below b3 Nob) (fun h => h) (fun h => h) (fun h => h)); have F3 := Lib.hid ((F1.out.alloc (.cells #[] 105)).bel b3); have O3 := Lib.hid ((O1.out.alloc (.cells #[] 105)).trans (Only.of_below b3 _)); have c30 := F3.out.cell 0; rw [p0] at c30) | (go_at_call 17; refine (NA.out _).mono ?_; rintro e w4 ⟨rfl, b4⟩; have J4 := Lib.hid (J3.out.only (Only.of_below b4 Nob) (fun h => h) (fun h => h) (fun h => h)); have O4 := Lib.hid (O3.out.trans (Only.of_below b4 _)); have c4c := J4.out.ptr.cell 0; have c4g := J4.out.fst.cell 0; simp only [List.getElem?_toArray, List.getElem?_cons_zero] at c4c c4g; obtain ⟨n4, hn4, ln4⟩ := J4.out.set.len 3; obtain rfl := hn4.2 H0.out; obtain ⟨w5, st5, s5, o5⟩ := J4.out.set.store (s := T) (by simp [maxLen]; omega) hTs; have S5 := Lib.hid s5; have O5 := Lib.hid o5; clear s5 o5))
          go_ret
          exact ⟨by rw [HR.out]; rfl, by rw [HR.out, if_neg (by decide)]; exact J4.out, O4.out⟩
      · rw [if_neg (fun h => h0 h.1)] at hr
        have H0 := Lib.hid h0
        clear h0
        cases hx : hasT l T with
        | true =>
          rw [hx, if_pos rfl] at hr
          subst hr
          go_wp2_with (first | (go_at_call 32; refine (SA.out _).mono ?_; rintro e w1 ⟨rfl, b1⟩; have J1 := Lib.hid (J0.out.only (Only.of_below b1 Nob) (fun h => h) (fun h => h) (fun h => h)); have F1 := Lib.hid (F0.out.bel b1); have O1 := Lib.hid (O0.out.trans (Only.of_below b1 _)); have cc := J1.out.ptr.cell 0; have lk := J1.out.set.look hTs; simp only [List.getElem?_toArray, List.getElem?_cons_zero] at cc; have c21 := (F1.out.alloc (.cells #[] 105)).cell 1; rw [p1] at c21) | (go_at_call 68; refine (VA.out _).mono ?_; rintro e w3 ⟨rfl, b3⟩; have J3 := Lib.hid ((J1.out.only ((Only.refl Nob w1).alloc (.cells #[] 105)) (fun h => h) (fun h => h) (fun h => h)).only (Only.of_below b3 Nob) (fun h => h) (fun h => h) (fun h => h)); have F3 := Lib.hid ((F1.out.alloc (.cells #[] 105)).bel b3); have O3 := Lib.hid ((O1.out.alloc (.cells #[] 105)).trans (Only.of_below b3 _)); have c30 := F3.out.cell 0; rw [p0] at c30) | (go_at_call 17; refine (NA.out _).mono ?_; rintro e w4 ⟨rfl, b4⟩; have J4 := Lib.hid (J3.out.only (Only.of_below b4 Nob) (fun h => h) (fun h => h) (fun h => h)); have O4 := Lib.hid (O3.out.trans (Only.of_below b4 _)); have c4c := J4.out.ptr.cell 0; have c4g := J4.out.fst.cell 0; simp only [List.getElem?_toArray, List.getElem?_cons_zero] at c4c c4g; obtain ⟨n4, hn4, ln4⟩ := J4.out.set.len 3; have q4 : ((n4 : Int) == 0) = false := (beq_eq_false_iff_ne.2 (fun h => H0.out (hn4.1 (by omega)))); rw [hx] at lk; obtain ⟨w5, st5, s5, o5⟩ := J4.out.set.store (s := T) (by simp [maxLen]; omega) hTs; have S5 := Lib.hid s5; have O5 := Lib.hid o5; clear s5 o5))
          go_ret
          exact ⟨by rw [HR.out]; rfl, by rw [HR.out, if_neg (by decide)]; exact J4.out, O4.out⟩
        | false =>
          rw [hx, if_neg (by simp)] at hr
          subst hr
          go_wp2_with (first | (go_at_call 32; refine (SA.out _).mono ?_; rintro e w1 ⟨rfl, b1⟩; have J1 := Lib.hid (J0.out.only (Only.of_below b1 Nob) (fun h => h) (fun h => h) (fun h => h)); have F1 := Lib.hid (F0.out.bel b1); have O1 := Lib.hid (O0.out.trans (Only.of_below b1 _)); have cc := J1.out.ptr.cell 0; have lk := J1.out.set.look hTs; simp only [List.getElem?_toArray, List.getElem?_cons_zero] at cc; have c21 := (F1.out.alloc (.cells #[] 105)).cell 1; rw [p1] at c21) | (go_at_call 68; refine (VA.out _).mono ?_; rintro e w3 ⟨rfl, b3⟩; have J3 := Lib.hid ((J1.out.only ((Only.refl Nob w1).alloc (.cells #[] 105)) (fun h => h) (fun h => h) (fun h => h)).only (Only.of_below b3 Nob) (fun h => h) (fun h => h) (fun h => h)); have F3 := Lib.hid ((F1.out.alloc (.cells #[] 105)).bel b3); have O3 := Lib.hid ((O1.out.alloc (.cells #[] 105)).trans (Only.of_below b3 _)); have c30 := F3.out.cell 0; rw [p0] at c30) | (go_at_call 17; refine (NA.out _).mono ?_; rintro e w4 ⟨rfl, b4⟩; have J4 := Lib.hid (J3.out.only (Only.of_below b4 Nob) (fun h => h) (fun h => h) (fun h => h)); have O4 := Lib.hid (O3.out.trans (Only.of_below b4 _)); have c4c := J4.out.ptr.cell 0; have c4g := J4.out.fst.cell 0; simp only [List.getElem?_toArray, List.getElem?_cons_zero] at c4c c4g; obtain ⟨n4, hn4, ln4⟩ := J4.out.set.len 3; have q4 : ((n4 : Int) == 0) = false := (beq_eq_false_iff_ne.2 (fun h => H0.out (hn4.1 (by omega)))); obtain ⟨w5, st5, s5, o5⟩ := J4.out.set.store (s := T) (by simp [maxLen]; omega) hTs; have S5 := Lib.hid s5; have O5 := Lib.hid o5; clear s5 o5))
          go_ret
          refine ⟨by rw [HR.out]; rfl, ?_, O4.out.trans O5.out⟩
          rw [HR.out, if_pos rfl, HT.out]
          exact ⟨J4.out.fst.only O5.out (fun h => (J4.out.set.ne J4.out.fst) h.symm), J4.out.ptr.only O5.out (fun h => (J4.out.set.ne J4.out.ptr) h.symm), S5.out⟩
end Go.Proofs.YteadhiehhpafjaaDoor
