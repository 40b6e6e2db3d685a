/-
  What the row of a manifest gives: the manifest that came in, read out of memory, and how great it may be. Conditions: the row's own.
-/
import Derived.Test.YteadhiehhpafjaaDoorNV
namespace Go.Proofs.YteadhiehhpafjaaDoor
open Go Go.ChangeShapes Go.WideShapes Go.Deep Go.ChangeAt Go.RowKit

/-- As handed_shaped_and, and what came in is no greater than memory. -/
theorem handed_shaped_sized {H : Type} {enc : TypeId × Value → H} {a : Assume} {C : Checked} {os : Os} {f : FuncId} {fn : Func} {s : ChangeSpec} {conds : List PathCond} {apart fresh handsOn again : Bool} {X : World → Array Value → Prop}
    (own : ownKnob C.prog.godebug = none) (started : os.Started) (noInit : C.prog.inits.idxOf? f = none) (hfn : C.prog.funcs[f]? = some fn)
    (witness : ∃ (w : World) (tape : Tape) (i : Input), w.os = os ∧ (w.forCall tape i).Shaped C.prog ∧ i.vars = [] ∧ Input.okWide C.prog (w.forCall tape i) .any w.heap.size f i ∧
      ((s.pre enc C.prog fn conds apart (w.forCall tape i).memory i.args ∧ X (w.forCall tape i).memory i.args) ∧ sizedMet enc C.prog fn (OpenSpec.ofChange s) apart (w.forCall tape i).memory i.args) ∧ a.holds C.prog (lone (Frame.enter C.prog f i.args .normal) [] (w.forCall tape i)))
    (contract : ∀ (W : World) (base : Nat) (args : Array Value) (ds gs : List (DataW H)) (before : List MemPlace),
      (∀ (j : Nat) t v, fn.params[j]? = some t → args[j]? = some v → Value.okWide C.prog W .any base t v) →
      DataW.Whole enc C.prog fn.params.toList s.vars apart W args.toList ds gs before →
      (DataW.weightsEach C.prog (fn.params.toList ++ s.plain.varTypes C.prog) (ds ++ gs)).all (· ≤ reachBytes) = true →
      W.ShapedOpen C.prog →
      Calls C.prog f args W fun e W' => ∃ v, e = .returned v ∧ s.post enc C.prog fn apart fresh handsOn again W args v W') :
    ReturnsInHanded a C os f .any (fun w args => (s.pre enc C.prog fn conds apart w args ∧ X w args) ∧ sizedMet enc C.prog fn (OpenSpec.ofChange s) apart w args) (s.post enc C.prog fn apart fresh handsOn again) := by
  refine returnsInHanded_of_calls own started noInit witness ?_
  intro w tape i _ hsh _ hok hpre hholds
  obtain ⟨_, _, _, fn', hfn', _, _, _, _, hval⟩ := hok
  have e : fn' = fn := Option.some.inj (hfn'.symm.trans hfn)
  subst e
  obtain ⟨⟨⟨ds, gs, before, hw, hc⟩, hx⟩, hz⟩ := hpre
  have hw' := DataW.Whole.of_heap (w' := w.forCall tape i) (by rfl) hw
  refine (contract (w.forCall tape i) w.heap.size i.args ds gs before hval hw' (hz.weights hw) hsh).mono fun e W' ⟨v, he, hp⟩ => ?_
  subst he
  exact ChangeSpec.post_blind hp

theorem cellsA24 : Tryd.prog.cellsOf 24 = 1 := by kernel_rfl
theorem cellsA25 : Tryd.prog.cellsOf 25 = 1 := by kernel_rfl
theorem cellsA27 : Tryd.prog.cellsOf 27 = 2 := by kernel_rfl
theorem bytesA44 : Tryd.prog.bytesOf 44 = 32 := by kernel_rfl
theorem bytesA24 : Tryd.prog.bytesOf 24 = 24 := by kernel_rfl
theorem reach_is : reachBytes = 140737488351232 := rfl
theorem weightsAll_in {H : Type} {P : Program} {e : TypeId} : ∀ {l : List (DataW H)} {d : DataW H}, d ∈ l → ∀ n ∈ d.weights P e, n ∈ DataW.weightsAll P e l
  | d' :: r, d, hd, n, hn => by
    simp only [DataW.weightsAll, List.mem_append]
    rcases List.mem_cons.1 hd with rfl | h
    · exact Or.inl hn
    · exact Or.inr (weightsAll_in h n hn)
section
variable {H : Type} {enc : TypeId × Value → H} {w : World} {held : Bool}
theorem sec_len {fuel : Nat} {A : Option Addr} {len cap : Nat} {x : DataW H × List MemPlace} (h : DataW.trod enc Tryd.prog w 0 (fun _ => true) held fuel 24 [.slice A len cap] = some x) (hw : ∀ n ∈ x.1.weights Tryd.prog 24, n ≤ reachBytes) : len ≤ 10000000000000 := by
  rcases open_slice Tryd.underlying24 h with ⟨hcs, _⟩ | ⟨a, len', cap', m, n, D, Pl, hcs, hb, hl, hm, hmm, hx, hi⟩
  · simp at hcs; omega
  · simp at hcs
    obtain ⟨rfl, rfl, rfl⟩ := hcs
    have := hw ((len + (m - len)) * Tryd.prog.bytesOf 44) (by rw [hx]; simp [DataW.weights, Tryd.underlying24])
    rw [bytesA44, reach_is] at this
    omega
theorem secs_of {fuel : Nat} {A : Option Addr} {len cap : Nat} {x : DataW H × List MemPlace} (h : DataW.trod enc Tryd.prog w 0 (fun _ => true) held fuel 25 [.slice A len cap] = some x) (hw : ∀ n ∈ x.1.weights Tryd.prog 25, n ≤ reachBytes) :
    len ≤ 5864062014634 ∧ ∃ (rows : List Value) (ps : List Sec), ps.length = len ∧ (∀ s ∈ ps, s.length ≤ 10000000000000) ∧ Seen w w.heap.size 1 A len cap rows ∧ SecsSeen w w.heap.size rows ps := by
  rcases open_slice1 Tryd.underlying25 cellsA24 h with ⟨hcs, _⟩ | ⟨a, len', cap', m, n, V, D, Pl, hcs, hb, hl, hm, hmm, hx, hi⟩
  · simp at hcs
    obtain ⟨rfl, rfl, rfl⟩ := hcs
    exact ⟨by omega, [], [], rfl, (by intro s hs; cases hs), ⟨rfl, Nat.le_refl _, .inl ⟨rfl, rfl⟩⟩, rfl, fun i hi => by cases hi⟩
  · simp at hcs
    obtain ⟨rfl, rfl, rfl⟩ := hcs
    have hmc : m = cap := by simpa using hmm
    subst hmc
    have hlen : len ≤ 5864062014634 := by
      have := hw ((len + (m - len)) * Tryd.prog.bytesOf 24) (by rw [hx]; simp [DataW.weights, Tryd.underlying25])
      rw [bytesA24, reach_is] at this
      omega
    have key : ∀ i, i < len → ∃ y : Option Addr × Nat × Sec, a.spot = none ∧ a.block < w.heap.size ∧ w.cell? ⟨a.block, a.off + i, none⟩ = some (.slice y.1 y.2.2.length y.2.1) ∧ Seen w w.heap.size 2 y.1 y.2.2.length y.2.1 (pvs y.2.2) ∧ y.2.2.length ≤ 10000000000000 := by
      intro i hil
      obtain ⟨h1, h2⟩ := hi i (by omega)
      have hwi : ∀ n ∈ (D i).weights Tryd.prog 24, n ≤ reachBytes := fun k hk => hw k (by
        rw [hx]
        simp only [DataW.weights, Tryd.underlying25, List.mem_cons, List.mem_append]
        exact .inr (.inl (weightsAll_in (List.mem_map.2 ⟨i, List.mem_range.2 hil, rfl⟩) k hk)))
      obtain ⟨A', l', c', hv⟩ : ∃ A' l' c', V i = .slice A' l' c' := by
        rcases open_slice Tryd.underlying24 h2 with ⟨e, _⟩ | ⟨a', l', c', _, _, _, _, e, _⟩
        · exact ⟨_, _, _, by simpa using e⟩
        · exact ⟨_, _, _, by simpa using e⟩
      rw [hv] at h1 h2
      obtain ⟨_, l, hl', _, hs⟩ := sec_of h2
      subst hl'
      have hle := sec_len h2 hwi
      have hss : a.spot = none := by
        have h00 := (hi 0 (by omega)).1
        simpa [Addr.add] using World.cell?_spot h00
      obtain ⟨bb, oo, ss⟩ := a
      simp only at hss
      subst hss
      rw [Addr.add_lit] at h1
      exact ⟨(A', c', l), rfl, World.block_lt_of_cell? w ⟨bb, oo + i, none⟩ h1, h1, hs, hle⟩
    let g : Nat → Option Addr × Nat × Sec := fun i => if h : i < len then (key i h).choose else (none, 0, [])
    have gk : ∀ i, i < len → a.spot = none ∧ a.block < w.heap.size ∧ w.cell? ⟨a.block, a.off + i, none⟩ = some (.slice (g i).1 (g i).2.2.length (g i).2.1) ∧ Seen w w.heap.size 2 (g i).1 (g i).2.2.length (g i).2.1 (pvs (g i).2.2) ∧ (g i).2.2.length ≤ 10000000000000 := by
      intro i hil
      have e : g i = (key i hil).choose := dif_pos hil
      rw [e]
      exact (key i hil).choose_spec
    refine ⟨hlen, (List.range len).map (fun i => .slice (g i).1 (g i).2.2.length (g i).2.1), (List.range len).map (fun i => (g i).2.2), by simp, ?_, ⟨by simp, hl, .inr ⟨a, rfl, ?_⟩⟩, by simp, ?_⟩
    · intro s hs
      obtain ⟨i, hi1, rfl⟩ := List.mem_map.1 hs
      exact (gk i (List.mem_range.1 hi1)).2.2.2.2
    · intro hne
      have hlen : 0 < len := by
        rcases Nat.eq_zero_or_pos len with e | e
        · subst e; exact absurd rfl hne
        · exact e
      refine ⟨(gk 0 hlen).1, (gk 0 hlen).2.1, fun j u hu => ?_⟩
      have hj : j < len := by simpa using (List.getElem?_eq_some_iff.1 hu).1
      rw [(gk j hj).2.2.1, ← hu]
      simp [hj]
    · intro i hi1
      have hj : i < len := by simpa using hi1
      have e : ((List.range len).map fun i => (g i).2.2)[i] = (g i).2.2 := by simp
      rw [e]
      exact ⟨(g i).1, (g i).2.1, by simp [hj], (gk i hj).2.2.2.1⟩
theorem man_of {fuel : Nat} {cs : List Value} {x : DataW H × List MemPlace} (h : DataW.trod enc Tryd.prog w 0 (fun _ => true) held fuel 27 cs = some x) (hw : ∀ n ∈ x.1.weights Tryd.prog 27, n ≤ reachBytes) :
    ∃ a0 a1 main ps, cs = [a0, a1] ∧ ManSeen w w.heap.size (.agg #[a0, a1]) main ps ∧ (∀ s ∈ main :: ps, s.length ≤ 10000000000000) ∧ ps.length ≤ 5864062014634 := by
  obtain ⟨xs, n, _, hx, hlen, hxs, hf⟩ := DataW.trod_struct Tryd.underlying27 h
  rw [cellsA27] at hlen
  obtain ⟨c0, c1, rfl⟩ : ∃ a b, cs = [a, b] := two_of hlen
  have g0 : DataW.trod enc Tryd.prog w 0 (fun _ => true) held n 24 ([c0, c1].take (Tryd.prog.cellsOf 24)) = xs[0]? := hf 0 _ rfl
  have g1 : DataW.trod enc Tryd.prog w 0 (fun _ => true) held n 25 ([c1].take (Tryd.prog.cellsOf 25)) = xs[1]? := hf 1 _ rfl
  have hl : xs.length = 2 := hxs
  obtain ⟨x0, x1, rfl⟩ : ∃ a b, xs = [a, b] := two_of hl
  rw [cellsA24] at g0
  rw [cellsA25] at g1
  have g0' : DataW.trod enc Tryd.prog w 0 (fun _ => true) held n 24 [c0] = some x0 := g0
  have g1' : DataW.trod enc Tryd.prog w 0 (fun _ => true) held n 25 [c1] = some x1 := g1
  obtain ⟨A0, l0, k0, hv0⟩ : ∃ A' l' c', c0 = .slice A' l' c' := by
    rcases open_slice Tryd.underlying24 g0' with ⟨e, _⟩ | ⟨a', l', c', _, _, _, _, e, _⟩
    · exact ⟨_, _, _, by simpa using e⟩
    · exact ⟨_, _, _, by simpa using e⟩
  obtain ⟨A1, l1, k1, hv1⟩ : ∃ A' l' c', c1 = .slice A' l' c' := by
    rcases open_slice Tryd.underlying25 g1' with ⟨e, _⟩ | ⟨a', l', c', _, _, _, _, e, _⟩
    · exact ⟨_, _, _, by simpa using e⟩
    · exact ⟨_, _, _, by simpa using e⟩
  subst hv0 hv1
  have w0 : ∀ n ∈ x0.1.weights Tryd.prog 24, n ≤ reachBytes := fun k hk => hw k (by
    rw [hx]; simp only [DataW.weights, Tryd.underlying27]
    exact DataW.weights_mem_each (j := 0) rfl rfl k hk)
  have w1 : ∀ n ∈ x1.1.weights Tryd.prog 25, n ≤ reachBytes := fun k hk => hw k (by
    rw [hx]; simp only [DataW.weights, Tryd.underlying27]
    exact DataW.weights_mem_each (j := 1) rfl rfl k hk)
  obtain ⟨_, main, hm, _, sm⟩ := sec_of g0'
  subst hm
  have hml := sec_len g0' w0
  obtain ⟨hpl, rows, ps, hps, hpb, sr, ss⟩ := secs_of g1' w1
  subst hps
  refine ⟨_, _, main, ps, rfl, ⟨_, _, _, _, rows, rfl, sm, sr, ss⟩, ?_, hpl⟩
  intro s hs
  rcases List.mem_cons.1 hs with rfl | hs
  · exact hml
  · exact hpb s hs
end
end Go.Proofs.YteadhiehhpafjaaDoor
