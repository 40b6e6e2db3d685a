/-
  What the rows of this seat give: the lists that came in, read out of memory; the library's number; a start that meets the list. Conditions: the rows' own.
-/
import Derived.Test.YteadhiehhpafjaaDoorMG
import Derived.Test.YteadhiehhpafjaaDoorNM
import Derived.Test.YteadhiehhpafjaaDoorRows
import Derived.ProofKit
import Derived.Deep.Slices
import Derived.Deep.Fields
import Derived.OpenShut
import Derived.LaidMore
import Derived.Lay
import Derived.LaidLaws
import Derived.HandedShaped
import Derived.Shelf.Vars
import Derived.Stop.Joined
namespace Go.Proofs.YteadhiehhpafjaaDoor
open Go Go.ChangeShapes Go.WideShapes Go.Deep Go.ChangeAt Go.RowKit
theorem own : ownKnob Tryd.prog.godebug = none := by kernel_rfl
theorem laidOut : laidOutB Tryd.prog = true := by kernel_rfl
def listM : List (String × DataW Unit) := Rows.manifestFoldsRow.laid

/-- A contract of the library's that reads a variable of its own wants the world's shape, and these rows list variables besides. -/
theorem handed_shaped_and {H : Type} {enc : TypeId × Value → H} {a : Assume} {C : Checked} {os : Os} {f : FuncId} {fn : Func} {s : ChangeSpec} {conds : List PathCond} {apart fresh handsOn again : Bool} {X : World → Array Value → Prop}
    (own : ownKnob C.prog.godebug = none) (started : os.Started) (noInit : C.prog.inits.idxOf? f = none) (hfn : C.prog.funcs[f]? = some fn)
    (witness : ∃ (w : World) (tape : Tape) (i : Input), w.os = os ∧ (w.forCall tape i).Shaped C.prog ∧ i.vars = [] ∧ Input.okWide C.prog (w.forCall tape i) .any w.heap.size f i ∧
      ((s.pre enc C.prog fn conds apart (w.forCall tape i).memory i.args ∧ X (w.forCall tape i).memory i.args) ∧ sizedMet enc C.prog fn (OpenSpec.ofChange s) apart (w.forCall tape i).memory i.args) ∧ a.holds C.prog (lone (Frame.enter C.prog f i.args .normal) [] (w.forCall tape i)))
    (contract : ∀ (W : World) (base : Nat) (args : Array Value) (ds gs : List (DataW H)) (before : List MemPlace),
      (∀ (j : Nat) t v, fn.params[j]? = some t → args[j]? = some v → Value.okWide C.prog W .any base t v) →
      DataW.Whole enc C.prog fn.params.toList s.vars apart W args.toList ds gs before →
      W.ShapedOpen C.prog →
      Calls C.prog f args W fun e W' => ∃ v, e = .returned v ∧ s.post enc C.prog fn apart fresh handsOn again W args v W') :
    ReturnsInHanded a C os f .any (fun w args => (s.pre enc C.prog fn conds apart w args ∧ X w args) ∧ sizedMet enc C.prog fn (OpenSpec.ofChange s) apart w args) (s.post enc C.prog fn apart fresh handsOn again) := by
  refine returnsInHanded_of_calls own started noInit witness ?_
  intro w tape i _ hsh _ hok hpre hholds
  obtain ⟨_, _, _, fn', hfn', _, _, _, _, hval⟩ := hok
  have e : fn' = fn := Option.some.inj (hfn'.symm.trans hfn)
  subst e
  obtain ⟨⟨⟨ds, gs, before, hw, hc⟩, hx⟩, hz⟩ := hpre
  have hw' := DataW.Whole.of_heap (w' := w.forCall tape i) (by rfl) hw
  refine (contract (w.forCall tape i) w.heap.size i.args ds gs before hval hw' hsh).mono fun e W' ⟨v, he, hp⟩ => ?_
  subst he
  exact ChangeSpec.post_blind hp

theorem max_cell {W : World} (h : W.ShapedOpen Tryd.prog) : ∃ m, W.cell? ⟨1, 0, none⟩ = some (.int .i64 m) :=
  cell_of_shapedOpen_int (t := 3) (zero := #[.int .i64 0]) h (of_decide_eq_true (by kernel_rfl)) (by kernel_rfl) (by kernel_rfl) (by kernel_rfl) (by kernel_rfl) Tryd.underlying3

set_option maxRecDepth 1000000 in
theorem door_met (os : Os) (args : Array Value) : laidMetH Tryd.prog listM ((World.laidAll Tryd.prog os listM).forCall (fun _ _ => 0) ⟨#[], args, []⟩).memory := by
  rw [MakeChecks.laidMetH_plain _ _ _ (by kernel_rfl)]
  have h1 : (World.holding Tryd.prog os ⟨#[], #[], []⟩).layFits Tryd.prog listM [] = true := by kernel_rfl
  have h2 : (World.holding Tryd.prog os ⟨#[], #[], []⟩).layIfaces Tryd.prog listM (World.laidAll Tryd.prog os listM) = true := by kernel_rfl
  have h3 := laidMet_laidAll args h1 h2
  exact h3

theorem cellsA9 : Tryd.prog.cellsOf 9 = 1 := by kernel_rfl
theorem cellsA44 : Tryd.prog.cellsOf 44 = 2 := by kernel_rfl
theorem two_of {α : Type} : ∀ {l : List α}, l.length = 2 → ∃ a b, l = [a, b]
  | [a, b], _ => ⟨a, b, rfl⟩
section
variable {H : Type} {enc : TypeId × Value → H} {w : World} {base : Nat} {spare : Nat → Bool} {held : Bool}

theorem pair_cells {fuel : Nat} {cs : List Value} {x : DataW H × List MemPlace} (h : DataW.trod enc Tryd.prog w base spare held fuel 44 cs = some x) :
    ∃ a b : ByteArray, cs = [.string a, .string b] ∧ a.size ≤ 9223372036854775807 ∧ b.size ≤ 9223372036854775807 := by
  obtain ⟨xs, n, _, _, hlen, hxs, hf⟩ := DataW.trod_struct Tryd.underlying44 h
  rw [cellsA44] at hlen
  obtain ⟨c0, c1, rfl⟩ : ∃ a b, cs = [a, b] := two_of hlen
  have g0 : DataW.trod enc Tryd.prog w base spare held n 9 ([c0, c1].take (Tryd.prog.cellsOf 9)) = xs[0]? := hf 0 _ rfl
  have g1 : DataW.trod enc Tryd.prog w base spare held n 9 ([c1].take (Tryd.prog.cellsOf 9)) = xs[1]? := hf 1 _ rfl
  have hl : xs.length = 2 := hxs
  obtain ⟨x0, x1, rfl⟩ : ∃ a b, xs = [a, b] := two_of hl
  rw [cellsA9] at g0 g1
  obtain ⟨a, e0, _, ha⟩ := DataW.trod_string Tryd.underlying9 g0
  obtain ⟨b, e1, _, hb⟩ := DataW.trod_string Tryd.underlying9 g1
  simp at e0 e1
  unfold maxLen at ha hb
  exact ⟨a, b, by rw [e0, e1], ha, hb⟩

theorem pvs_get2 (l : Sec) (j : Nat) (u : Value) (h : (pvs l)[j]? = some u) : ∃ (k : Nat) (hk : k < l.length), (j = k * 2 ∧ u = .string l[k].1) ∨ (j = k * 2 + 1 ∧ u = .string l[k].2) := by
  have hj : j < (pvs l).length := (List.getElem?_eq_some_iff.1 h).1
  rw [pvs_length] at hj
  have hk : j / 2 < l.length := by omega
  refine ⟨j / 2, hk, ?_⟩
  obtain ⟨h0, h1⟩ := pvs_get l (j / 2) hk
  rcases Nat.mod_two_eq_zero_or_one j with e | e
  · have e1 : j = j / 2 * 2 := by omega
    rw [e1, h0] at h
    exact .inl ⟨e1, (Option.some.inj h).symm⟩
  · have e1 : j = j / 2 * 2 + 1 := by omega
    rw [e1, h1] at h
    exact .inr ⟨e1, (Option.some.inj h).symm⟩

theorem sec_of {fuel : Nat} {A : Option Addr} {len cap : Nat} {x : DataW H × List MemPlace} (h : DataW.trod enc Tryd.prog w 0 (fun _ => true) held fuel 24 [.slice A len cap] = some x) :
    len ≤ 9223372036854775807 ∧ ∃ l : Sec, l.length = len ∧ (∀ p ∈ l, p.1.size ≤ 9223372036854775807 ∧ p.2.size ≤ 9223372036854775807) ∧ Seen w w.heap.size 2 A len cap (pvs l) := by
  rcases open_slice Tryd.underlying24 h with ⟨hcs, _⟩ | ⟨a, len', cap', m, n, D, Pl, hcs, hb, hl, hm, hmm, hx, hi⟩
  · simp at hcs
    obtain ⟨rfl, rfl, rfl⟩ := hcs
    exact ⟨by omega, [], rfl, (by intro p hp; cases hp), rfl, Nat.le_refl _, .inl ⟨rfl, rfl⟩⟩
  · simp at hcs
    obtain ⟨rfl, rfl, rfl⟩ := hcs
    have hmc : m = cap := by simpa using hmm
    subst hmc
    rw [cellsA44] at hi
    have key : ∀ i, i < len → ∃ y : ByteArray × ByteArray, a.spot = none ∧ a.block < w.heap.size ∧ w.cell? ⟨a.block, a.off + i * 2, none⟩ = some (.string y.1) ∧ w.cell? ⟨a.block, a.off + i * 2 + 1, none⟩ = some (.string y.2) ∧ y.1.size ≤ 9223372036854775807 ∧ y.2.size ≤ 9223372036854775807 := by
      intro i hil
      obtain ⟨cs', hc, ht⟩ := hi i (by omega)
      obtain ⟨p, q, rfl, hp, hq⟩ := pair_cells ht
      obtain ⟨_, _, hat⟩ := World.cells?_some hc
      have h0 := hat 0 (by omega)
      have h1 := hat 1 (by omega)
      rw [Go.Deep.add_add] at h0 h1
      have hss : a.spot = none := by
        obtain ⟨cs0, hc0, _⟩ := hi 0 (by omega)
        obtain ⟨_, hlc, hat0⟩ := World.cells?_some hc0
        have h00 := hat0 0 (by omega)
        rw [List.getElem?_eq_getElem (by omega)] at h00
        simpa [Addr.add] using World.cell?_spot h00
      obtain ⟨bb, oo, ss⟩ := a
      simp only at hss
      subst hss
      rw [Addr.add_lit] at h0 h1
      have k0 : w.cell? ⟨bb, oo + i * 2, none⟩ = some (.string p) := by simpa using h0
      have k1 : w.cell? ⟨bb, oo + i * 2 + 1, none⟩ = some (.string q) := by simpa [Nat.add_assoc] using h1
      exact ⟨(p, q), rfl, World.block_lt_of_cell? w ⟨bb, oo + i * 2, none⟩ k0, k0, k1, hp, hq⟩
    let g : Nat → ByteArray × ByteArray := fun i => if h : i < len then (key i h).choose else (⟨#[]⟩, ⟨#[]⟩)
    have gk : ∀ i, i < len → a.spot = none ∧ a.block < w.heap.size ∧ w.cell? ⟨a.block, a.off + i * 2, none⟩ = some (.string (g i).1) ∧ w.cell? ⟨a.block, a.off + i * 2 + 1, none⟩ = some (.string (g i).2) ∧ (g i).1.size ≤ 9223372036854775807 ∧ (g i).2.size ≤ 9223372036854775807 := by
      intro i hil
      have e : g i = (key i hil).choose := dif_pos hil
      rw [e]
      exact (key i hil).choose_spec
    refine ⟨by unfold maxLen at hm; omega, (List.range len).map g, by simp, ?_, ?_, hl, .inr ⟨a, rfl, ?_⟩⟩
    · intro p hp
      obtain ⟨i, hi1, rfl⟩ := List.mem_map.1 hp
      exact (gk i (List.mem_range.1 hi1)).2.2.2.2
    · rw [pvs_length]; simp
    · intro hne
      have hlen : 0 < len := by
        rcases Nat.eq_zero_or_pos len with e | e
        · subst e; exact absurd rfl hne
        · exact e
      refine ⟨(gk 0 hlen).1, (gk 0 hlen).2.1, fun j u hu => ?_⟩
      obtain ⟨k, hk, hju⟩ := pvs_get2 _ j u hu
      have hk' : k < len := by simpa using hk
      have e : ((List.range len).map g)[k] = g k := by simp
      rcases hju with ⟨rfl, rfl⟩ | ⟨rfl, rfl⟩
      · rw [e]; exact (gk k hk').2.2.1
      · rw [e, ← Nat.add_assoc]; exact (gk k hk').2.2.2.1
end
end Go.Proofs.YteadhiehhpafjaaDoor
