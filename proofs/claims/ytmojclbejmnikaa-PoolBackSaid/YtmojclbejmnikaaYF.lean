/-
  How constants that came in are read. Conditions: none.
-/
import Derived.Test.YtmojclbejmnikaaXA
import Derived.ProofKit
import Derived.ChangeSame
import Derived.Deep.Slices
import Derived.Deep.Fields
namespace Go.Proofs.Ytmojclbejmnikaa
open Go Go.ChangeShapes Go.WideShapes Go.ChangeAt Go.Deep Go.RowKit
set_option maxRecDepth 100000

/-- What a constant that came in keeps. -/
def RawIn (r : Raw) : Prop := r.text.size ≤ maxLen ∧ r.bits < 18446744073709551616 ∧ (-9223372036854775808 ≤ r.tag ∧ r.tag ≤ 9223372036854775807) ∧ (-9223372036854775808 ≤ r.a ∧ r.a ≤ 9223372036854775807) ∧ (-9223372036854775808 ≤ r.b ∧ r.b ≤ 9223372036854775807)
section
variable {H : Type} {enc : TypeId × Value → H} {w : World} {held : Bool}
theorem u64_of_wf {x : Int} (h : (Lit.int .u64 x).wf = true) : ∃ m : Nat, m < 18446744073709551616 ∧ x = m := by
  simp [Lit.wf, IntKind.min, IntKind.max, IntKind.signed, IntKind.bits] at h
  exact ⟨x.toNat, by omega, by omega⟩
theorem i64_of_wf {x : Int} (h : (Lit.int .i64 x).wf = true) : -9223372036854775808 ≤ x ∧ x ≤ 9223372036854775807 := by
  simp [Lit.wf, IntKind.min, IntKind.max, IntKind.signed, IntKind.bits] at h
  omega
theorem cells50 : Try.prog.cellsOf 47 = 5 := by kernel_rfl
theorem cells3 : Try.prog.cellsOf 3 = 1 := by kernel_rfl
theorem cells9 : Try.prog.cellsOf 9 = 1 := by kernel_rfl
theorem cells25 : Try.prog.cellsOf 39 = 1 := by kernel_rfl

theorem raw_cells {base : Nat} {spare : Nat → Bool} {fuel : Nat} {cs : List Value} {x : DataW H × List MemPlace} (h : DataW.trod enc Try.prog w base spare held fuel 47 cs = some x) :
    ∃ r : Raw, cs = rawC r ∧ RawIn r := by
  obtain ⟨xs, n, _, _, hlen, hxs, hf⟩ := DataW.trod_struct Try.underlying47 h
  rw [cells50] at hlen
  match cs, hlen with
  | [c0, c1, c2, c3, c4], _ =>
    have g0 : DataW.trod enc Try.prog w base spare held n 3 ([c0, c1, c2, c3, c4].take (Try.prog.cellsOf 3)) = xs[0]? := hf 0 _ rfl
    have g1 : DataW.trod enc Try.prog w base spare held n 9 ([c1, c2, c3, c4].take (Try.prog.cellsOf 9)) = xs[1]? := hf 1 _ rfl
    have g2 : DataW.trod enc Try.prog w base spare held n 39 ([c2, c3, c4].take (Try.prog.cellsOf 39)) = xs[2]? := hf 2 _ rfl
    have g3 : DataW.trod enc Try.prog w base spare held n 3 ([c3, c4].take (Try.prog.cellsOf 3)) = xs[3]? := hf 3 _ rfl
    have g4 : DataW.trod enc Try.prog w base spare held n 3 ([c4].take (Try.prog.cellsOf 3)) = xs[4]? := hf 4 _ rfl
    have hl : xs.length = 5 := hxs
    match xs, hl with
    | [x0, x1, x2, x3, x4], _ =>
      rw [cells3] at g0 g3 g4
      rw [cells9] at g1
      rw [cells25] at g2
      obtain ⟨t, e0, _, h0⟩ := DataW.trod_int Try.underlying3 g0
      obtain ⟨s, e1, _, h1⟩ := DataW.trod_string Try.underlying9 g1
      obtain ⟨u, e2, _, h2⟩ := DataW.trod_int Try.underlying39 g2
      obtain ⟨a, e3, _, h3⟩ := DataW.trod_int Try.underlying3 g3
      obtain ⟨b, e4, _, h4⟩ := DataW.trod_int Try.underlying3 g4
      obtain ⟨u, hu, rfl⟩ := u64_of_wf h2
      simp at e0 e1 e2 e3 e4
      refine ⟨⟨t, s, u, a, b⟩, ?_, h1, hu, i64_of_wf h0, i64_of_wf h3, i64_of_wf h4⟩
      rw [e0, e1, e2, e3, e4]
      rfl

/-- A slice of constants that came in is read as a pool. -/
theorem raws_of {fuel : Nat} {A : Option Addr} {len cap : Nat} {x : DataW H × List MemPlace} (h : DataW.trod enc Try.prog w 0 (fun _ => true) held fuel 30 [.slice A len cap] = some x) :
    len ≤ 9223372036854775807 ∧ ∃ l : List Raw, l.length = len ∧ (∀ r ∈ l, RawIn r) ∧ Seen w w.heap.size 5 A len cap (rv l) := by
  rcases open_slice Try.underlying30 h with ⟨hcs, _⟩ | ⟨a, len', cap', m, n, D, Pl, hcs, hb, hl, hm, hmm, hx, hi⟩
  · simp at hcs
    obtain ⟨rfl, rfl, rfl⟩ := hcs
    exact ⟨by omega, [], rfl, by simp, rfl, Nat.le_refl _, .inl ⟨rfl, rfl⟩⟩
  · simp at hcs
    obtain ⟨rfl, rfl, rfl⟩ := hcs
    have hmc : m = cap := by simpa using hmm
    subst hmc
    rw [cells50] at hi
    have key : ∀ i, i < len → ∃ r : Raw, RawIn r ∧ a.spot = none ∧ a.block < w.heap.size ∧ ∀ j u, (rawC r)[j]? = some u → w.cell? ⟨a.block, a.off + (i * 5 + j), none⟩ = some u := by
      intro i hil
      obtain ⟨cs', hc, ht⟩ := hi i (by omega)
      obtain ⟨r, rfl, hr⟩ := raw_cells ht
      obtain ⟨_, hlc, hat⟩ := World.cells?_some hc
      have hss : a.spot = none := by
        obtain ⟨cs0, hc0, _⟩ := hi 0 (by omega)
        obtain ⟨_, hlc0, hat0⟩ := World.cells?_some hc0
        have h00 := hat0 0 (by omega)
        rw [List.getElem?_eq_getElem (by omega)] at h00
        simpa [Addr.add] using World.cell?_spot h00
      obtain ⟨bb, oo, ss⟩ := a
      simp only at hss
      subst hss
      have hbl : bb < w.heap.size := by
        have h0 := hat 0 (by omega)
        rw [List.getElem?_eq_getElem (by omega)] at h0
        rw [Go.Deep.add_add, Addr.add_lit] at h0
        exact World.block_lt_of_cell? w _ h0
      refine ⟨r, hr, rfl, hbl, fun j u hj => ?_⟩
      have hj5 : j < 5 := by have := (List.getElem?_eq_some_iff.1 hj).1; simpa [rawC] using this
      have h0 := hat j hj5
      rw [hj, Go.Deep.add_add, Addr.add_lit] at h0
      exact h0
    let f : Nat → Raw := fun i => if h : i < len then (key i h).choose else ⟨0, ⟨#[]⟩, 0, 0, 0⟩
    have hf : ∀ i, i < len → RawIn (f i) ∧ a.spot = none ∧ a.block < w.heap.size ∧ ∀ j u, (rawC (f i))[j]? = some u → w.cell? ⟨a.block, a.off + (i * 5 + j), none⟩ = some u := by
      intro i hil
      have : f i = (key i hil).choose := dif_pos hil
      rw [this]
      exact (key i hil).choose_spec
    have hlen : ((List.range len).map f).length = len := by simp
    refine ⟨by unfold maxLen at hm; omega, (List.range len).map f, hlen, ?_, by rw [rv_length, hlen], hl, .inr ⟨a, rfl, fun hne => ?_⟩⟩
    · intro r hr
      obtain ⟨i, hi2, rfl⟩ := List.mem_map.1 hr
      exact (hf i (List.mem_range.1 hi2)).1
    · have hpos : 0 < len := by
        rcases Nat.eq_zero_or_pos len with h0 | h0
        · subst h0; simp [rv] at hne
        · exact h0
      obtain ⟨_, hsp, hbl, _⟩ := hf 0 hpos
      refine ⟨hsp, hbl, fun j u hu => ?_⟩
      have hj := (List.getElem?_eq_some_iff.1 hu).1
      rw [rv_length, hlen] at hj
      have hq : j / 5 < len := by omega
      have e : j = j / 5 * 5 + j % 5 := by omega
      have e2 := rv_get ((List.range len).map f) (j / 5) (by rw [hlen]; exact hq) (j % 5) (by omega)
      rw [← e, hu, List.getElem_map, List.getElem_range] at e2
      have := (hf (j / 5) hq).2.2.2 (j % 5) u e2.symm
      rwa [← e] at this
end
end Go.Proofs.Ytmojclbejmnikaa
