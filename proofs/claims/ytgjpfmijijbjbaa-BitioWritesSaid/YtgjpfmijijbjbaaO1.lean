/-
  How a slice of puts that came in is read. Conditions: none.
-/
import Derived.Test.YtgjpfmijijbjbaaL2
import Derived.Test.YtgjpfmijijbjbaaChecked
import Derived.Deep.Slices
import Derived.Deep.Fields
import Derived.ChangeSame
namespace Go.Proofs.Ytgjpfmijijbjbaa
open Go.ChangeShapes Go.WideShapes Go.Deep Go.RowKit
theorem cells27 : Try.prog.cellsOf 27 = 1 := by kernel_rfl
theorem cells3 : Try.prog.cellsOf 3 = 1 := by kernel_rfl
theorem cells4 : Try.prog.cellsOf 4 = 1 := by kernel_rfl
theorem cells29 : Try.prog.cellsOf 29 = 3 := by kernel_rfl

theorem word_of_wf {x : Int} (h : (Lit.int .u32 x).wf = true) : 0 ≤ x ∧ x < 4294967296 := by
  simp [Lit.wf, IntKind.min, IntKind.max, IntKind.signed, IntKind.bits] at h
  omega

section
variable {H : Type} {enc : TypeId × Value → H} {w : World} {base : Nat} {spare : Nat → Bool} {held : Bool}

theorem put_cells {fuel : Nat} {cs : List Value} {x : DataW H × List MemPlace} (h : DataW.trod enc Try.prog w base spare held fuel 29 cs = some x) :
    ∃ (v : Nat) (k : Int) (b : Bool), cs = [.int .u32 v, .int .i64 k, .bool b] ∧ v < 4294967296 := by
  obtain ⟨xs, n, _, _, hlen, hxs, hf⟩ := DataW.trod_struct Try.underlying29 h
  rw [cells29] at hlen
  match cs, hlen with
  | [c0, c1, c2], _ =>
    have g0 : DataW.trod enc Try.prog w base spare held n 27 ([c0, c1, c2].take (Try.prog.cellsOf 27)) = xs[0]? := hf 0 _ rfl
    have g1 : DataW.trod enc Try.prog w base spare held n 3 ([c1, c2].take (Try.prog.cellsOf 3)) = xs[1]? := hf 1 _ rfl
    have g2 : DataW.trod enc Try.prog w base spare held n 4 ([c2].take (Try.prog.cellsOf 4)) = xs[2]? := hf 2 _ rfl
    have hl : xs.length = 3 := hxs
    match xs, hl with
    | [x0, x1, x2], _ =>
      rw [cells27] at g0
      rw [cells3] at g1
      rw [cells4] at g2
      obtain ⟨v, e0, _, hv⟩ := DataW.trod_int Try.underlying27 g0
      obtain ⟨k, e1, _, _⟩ := DataW.trod_int Try.underlying3 g1
      obtain ⟨b, e2, _⟩ := DataW.trod_bool Try.underlying4 g2
      have hv' := word_of_wf hv
      obtain ⟨v, rfl⟩ := Int.eq_ofNat_of_zero_le hv'.1
      refine ⟨v, k, b, ?_, by omega⟩
      simp at e0 e1 e2
      rw [e0, e1, e2]

theorem puts_of {fuel : Nat} {A : Option Addr} {len cap : Nat} {x : DataW H × List MemPlace} (h : DataW.trod enc Try.prog w 0 (fun _ => true) held fuel 22 [.slice A len cap] = some x) :
    len ≤ 9223372036854775807 ∧ ∃ (V : Nat → Nat) (K : Nat → Int) (Al : Nat → Bool), PutsAt w w.heap.size A len V K Al := by
  rcases open_slice Try.underlying22 h with ⟨hcs, _⟩ | ⟨a, len', cap', m, n, D, Pl, hcs, hb, hl, hm, hmm, hx, hi⟩
  · simp at hcs
    obtain ⟨rfl, rfl, rfl⟩ := hcs
    exact ⟨by omega, fun _ => 0, fun _ => 0, fun _ => false, fun i hi => absurd hi (by omega)⟩
  · simp at hcs
    obtain ⟨rfl, rfl, rfl⟩ := hcs
    have hmc : m = cap := by simpa using hmm
    subst hmc
    rw [cells29] at hi
    have key : ∀ i, i < len → ∃ y : Nat × Int × Bool, ∃ b o, some a = some ⟨b, o, none⟩ ∧ b < w.heap.size ∧ w.cell? ⟨b, o + i * 3, none⟩ = some (.int .u32 y.1) ∧ w.cell? ⟨b, o + i * 3 + 1, none⟩ = some (.int .i64 y.2.1) ∧ w.cell? ⟨b, o + i * 3 + 2, none⟩ = some (.bool y.2.2) ∧ y.1 < 4294967296 := by
      intro i hil
      obtain ⟨cs', hc, ht⟩ := hi i (by omega)
      obtain ⟨v, k, b, rfl, hv⟩ := put_cells ht
      obtain ⟨_, _, hat⟩ := World.cells?_some hc
      have h0 := hat 0 (by omega)
      have h1 := hat 1 (by omega)
      have h2 := hat 2 (by omega)
      rw [Go.Deep.add_add] at h0 h1 h2
      have hss : a.spot = none := by
        obtain ⟨cs0, hc0, _⟩ := hi 0 (by omega)
        obtain ⟨_, hlc, hat0⟩ := World.cells?_some hc0
        have h00 := hat0 0 (by omega)
        rw [List.getElem?_eq_getElem (by omega)] at h00
        simpa [Addr.add] using World.cell?_spot h00
      obtain ⟨bb, oo, ss⟩ := a
      simp only at hss
      subst hss
      rw [Addr.add_lit] at h0 h1 h2
      exact ⟨(v, k, b), bb, oo, rfl, World.block_lt_of_cell? w _ h0, by simpa using h0, by simpa [Nat.add_assoc] using h1, by simpa [Nat.add_assoc] using h2, hv⟩
    refine ⟨by unfold maxLen at hm; omega, fun i => if h : i < len then (key i h).choose.1 else 0, fun i => if h : i < len then (key i h).choose.2.1 else 0, fun i => if h : i < len then (key i h).choose.2.2 else false, fun i hil => ?_⟩
    simp only [dif_pos hil]
    exact (key i hil).choose_spec
end
end Go.Proofs.Ytgjpfmijijbjbaa
