/-
  How a slice of asks of layer 2 that came in is read; CursorReads, whatever the arguments. Conditions: none.
-/
import Derived.Test.YtgjpfmijijbjbaaO2
import Derived.Test.YtgjpfmijijbjbaaL6
import Derived.Deep.Slices
import Derived.Deep.Fields
namespace Go.Proofs.Ytgjpfmijijbjbaa
open Go.ChangeShapes Go.WideShapes Go.Deep Go.RowKit
theorem cellsB5 : Try.prog.cellsOf 5 = 1 := by kernel_rfl
theorem cellsB3 : Try.prog.cellsOf 3 = 1 := by kernel_rfl
theorem cellsB63 : Try.prog.cellsOf 63 = 2 := by kernel_rfl
section
variable {H : Type} {enc : TypeId × Value → H} {w : World} {base : Nat} {spare : Nat → Bool} {held : Bool}

theorem ask2_cells {fuel : Nat} {cs : List Value} {x : DataW H × List MemPlace} (h : DataW.trod enc Try.prog w base spare held fuel 63 cs = some x) :
    ∃ (v : Nat) (k : Int), cs = [.int .u8 v, .int .i64 k] ∧ v < 256 := by
  obtain ⟨xs, n, _, _, hlen, hxs, hf⟩ := DataW.trod_struct Try.underlying63 h
  rw [cellsB63] at hlen
  match cs, hlen with
  | [c0, c1], _ =>
    have g0 : DataW.trod enc Try.prog w base spare held n 5 ([c0, c1].take (Try.prog.cellsOf 5)) = xs[0]? := hf 0 _ rfl
    have g1 : DataW.trod enc Try.prog w base spare held n 3 ([c1].take (Try.prog.cellsOf 3)) = xs[1]? := hf 1 _ rfl
    have hl : xs.length = 2 := hxs
    match xs, hl with
    | [x0, x1], _ =>
      rw [cellsB5] at g0
      rw [cellsB3] at g1
      obtain ⟨v, e0, _, hv⟩ := DataW.trod_int Try.underlying5 g0
      obtain ⟨k, e1, _, _⟩ := DataW.trod_int Try.underlying3 g1
      have hv' := byte_of_wf hv
      obtain ⟨v, rfl⟩ := Int.eq_ofNat_of_zero_le hv'.1
      refine ⟨v, k, ?_, by omega⟩
      simp at e0 e1
      rw [e0, e1]

theorem asks2_of {fuel : Nat} {A : Option Addr} {len cap : Nat} {x : DataW H × List MemPlace} (h : DataW.trod enc Try.prog w 0 (fun _ => true) held fuel 57 [.slice A len cap] = some x) :
    len ≤ 9223372036854775807 ∧ ∃ (Kd : Nat → Nat) (Nn : Nat → Int), Asks2 w w.heap.size A len Kd Nn := by
  rcases open_slice Try.underlying57 h with ⟨hcs, _⟩ | ⟨a, len', cap', m, n, D, Pl, hcs, hb, hl, hm, hmm, hx, hi⟩
  · simp at hcs
    obtain ⟨rfl, rfl, rfl⟩ := hcs
    exact ⟨by omega, fun _ => 0, fun _ => 0, fun i hi => absurd hi (by omega)⟩
  · simp at hcs
    obtain ⟨rfl, rfl, rfl⟩ := hcs
    have hmc : m = cap := by simpa using hmm
    subst hmc
    rw [cellsB63] at hi
    have key : ∀ i, i < len → ∃ y : Nat × Int, ∃ b o, some a = some ⟨b, o, none⟩ ∧ b < w.heap.size ∧ w.cell? ⟨b, o + i * 2, none⟩ = some (.int .u8 y.1) ∧ w.cell? ⟨b, o + i * 2 + 1, none⟩ = some (.int .i64 y.2) ∧ y.1 < 256 := by
      intro i hil
      obtain ⟨cs', hc, ht⟩ := hi i (by omega)
      obtain ⟨v, k, rfl, hv⟩ := ask2_cells ht
      obtain ⟨_, _, hat⟩ := World.cells?_some hc
      have h0 := hat 0 (by omega)
      have h1 := hat 1 (by omega)
      rw [Go.Deep.add_add] at h0 h1
      have hss : a.spot = none := by
        obtain ⟨cs0, hc0, _⟩ := hi 0 (by omega)
        obtain ⟨_, hlc, hat0⟩ := World.cells?_some hc0
        have h00 := hat0 0 (by omega)
        rw [List.getElem?_eq_getElem (by omega)] at h00
        simpa [Addr.add] using World.cell?_spot h00
      obtain ⟨bb, oo, ss⟩ := a
      simp only at hss
      subst hss
      rw [Addr.add_lit] at h0 h1
      exact ⟨(v, k), bb, oo, rfl, World.block_lt_of_cell? w _ h0, by simpa using h0, by simpa [Nat.add_assoc] using h1, hv⟩
    refine ⟨by unfold maxLen at hm; omega, fun i => if h : i < len then (key i h).choose.1 else 0, fun i => if h : i < len then (key i h).choose.2 else 0, fun i hil => ?_⟩
    simp only [dif_pos hil]
    exact (key i hil).choose_spec
end

theorem creads_law (A A2 : Option Addr) (n c n2 c2 : Nat) (hm : n ≤ 9223372036854775807) (hcm : c ≤ 9223372036854775807) (hm2 : n2 ≤ 9223372036854775807) (w : World) (h : ∃ bs : List Nat, bs.length = n ∧ (∀ y ∈ bs, y < 256) ∧ Seen w w.heap.size 1 A n c (bv bs)) (h2 : ∃ (Kd : Nat → Nat) (Nn : Nat → Int), Asks2 w w.heap.size A2 n2 Kd Nn) :
    Calls Try.prog 7 #[.slice A n c, .slice A2 n2 c2] w (LawPost w) := by
  by_cases hl : n ≤ 500 ∧ n2 ≤ 200
  · obtain ⟨bs, rfl, hb, hs⟩ := h
    obtain ⟨Kd, Nn, hA⟩ := h2
    exact creads_short A A2 c n2 c2 bs hl.1 hcm hl.2 hb Kd Nn w hs hA
  · exact creads_long A A2 n c n2 c2 (by omega) hm hm2 w

/-- A slice that came in has no more room than the greatest length. -/
theorem cap_of {H : Type} {enc : TypeId × Value → H} {w : World} {held : Bool} {fuel : Nat} {A : Option Addr} {len cap : Nat} {x : DataW H × List MemPlace} (h : DataW.trod enc Try.prog w 0 (fun _ => true) held fuel 33 [.slice A len cap] = some x) : cap ≤ 9223372036854775807 := by
  rcases open_slice Try.underlying33 h with ⟨hcs, _⟩ | ⟨a, len', cap', m, n, D, Pl, hcs, hb, hl, hm, hmm, hx, hi⟩
  · simp at hcs
    omega
  · simp at hcs
    unfold maxLen at hm
    omega
end Go.Proofs.Ytgjpfmijijbjbaa
