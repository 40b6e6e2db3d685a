/-
  Records and moments that came in. Conditions: none.
-/
import Derived.Test.YtplilajgncfieaaRB
import Derived.Test.YtplilajgncfieaaChecked
import Derived.OpenShut
import Derived.ChangeSame
import Derived.Deep.Slices
import Derived.Deep.Fields
namespace Go.Proofs.Ytplilajgncfieaa
open Go.ChangeShapes Go.WideShapes Go.ChangeAt Go.Deep Go.RowKit
set_option maxRecDepth 100000

section
variable {H : Type} {enc : TypeId × Value → H} {w : World} {held : Bool}
theorem u16_of_wf {x : Int} (h : (Lit.int .u16 x).wf = true) : ∃ m : Nat, m < 65536 ∧ x = m := by
  simp [Lit.wf, IntKind.min, IntKind.max, IntKind.signed, IntKind.bits] at h
  exact ⟨x.toNat, by omega, by omega⟩
theorem u32_of_wf {x : Int} (h : (Lit.int .u32 x).wf = true) : ∃ m : Nat, m < 4294967296 ∧ x = m := by
  simp [Lit.wf, IntKind.min, IntKind.max, IntKind.signed, IntKind.bits] at h
  exact ⟨x.toNat, by omega, by omega⟩
theorem u8_of_wf {x : Int} (h : (Lit.int .u8 x).wf = true) : ∃ m : Nat, m < 256 ∧ x = m := by
  simp [Lit.wf, IntKind.min, IntKind.max, IntKind.signed, IntKind.bits] at h
  exact ⟨x.toNat, by omega, by omega⟩
theorem cells24 : Try.prog.cellsOf 24 = 2 := by kernel_rfl
theorem cells27 : Try.prog.cellsOf 27 = 8 := by kernel_rfl
theorem cells3 : Try.prog.cellsOf 3 = 1 := by kernel_rfl
theorem cells9 : Try.prog.cellsOf 9 = 1 := by kernel_rfl
theorem cells22 : Try.prog.cellsOf 22 = 1 := by kernel_rfl
theorem cells25 : Try.prog.cellsOf 25 = 1 := by kernel_rfl

theorem mom_cells {base : Nat} {spare : Nat → Bool} {fuel : Nat} {cs : List Value} {x : DataW H × List MemPlace} (h : DataW.trod enc Try.prog w base spare held fuel 24 cs = some x) :
    ∃ d c : Nat, cs = [.int .u16 d, .int .u16 c] ∧ d < 65536 ∧ c < 65536 := by
  obtain ⟨xs, n, _, _, hlen, hxs, hf⟩ := DataW.trod_struct Try.underlying24 h
  rw [cells24] at hlen
  match cs, hlen with
  | [c0, c1], _ =>
    have g0 : DataW.trod enc Try.prog w base spare held n 22 ([c0, c1].take (Try.prog.cellsOf 22)) = xs[0]? := hf 0 _ rfl
    have g1 : DataW.trod enc Try.prog w base spare held n 22 ([c1].take (Try.prog.cellsOf 22)) = xs[1]? := hf 1 _ rfl
    have hl : xs.length = 2 := hxs
    match xs, hl with
    | [x0, x1], _ =>
      rw [cells22] at g0 g1
      obtain ⟨a, e0, _, h0⟩ := DataW.trod_int Try.underlying22 g0
      obtain ⟨b, e1, _, h1⟩ := DataW.trod_int Try.underlying22 g1
      obtain ⟨a, ha, rfl⟩ := u16_of_wf h0
      obtain ⟨b, hb, rfl⟩ := u16_of_wf h1
      simp at e0 e1
      exact ⟨a, b, by rw [e0, e1], ha, hb⟩

theorem rec_cells {base : Nat} {spare : Nat → Bool} {fuel : Nat} {cs : List Value} {x : DataW H × List MemPlace} (h : DataW.trod enc Try.prog w base spare held fuel 27 cs = some x) :
    ∃ r : Rec, cs = (recC r).toList ∧ RecIn r := by
  obtain ⟨xs, n, _, _, hlen, hxs, hf⟩ := DataW.trod_struct Try.underlying27 h
  rw [cells27] at hlen
  match cs, hlen with
  | [c0, c1, c2, c3, c4, c5, c6, c7], _ =>
    have g0 : DataW.trod enc Try.prog w base spare held n 3 ([c0, c1, c2, c3, c4, c5, c6, c7].take (Try.prog.cellsOf 3)) = xs[0]? := hf 0 _ rfl
    have g1 : DataW.trod enc Try.prog w base spare held n 24 ([c1, c2, c3, c4, c5, c6, c7].take (Try.prog.cellsOf 24)) = xs[1]? := hf 1 _ rfl
    have g2 : DataW.trod enc Try.prog w base spare held n 25 ([c3, c4, c5, c6, c7].take (Try.prog.cellsOf 25)) = xs[2]? := hf 2 _ rfl
    have g3 : DataW.trod enc Try.prog w base spare held n 3 ([c4, c5, c6, c7].take (Try.prog.cellsOf 3)) = xs[3]? := hf 3 _ rfl
    have g4 : DataW.trod enc Try.prog w base spare held n 3 ([c5, c6, c7].take (Try.prog.cellsOf 3)) = xs[4]? := hf 4 _ rfl
    have g5 : DataW.trod enc Try.prog w base spare held n 9 ([c6, c7].take (Try.prog.cellsOf 9)) = xs[5]? := hf 5 _ rfl
    have g6 : DataW.trod enc Try.prog w base spare held n 3 ([c7].take (Try.prog.cellsOf 3)) = xs[6]? := hf 6 _ rfl
    have hl : xs.length = 7 := hxs
    match xs, hl with
    | [x0, x1, x2, x3, x4, x5, x6], _ =>
      rw [cells3] at g0 g3 g4 g6
      rw [cells24] at g1
      rw [cells25] at g2
      rw [cells9] at g5
      obtain ⟨me, e0, _, _⟩ := DataW.trod_int Try.underlying3 g0
      obtain ⟨da, cl, e1, hd, hc⟩ := mom_cells g1
      obtain ⟨su, e2, _, h2⟩ := DataW.trod_int Try.underlying25 g2
      obtain ⟨pa, e3, _, _⟩ := DataW.trod_int Try.underlying3 g3
      obtain ⟨si, e4, _, _⟩ := DataW.trod_int Try.underlying3 g4
      obtain ⟨na, e5, _, _⟩ := DataW.trod_string Try.underlying9 g5
      obtain ⟨of, e6, _, _⟩ := DataW.trod_int Try.underlying3 g6
      obtain ⟨su, hs, rfl⟩ := u32_of_wf h2
      simp at e0 e1 e2 e3 e4 e5 e6
      refine ⟨⟨me, da, cl, su, pa, si, na, of⟩, ?_, ⟨hd, hc, hs⟩⟩
      rw [e0, e1.1, e1.2, e2, e3, e4, e5, e6]
      rfl
end
end Go.Proofs.Ytplilajgncfieaa
