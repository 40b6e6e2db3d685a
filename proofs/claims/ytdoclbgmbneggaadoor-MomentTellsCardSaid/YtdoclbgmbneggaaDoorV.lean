/-
  A moment that came in is two numbers of 16 bits. Conditions: none.
-/
import Derived.Test.YtdoclbgmbneggaaDoorProg
import Derived.Test.YtdoclbgmbneggaaDoorChecked
import Derived.OpenShut
import Derived.ChangeSame
import Derived.Deep.Slices
import Derived.Deep.Fields
namespace Go.Proofs.YtdoclbgmbneggaaDoor
open Go.ChangeShapes Go.WideShapes Go.Deep Go.RowKit
set_option maxRecDepth 100000

section
variable {H : Type} {enc : TypeId × Value → H} {w : World} {held : Bool}
theorem u16_of_wf {x : Int} (h : (Lit.int .u16 x).wf = true) : ∃ m : Nat, m < 65536 ∧ x = m := by
  simp [Lit.wf, IntKind.min, IntKind.max, IntKind.signed, IntKind.bits] at h
  exact ⟨x.toNat, by omega, by omega⟩
theorem cells24 : Tryd.prog.cellsOf 24 = 2 := by kernel_rfl
theorem cells22 : Tryd.prog.cellsOf 22 = 1 := by kernel_rfl

theorem mom_cells {base : Nat} {spare : Nat → Bool} {fuel : Nat} {cs : List Value} {x : DataW H × List MemPlace} (h : DataW.trod enc Tryd.prog w base spare held fuel 24 cs = some x) :
    ∃ d c : Nat, cs = [.int .u16 d, .int .u16 c] ∧ d < 65536 ∧ c < 65536 := by
  obtain ⟨xs, n, _, _, hlen, hxs, hf⟩ := DataW.trod_struct Tryd.underlying24 h
  rw [cells24] at hlen
  match cs, hlen with
  | [c0, c1], _ =>
    have g0 : DataW.trod enc Tryd.prog w base spare held n 22 ([c0, c1].take (Tryd.prog.cellsOf 22)) = xs[0]? := hf 0 _ rfl
    have g1 : DataW.trod enc Tryd.prog w base spare held n 22 ([c1].take (Tryd.prog.cellsOf 22)) = xs[1]? := hf 1 _ rfl
    have hl : xs.length = 2 := hxs
    match xs, hl with
    | [x0, x1], _ =>
      rw [cells22] at g0 g1
      obtain ⟨a, e0, _, h0⟩ := DataW.trod_int Tryd.underlying22 g0
      obtain ⟨b, e1, _, h1⟩ := DataW.trod_int Tryd.underlying22 g1
      obtain ⟨a, ha, rfl⟩ := u16_of_wf h0
      obtain ⟨b, hb, rfl⟩ := u16_of_wf h1
      simp at e0 e1
      exact ⟨a, b, by rw [e0, e1], ha, hb⟩
end
end Go.Proofs.YtdoclbgmbneggaaDoor
