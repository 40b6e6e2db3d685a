/-
  How a row of bytes that came in is read. Conditions: none.
-/
import Derived.Test.YteadhiehhpafjaaDoorNV
namespace Go.Proofs.YteadhiehhpafjaaDoor
open Go Go.ChangeShapes Go.WideShapes Go.Deep Go.ChangeAt Go.RowKit
theorem cellsA5 : Tryd.prog.cellsOf 5 = 1 := by kernel_rfl
section
variable {H : Type} {enc : TypeId × Value → H} {w : World} {held : Bool}
theorem byte_lit {v : Int} (h : (Lit.int .u8 v).wf = true) : ∃ b : UInt8, v = (b.toNat : Int) := by
  have h2 : 0 ≤ v ∧ v < 256 := by
    simp [Lit.wf] at h
    have e1 : IntKind.u8.min = 0 := rfl
    have e2 : IntKind.u8.max = 255 := rfl
    omega
  refine ⟨UInt8.ofNat v.toNat, ?_⟩
  rw [UInt8.toNat_ofNat', Nat.mod_eq_of_lt (by omega)]
  omega
theorem bytes_of {fuel : Nat} {A : Option Addr} {len cap : Nat} {x : DataW H × List MemPlace} (h : DataW.trod enc Tryd.prog w 0 (fun _ => true) held fuel 22 [.slice A len cap] = some x) :
    len ≤ 9223372036854775807 ∧ ∃ l : List UInt8, l.length = len ∧ Seen w w.heap.size 1 A len cap (Lib.byteCells l) := by
  rcases open_slice1 Tryd.underlying22 cellsA5 h with ⟨hcs, _⟩ | ⟨a, len', cap', m, n, V, D, Pl, hcs, hb, hl, hm, hmm, hx, hi⟩
  · simp at hcs
    obtain ⟨rfl, rfl, rfl⟩ := hcs
    exact ⟨by omega, [], rfl, rfl, Nat.le_refl _, .inl ⟨rfl, rfl⟩⟩
  · simp at hcs
    obtain ⟨rfl, rfl, rfl⟩ := hcs
    have hmc : m = cap := by simpa using hmm
    subst hmc
    have key : ∀ i, i < len → ∃ b : UInt8, a.spot = none ∧ a.block < w.heap.size ∧ w.cell? ⟨a.block, a.off + i, none⟩ = some (.int .u8 b.toNat) := by
      intro i hil
      obtain ⟨h1, h2⟩ := hi i (by omega)
      obtain ⟨v, e, _, hv⟩ := DataW.trod_int Tryd.underlying5 h2
      obtain ⟨b, rfl⟩ := byte_lit hv
      have e' : V i = .int .u8 b.toNat := by simpa using e
      have hss : a.spot = none := by
        have h00 := (hi 0 (by omega)).1
        simpa [Addr.add] using World.cell?_spot h00
      obtain ⟨bb, oo, ss⟩ := a
      simp only at hss
      subst hss
      rw [Addr.add_lit, e'] at h1
      exact ⟨b, rfl, World.block_lt_of_cell? w ⟨bb, oo + i, none⟩ h1, h1⟩
    let g : Nat → UInt8 := fun i => if h : i < len then (key i h).choose else 0
    have gk : ∀ i, i < len → a.spot = none ∧ a.block < w.heap.size ∧ w.cell? ⟨a.block, a.off + i, none⟩ = some (.int .u8 (g i).toNat) := by
      intro i hil
      have e : g i = (key i hil).choose := dif_pos hil
      rw [e]
      exact (key i hil).choose_spec
    refine ⟨by unfold maxLen at hm; omega, (List.range len).map g, by simp, by rw [Lib.byteCells_length]; simp, hl, .inr ⟨a, rfl, ?_⟩⟩
    intro hne
    have hlen : 0 < len := by
      rcases Nat.eq_zero_or_pos len with e | e
      · subst e; exact absurd rfl hne
      · exact e
    refine ⟨(gk 0 hlen).1, (gk 0 hlen).2.1, fun j u hu => ?_⟩
    have hj : j < len := by
      have := (List.getElem?_eq_some_iff.1 hu).1
      rw [Lib.byteCells_length] at this; simpa using this
    rw [(gk j hj).2.2, ← hu]
    simp [Lib.byteCells, hj]
end
end Go.Proofs.YteadhiehhpafjaaDoor
