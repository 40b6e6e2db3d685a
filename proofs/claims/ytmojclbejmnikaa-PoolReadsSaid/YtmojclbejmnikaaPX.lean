/-
  How a slice of bytes that came in is read. Conditions: none.
-/
import Derived.Test.YtmojclbejmnikaaC0
import Derived.Test.YtmojclbejmnikaaChecked
import Derived.OpenShut
import Derived.ChangeSame
namespace Go.Proofs.Ytmojclbejmnikaa
open Go.ChangeShapes Go.WideShapes Go.ChangeAt Go.RowKit
section
variable {H : Type} {enc : TypeId × Value → H} {w : World} {held : Bool}

theorem byte_of_wf {x : Int} (h : (Lit.int .u8 x).wf = true) : 0 ≤ x ∧ x < 256 := by
  simp [Lit.wf, IntKind.min, IntKind.max, IntKind.signed, IntKind.bits] at h
  omega

/-- A slice of bytes that came in is read as a row of bytes. -/
theorem bytes_of {fuel : Nat} {A : Option Addr} {len cap : Nat} {x : DataW H × List MemPlace} (h : DataW.trod enc Try.prog w 0 (fun _ => true) held fuel 22 [.slice A len cap] = some x) :
    cap ≤ 9223372036854775807 ∧ ∃ bs : List Nat, bs.length = len ∧ (∀ y ∈ bs, y < 256) ∧ Seen w w.heap.size 1 A len cap (bv bs) := by
  rcases open_ints Try.underlying22 Try.underlying5 (by kernel_rfl) h with ⟨hcs, _⟩ | ⟨a, l, c, zs, hcs, _, hl, hm, hz, _, hcell, hwz⟩
  · simp at hcs
    obtain ⟨rfl, rfl, rfl⟩ := hcs
    exact ⟨by omega, [], rfl, by simp, rfl, Nat.le_refl _, .inl ⟨rfl, rfl⟩⟩
  · simp at hcs
    obtain ⟨rfl, rfl, rfl⟩ := hcs
    have hz' : zs.length = cap := by simpa using hz
    refine ⟨by unfold maxLen at hm; omega, (zs.take len).map Int.toNat, by simp; omega, ?_, by simp; omega, hl, .inr ⟨a, rfl, fun hne => ?_⟩⟩
    · intro y hy
      obtain ⟨z, hz1, rfl⟩ := List.mem_map.1 hy
      have := byte_of_wf (hwz z (List.mem_of_mem_take hz1))
      omega
    · have hpos : 0 < cap := by
        rcases Nat.eq_zero_or_pos cap with h0 | h0
        · have hzs : zs = [] := List.eq_nil_of_length_eq_zero (by omega)
          subst hzs
          simp [bv] at hne
        · exact h0
      have h0 := hcell 0 (by omega)
      have hsp : a.spot = none := by simpa [Addr.add] using World.cell?_spot h0
      have hbl : a.block < w.heap.size := by
        have := World.block_lt_of_cell? w _ h0
        simpa [Addr.add] using this
      refine ⟨hsp, hbl, fun j u hu => ?_⟩
      obtain ⟨b, o, s⟩ := a
      simp only at hsp
      subst hsp
      have hj : j < zs.length := by
        have h1 := (List.getElem?_eq_some_iff.1 hu).1
        simp at h1
        omega
      have h2 := hcell j hj
      rw [Addr.add_lit] at h2
      simp only
      rw [h2]
      have hw := byte_of_wf (hwz zs[j] (List.getElem_mem hj))
      have hjl : j < len := by
        have h1 := (List.getElem?_eq_some_iff.1 hu).1
        simp at h1
        omega
      rw [bv_get _ _ (by simp; omega)] at hu
      simp at hu
      rw [← hu]
      simp [List.getD, hj]
      omega
end
end Go.Proofs.Ytmojclbejmnikaa
