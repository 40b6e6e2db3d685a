/-
  Runs and lengths that came in. Conditions: none.
-/
import Derived.Test.YtnobeghnljjidaaE
import Derived.Test.YtnobeghnljjidaaChecked
import Derived.OpenShut
import Derived.ChangeSame
import Derived.Deep.Slices
import Derived.Deep.Fields
namespace Go.Proofs.Ytnobeghnljjidaa
open Go.ChangeShapes Go.WideShapes Go.ChangeAt Go.Deep Go.RowKit

section
variable {H : Type} {enc : TypeId × Value → H} {w : World} {held : Bool}
theorem int_of_wf {x : Int} (h : (Lit.int .i64 x).wf = true) : -9223372036854775808 ≤ x ∧ x < 9223372036854775808 := by
  simp [Lit.wf, IntKind.min, IntKind.max, IntKind.signed, IntKind.bits] at h
  omega

/-- A slice of integers that came in is read as a row of them. -/
theorem ints_of {fuel : Nat} {A : Option Addr} {len cap : Nat} {x : DataW H × List MemPlace} (h : DataW.trod enc Try.prog w 0 (fun _ => true) held fuel 24 [.slice A len cap] = some x) :
    len ≤ 9223372036854775807 ∧ ∃ bs : List Int, bs.length = len ∧ (∀ y ∈ bs, -9223372036854775808 ≤ y ∧ y < 9223372036854775808) ∧ Seen w w.heap.size 1 A len cap (iv bs) := by
  rcases open_ints Try.underlying24 Try.underlying3 (by kernel_rfl) h with ⟨hcs, _⟩ | ⟨a, l, c, zs, hcs, _, hl, hm, hz, _, hcell, hwz⟩
  · simp at hcs
    obtain ⟨rfl, rfl, rfl⟩ := hcs
    exact ⟨by omega, [], rfl, by simp, rfl, Nat.le_refl _, .inl ⟨rfl, rfl⟩⟩
  · simp at hcs
    obtain ⟨rfl, rfl, rfl⟩ := hcs
    have hz' : zs.length = cap := by simpa using hz
    refine ⟨by unfold maxLen at hm; omega, zs.take len, by simp; omega, ?_, by simp; omega, hl, .inr ⟨a, rfl, fun hne => ?_⟩⟩
    · intro y hy
      exact int_of_wf (hwz y (List.mem_of_mem_take hy))
    · have hpos : 0 < cap := by
        rcases Nat.eq_zero_or_pos cap with h0 | h0
        · have hzs : zs = [] := List.eq_nil_of_length_eq_zero (by omega)
          subst hzs
          simp [iv] at hne
        · exact h0
      have h0 := hcell 0 (by omega)
      have hsp : a.spot = none := by simpa [Addr.add] using World.cell?_spot h0
      have hbl : a.block < w.heap.size := by
        have := World.block_lt_of_cell? w _ h0
        simpa [Addr.add] using this
      refine ⟨hsp, hbl, fun j u hu => ?_⟩
      obtain ⟨b, o, s⟩ := a
      simp only at hsp
      subst hsp
      have hj : j < zs.length := by
        have h1 := (List.getElem?_eq_some_iff.1 hu).1
        simp at h1
        omega
      have h2 := hcell j hj
      rw [Addr.add_lit] at h2
      simp only
      rw [h2]
      have hjl : j < len := by
        have h1 := (List.getElem?_eq_some_iff.1 hu).1
        simp at h1
        omega
      rw [iv_get? (by simp; omega)] at hu
      simp at hu
      rw [← hu]
      simp [List.getD, hj]

theorem cells26 : Try.prog.cellsOf 26 = 2 := by kernel_rfl
theorem cells3 : Try.prog.cellsOf 3 = 1 := by kernel_rfl

/-- A run as it comes in. -/
def WfR (t : Rn) : Prop := (-9223372036854775808 ≤ t.sign ∧ t.sign < 9223372036854775808) ∧ -9223372036854775808 ≤ t.more ∧ t.more < 9223372036854775808

theorem rn_cells {base : Nat} {spare : Nat → Bool} {fuel : Nat} {cs : List Value} {x : DataW H × List MemPlace} (h : DataW.trod enc Try.prog w base spare held fuel 26 cs = some x) :
    ∃ t : Rn, cs = rc t ∧ WfR t := by
  obtain ⟨xs, n, _, _, hlen, hxs, hf⟩ := DataW.trod_struct Try.underlying26 h
  rw [cells26] at hlen
  match cs, hlen with
  | [c1, c2], _ =>
    have g1 : DataW.trod enc Try.prog w base spare held n 3 ([c1, c2].take (Try.prog.cellsOf 3)) = xs[0]? := hf 0 _ rfl
    have g2 : DataW.trod enc Try.prog w base spare held n 3 ([c2].take (Try.prog.cellsOf 3)) = xs[1]? := hf 1 _ rfl
    have hl : xs.length = 2 := hxs
    match xs, hl with
    | [x1, x2], _ =>
      rw [cells3] at g1 g2
      obtain ⟨k, e1, _, hk⟩ := DataW.trod_int Try.underlying3 g1
      obtain ⟨b, e2, _, hb⟩ := DataW.trod_int Try.underlying3 g2
      refine ⟨⟨k, b⟩, ?_, int_of_wf hk, int_of_wf hb⟩
      simp at e1 e2
      rw [e1, e2]
      rfl

/-- A slice of runs that came in is read as a row of them. -/
theorem runs_of {fuel : Nat} {A : Option Addr} {len cap : Nat} {x : DataW H × List MemPlace} (h : DataW.trod enc Try.prog w 0 (fun _ => true) held fuel 22 [.slice A len cap] = some x) :
    len ≤ 9223372036854775807 ∧ ∃ l : List Rn, l.length = len ∧ (∀ r ∈ l, WfR r) ∧ Seen w w.heap.size 2 A len cap (rvs l) := by
  rcases open_slice Try.underlying22 h with ⟨hcs, _⟩ | ⟨a, len', cap', m, n, D, Pl, hcs, hb, hl, hm, hmm, hx, hi⟩
  · simp at hcs
    obtain ⟨rfl, rfl, rfl⟩ := hcs
    exact ⟨by omega, [], rfl, by simp, rfl, Nat.le_refl _, .inl ⟨rfl, rfl⟩⟩
  · simp at hcs
    obtain ⟨rfl, rfl, rfl⟩ := hcs
    have hmc : m = cap := by simpa using hmm
    subst hmc
    rw [cells26] at hi
    have key : ∀ i, i < len → ∃ t : Rn, WfR t ∧ a.spot = none ∧ a.block < w.heap.size ∧ w.cell? ⟨a.block, a.off + i * 2, none⟩ = some (.int .i64 t.sign) ∧ w.cell? ⟨a.block, a.off + i * 2 + 1, none⟩ = some (.int .i64 t.more) := by
      intro i hil
      obtain ⟨cs', hc, ht⟩ := hi i (by omega)
      obtain ⟨t, rfl, hwf⟩ := rn_cells ht
      obtain ⟨_, _, hat⟩ := World.cells?_some hc
      have h0 := hat 0 (by omega)
      have h1 := hat 1 (by omega)
      rw [Go.Deep.add_add] at h0 h1
      have hss : a.spot = none := by
        obtain ⟨cs0, hc0, _⟩ := hi 0 (by omega)
        obtain ⟨_, hlc, hat0⟩ := World.cells?_some hc0
        have h00 := hat0 0 (by omega)
        rw [List.getElem?_eq_getElem (by omega)] at h00
        simpa [Addr.add] using World.cell?_spot h00
      obtain ⟨bb, oo, ss⟩ := a
      simp only at hss
      subst hss
      rw [Addr.add_lit] at h0 h1
      refine ⟨t, hwf, rfl, World.block_lt_of_cell? w ⟨bb, oo + (i * 2 + 0), none⟩ (u := .int .i64 t.sign) (by simpa [rc] using h0), ?_, ?_⟩
      · simpa [rc] using h0
      · simpa [rc, Nat.add_assoc] using h1
    let l : List Rn := List.ofFn (n := len) fun i => (key i.val i.isLt).choose
    have hlen : l.length = len := by simp [l]
    refine ⟨by unfold maxLen at hm; omega, l, hlen, ?_, by rw [rvs_length, hlen], hl, .inr ⟨a, rfl, fun hne => ?_⟩⟩
    · intro r hr
      obtain ⟨i, rfl⟩ := List.mem_ofFn.1 hr
      exact (key i.val i.isLt).choose_spec.1
    have hpos : 0 < len := by
      rcases Nat.eq_zero_or_pos len with h0 | h0
      · exfalso
        apply hne
        have : l = [] := List.eq_nil_of_length_eq_zero (by omega)
        rw [this]; rfl
      · exact h0
    have k0 := (key 0 hpos).choose_spec
    refine ⟨k0.2.1, k0.2.2.1, fun j u hu => ?_⟩
    have hjl : j < l.length * 2 := by
      have := (List.getElem?_eq_some_iff.1 hu).1
      rw [rvs_length] at this
      exact this
    have hq : j / 2 < l.length := by omega
    have hr : j % 2 < 2 := by omega
    have e : j = j / 2 * 2 + j % 2 := by omega
    rw [e, rvs_get l (j / 2) (j % 2) hq hr] at hu
    have hsp := (key (j / 2) (by omega)).choose_spec
    have hle : l[j / 2] = (key (j / 2) (by omega)).choose := by simp [l]
    rw [hle] at hu
    obtain ⟨_, _, _, c0, c1⟩ := hsp
    have h3 : j % 2 = 0 ∨ j % 2 = 1 := by omega
    rw [e]
    rcases h3 with h3 | h3
    · rw [h3] at hu ⊢
      simp [rc] at hu
      rw [← hu]
      exact c0
    · rw [h3] at hu ⊢
      simp [rc] at hu
      rw [← hu, ← Nat.add_assoc]
      exact c1
end
end Go.Proofs.Ytnobeghnljjidaa
