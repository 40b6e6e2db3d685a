/-
  Tokens that came in. Conditions: none.
  How a slice of bytes that came in is read. Conditions: none.
-/
import Derived.Test.YtkjhefjjacokjaaGreatTF
import Derived.Test.YtkjhefjjacokjaaGreatChecked
import Derived.OpenShut
import Derived.ChangeSame
import Derived.Deep.Slices
import Derived.Deep.Fields
namespace Go.Proofs.YtkjhefjjacokjaaGreat
open Go.ChangeShapes Go.WideShapes Go.ChangeAt Go.Deep Go.RowKit
set_option maxRecDepth 100000
section
variable {H : Type} {enc : TypeId × Value → H} {w : World} {held : Bool}
theorem byte_of_wf {x : Int} (h : (Lit.int .u8 x).wf = true) : 0 ≤ x ∧ x < 256 := by
  simp [Lit.wf, IntKind.min, IntKind.max, IntKind.signed, IntKind.bits] at h
  omega

theorem cells41 : Tryz.prog.cellsOf 42 = 3 := by kernel_rfl
theorem cells3 : Tryz.prog.cellsOf 3 = 1 := by kernel_rfl
theorem cells5 : Tryz.prog.cellsOf 5 = 1 := by kernel_rfl

theorem tok_cells {base : Nat} {spare : Nat → Bool} {fuel : Nat} {cs : List Value} {x : DataW H × List MemPlace} (h : DataW.trod enc Tryz.prog w base spare held fuel 42 cs = some x) :
    ∃ t : Tok, cs = tc t ∧ t.lit < 256 := by
  obtain ⟨xs, n, _, _, hlen, hxs, hf⟩ := DataW.trod_struct Tryz.underlying42 h
  rw [cells41] at hlen
  match cs, hlen with
  | [c0, c1, c2], _ =>
    have g0 : DataW.trod enc Tryz.prog w base spare held n 5 ([c0, c1, c2].take (Tryz.prog.cellsOf 5)) = xs[0]? := hf 0 _ rfl
    have g1 : DataW.trod enc Tryz.prog w base spare held n 3 ([c1, c2].take (Tryz.prog.cellsOf 3)) = xs[1]? := hf 1 _ rfl
    have g2 : DataW.trod enc Tryz.prog w base spare held n 3 ([c2].take (Tryz.prog.cellsOf 3)) = xs[2]? := hf 2 _ rfl
    have hl : xs.length = 3 := hxs
    match xs, hl with
    | [x0, x1, x2], _ =>
      rw [cells5] at g0
      rw [cells3] at g1 g2
      obtain ⟨v, e0, _, hv⟩ := DataW.trod_int Tryz.underlying5 g0
      obtain ⟨k, e1, _, _⟩ := DataW.trod_int Tryz.underlying3 g1
      obtain ⟨b, e2, _, _⟩ := DataW.trod_int Tryz.underlying3 g2
      have hv' := byte_of_wf hv
      obtain ⟨v, rfl⟩ := Int.eq_ofNat_of_zero_le hv'.1
      refine ⟨⟨v, k, b⟩, ?_, by simp only; omega⟩
      simp at e0 e1 e2
      rw [e0, e1, e2]
      rfl

/-- A slice of tokens that came in is read as a row of them. -/
theorem toks_of {fuel : Nat} {A : Option Addr} {len cap : Nat} {x : DataW H × List MemPlace} (h : DataW.trod enc Tryz.prog w 0 (fun _ => true) held fuel 22 [.slice A len cap] = some x) :
    len ≤ 9223372036854775807 ∧ ∃ l : List Tok, l.length = len ∧ Seen w w.heap.size 3 A len cap (tvs l) ∧ ∀ t ∈ l, t.lit < 256 := by
  rcases open_slice Tryz.underlying22 h with ⟨hcs, _⟩ | ⟨a, len', cap', m, n, D, Pl, hcs, hb, hl, hm, hmm, hx, hi⟩
  · simp at hcs
    obtain ⟨rfl, rfl, rfl⟩ := hcs
    exact ⟨by omega, [], rfl, ⟨rfl, Nat.le_refl _, .inl ⟨rfl, rfl⟩⟩, fun _ h => by cases h⟩
  · simp at hcs
    obtain ⟨rfl, rfl, rfl⟩ := hcs
    have hmc : m = cap := by simpa using hmm
    subst hmc
    rw [cells41] at hi
    have key : ∀ i, i < len → ∃ t : Tok, a.spot = none ∧ a.block < w.heap.size ∧ w.cell? ⟨a.block, a.off + i * 3, none⟩ = some (.int .u8 t.lit) ∧ w.cell? ⟨a.block, a.off + i * 3 + 1, none⟩ = some (.int .i64 t.len) ∧ w.cell? ⟨a.block, a.off + i * 3 + 2, none⟩ = some (.int .i64 t.dist) ∧ t.lit < 256 := by
      intro i hil
      obtain ⟨cs', hc, ht⟩ := hi i (by omega)
      obtain ⟨t, rfl, ht256⟩ := tok_cells ht
      obtain ⟨_, _, hat⟩ := World.cells?_some hc
      have h0 := hat 0 (by omega)
      have h1 := hat 1 (by omega)
      have h2 := hat 2 (by omega)
      rw [Go.Deep.add_add] at h0 h1 h2
      have hss : a.spot = none := by
        obtain ⟨cs0, hc0, _⟩ := hi 0 (by omega)
        obtain ⟨_, hlc, hat0⟩ := World.cells?_some hc0
        have h00 := hat0 0 (by omega)
        rw [List.getElem?_eq_getElem (by omega)] at h00
        simpa [Addr.add] using World.cell?_spot h00
      obtain ⟨bb, oo, ss⟩ := a
      simp only at hss
      subst hss
      rw [Addr.add_lit] at h0 h1 h2
      refine ⟨t, rfl, World.block_lt_of_cell? w ⟨bb, oo + (i * 3 + 0), none⟩ (u := .int .u8 t.lit) (by simpa [tc] using h0), ?_, ?_, ?_, ?_⟩
      · simpa [tc] using h0
      · simpa [tc, Nat.add_assoc] using h1
      · simpa [tc, Nat.add_assoc] using h2
      · exact ht256
    let l : List Tok := List.ofFn (n := len) fun i => (key i.val i.isLt).choose
    have hlen : l.length = len := by simp [l]
    refine ⟨by unfold maxLen at hm; omega, l, hlen, ⟨by rw [tvs_length, hlen], hl, .inr ⟨a, rfl, fun hne => ?_⟩⟩, fun t ht => ?_⟩
    rotate_left
    · obtain ⟨i, hi, rfl⟩ := List.getElem_of_mem ht
      have := (key i (by omega)).choose_spec
      have hle : l[i] = (key i (by omega)).choose := by simp [l]
      rw [hle]
      exact this.2.2.2.2.2
    have hpos : 0 < len := by
      rcases Nat.eq_zero_or_pos len with h0 | h0
      · exfalso
        apply hne
        have : l = [] := List.eq_nil_of_length_eq_zero (by omega)
        rw [this]; rfl
      · exact h0
    have k0 := (key 0 hpos).choose_spec
    refine ⟨k0.1, k0.2.1, fun j u hu => ?_⟩
    have hjl : j < l.length * 3 := by
      have := (List.getElem?_eq_some_iff.1 hu).1
      rw [tvs_length] at this
      exact this
    have hq : j / 3 < l.length := by omega
    have hr : j % 3 < 3 := by omega
    have e : j = j / 3 * 3 + j % 3 := by omega
    rw [e, tvs_get l (j / 3) (j % 3) hq hr] at hu
    have hsp := (key (j / 3) (by omega)).choose_spec
    have hle : l[j / 3] = (key (j / 3) (by omega)).choose := by simp [l]
    rw [hle] at hu
    obtain ⟨_, _, c0, c1, c2, _⟩ := hsp
    have h3 : j % 3 = 0 ∨ j % 3 = 1 ∨ j % 3 = 2 := by omega
    rw [e]
    rcases h3 with h3 | h3 | h3
    · rw [h3] at hu ⊢
      simp [tc] at hu
      rw [← hu]
      exact c0
    · rw [h3] at hu ⊢
      simp [tc] at hu
      rw [← hu, ← Nat.add_assoc]
      exact c1
    · rw [h3] at hu ⊢
      simp [tc] at hu
      rw [← hu, ← Nat.add_assoc]
      exact c2
end

end Go.Proofs.YtkjhefjjacokjaaGreat

namespace Go.Proofs.YtkjhefjjacokjaaGreat
open Go.ChangeShapes Go.WideShapes Go.ChangeAt Go.RowKit
section
variable {H : Type} {enc : TypeId × Value → H} {w : World} {held : Bool}

theorem bv_get (a : List Nat) (i : Nat) (h : i < a.length) : (bx a)[i]? = some (.int .u8 (a[i] : Nat)) := by simp [h]
/-- A slice of bytes that came in is read as a row of bytes. -/
theorem bytes_of {fuel : Nat} {A : Option Addr} {len cap : Nat} {x : DataW H × List MemPlace} (h : DataW.trod enc Tryz.prog w 0 (fun _ => true) held fuel 23 [.slice A len cap] = some x) :
    cap ≤ 9223372036854775807 ∧ ∃ bs : List Nat, bs.length = len ∧ (∀ y ∈ bs, y < 256) ∧ Seen w w.heap.size 1 A len cap (bx bs) := by
  rcases open_ints Tryz.underlying23 Tryz.underlying5 (by kernel_rfl) h with ⟨hcs, _⟩ | ⟨a, l, c, zs, hcs, _, hl, hm, hz, _, hcell, hwz⟩
  · simp at hcs
    obtain ⟨rfl, rfl, rfl⟩ := hcs
    exact ⟨by omega, [], rfl, by simp, rfl, Nat.le_refl _, .inl ⟨rfl, rfl⟩⟩
  · simp at hcs
    obtain ⟨rfl, rfl, rfl⟩ := hcs
    have hz' : zs.length = cap := by simpa using hz
    refine ⟨by unfold maxLen at hm; omega, (zs.take len).map Int.toNat, by simp; omega, ?_, by simp; omega, hl, .inr ⟨a, rfl, fun hne => ?_⟩⟩
    · intro y hy
      obtain ⟨z, hz1, rfl⟩ := List.mem_map.1 hy
      have := byte_of_wf (hwz z (List.mem_of_mem_take hz1))
      omega
    · have hpos : 0 < cap := by
        rcases Nat.eq_zero_or_pos cap with h0 | h0
        · have hzs : zs = [] := List.eq_nil_of_length_eq_zero (by omega)
          subst hzs
          simp [bx] at hne
        · exact h0
      have h0 := hcell 0 (by omega)
      have hsp : a.spot = none := by simpa [Addr.add] using World.cell?_spot h0
      have hbl : a.block < w.heap.size := by
        have := World.block_lt_of_cell? w _ h0
        simpa [Addr.add] using this
      refine ⟨hsp, hbl, fun j u hu => ?_⟩
      obtain ⟨b, o, s⟩ := a
      simp only at hsp
      subst hsp
      have hj : j < zs.length := by
        have h1 := (List.getElem?_eq_some_iff.1 hu).1
        simp at h1
        omega
      have h2 := hcell j hj
      rw [Addr.add_lit] at h2
      simp only
      rw [h2]
      have hw := byte_of_wf (hwz zs[j] (List.getElem_mem hj))
      have hjl : j < len := by
        have h1 := (List.getElem?_eq_some_iff.1 hu).1
        simp at h1
        omega
      rw [bv_get _ _ (by simp; omega)] at hu
      simp at hu
      rw [← hu]
      simp [List.getD, hj]
      omega
end

end Go.Proofs.YtkjhefjjacokjaaGreat
