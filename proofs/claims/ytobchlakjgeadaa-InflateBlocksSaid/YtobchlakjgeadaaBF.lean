/-
  Parts that came in. Conditions: none.
-/
import Derived.Test.YtobchlakjgeadaaO
import Derived.Test.YtobchlakjgeadaaBE
import Derived.Deep.Slices
import Derived.Deep.Fields
namespace Go.Proofs.Ytobchlakjgeadaa
open Go.ChangeShapes Go.WideShapes Go.ChangeAt Go.Deep Go.RowKit
set_option maxRecDepth 100000

/-- A part: its numbers, its rows, where they stand. -/
structure Pt where
  kd : Nat
  la : Bool
  Ar : Option Addr
  nr : Nat
  cr : Nat
  bs : List Nat
  As : Option Addr
  ns : Nat
  cs : Nat
  ss : List Int
  Am : Option Addr
  nm : Nat
  cm : Nat
  ms : List Nat
  sp : Int
  Al : Option Addr
  nl : Nat
  cl : Nat
  ls : List Int
  Af : Option Addr
  nf : Nat
  cf : Nat
  fs : List Int
def pcs (p : Pt) : List Value := [.int .u8 p.kd, .bool p.la, .slice p.Ar p.nr p.cr, .slice p.As p.ns p.cs, .slice p.Am p.nm p.cm, .int .i64 p.sp, .slice p.Al p.nl p.cl, .slice p.Af p.nf p.cf]
/-- Its rows are read as told. -/
structure PtIn (w : World) (B : Nat) (p : Pt) : Prop where
  kd : p.kd < 256
  bs : p.bs.length = p.nr ∧ (∀ x ∈ p.bs, x < 256) ∧ Seen w B 1 p.Ar p.nr p.cr (bx p.bs)
  ss : p.ss.length = p.ns ∧ Seen w B 1 p.As p.ns p.cs (iv p.ss)
  ms : p.ms.length = p.nm ∧ (∀ x ∈ p.ms, x < 4294967296) ∧ Seen w B 1 p.Am p.nm p.cm (uv p.ms)
  ls : p.ls.length = p.nl ∧ Seen w B 1 p.Al p.nl p.cl (iv p.ls)
  fs : p.fs.length = p.nf ∧ Seen w B 1 p.Af p.nf p.cf (iv p.fs)
theorem PtIn.below {w w' : World} {B : Nat} {p : Pt} (h : PtIn w B p) (hb : Below B w w') : PtIn w' B p :=
  ⟨h.kd, ⟨h.bs.1, h.bs.2.1, h.bs.2.2.below hb⟩, ⟨h.ss.1, h.ss.2.below hb⟩, ⟨h.ms.1, h.ms.2.1, h.ms.2.2.below hb⟩, ⟨h.ls.1, h.ls.2.below hb⟩, ⟨h.fs.1, h.fs.2.below hb⟩⟩
/-- A row of parts. -/
def PartsAt (w : World) (B : Nat) (A : Option Addr) (n : Nat) : Prop :=
  ∀ k, k < n → ∃ (b o : Nat) (p : Pt), A = some ⟨b, o, none⟩ ∧ b < B ∧ PtIn w B p ∧ ∀ j u, (pcs p)[j]? = some u → w.cell? ⟨b, o + k * 8 + j, none⟩ = some u
theorem PartsAt.below {w w' : World} {B : Nat} {A : Option Addr} {n : Nat} (h : PartsAt w B A n) (hb : Below B w w') : PartsAt w' B A n := fun k hk => by
  obtain ⟨b, o, p, h1, h2, h3, h4⟩ := h k hk
  exact ⟨b, o, p, h1, h2, h3.below hb, fun j u hu => (hb.cell (p := ⟨b, o + k * 8 + j, none⟩) h2).trans (h4 j u hu)⟩

section
variable {H : Type} {enc : TypeId × Value → H} {w : World} {held : Bool}
theorem word_of_wf {x : Int} (h : (Lit.int .u32 x).wf = true) : 0 ≤ x ∧ x < 4294967296 := by
  simp [Lit.wf, IntKind.min, IntKind.max, IntKind.signed, IntKind.bits] at h
  omega
theorem uv_get (a : List Nat) (i : Nat) (h : i < a.length) : (uv a)[i]? = some (.int .u32 (a[i] : Nat)) := by simp [uv, h]

/-- A slice of numbers of 32 bits that came in is read as a row of them. -/
theorem words_of {fuel : Nat} {A : Option Addr} {len cap : Nat} {x : DataW H × List MemPlace} (h : DataW.trod enc Try.prog w 0 (fun _ => true) held fuel 31 [.slice A len cap] = some x) :
    len ≤ 9223372036854775807 ∧ ∃ bs : List Nat, bs.length = len ∧ (∀ y ∈ bs, y < 4294967296) ∧ Seen w w.heap.size 1 A len cap (uv bs) := by
  rcases open_ints Try.underlying31 Try.underlying67 (by kernel_rfl) h with ⟨hcs, _⟩ | ⟨a, l, c, zs, hcs, _, hl, hm, hz, _, hcell, hwz⟩
  · simp at hcs
    obtain ⟨rfl, rfl, rfl⟩ := hcs
    exact ⟨by omega, [], rfl, by simp, rfl, Nat.le_refl _, .inl ⟨rfl, rfl⟩⟩
  · simp at hcs
    obtain ⟨rfl, rfl, rfl⟩ := hcs
    have hz' : zs.length = cap := by simpa using hz
    refine ⟨by unfold maxLen at hm; omega, (zs.take len).map Int.toNat, by simp; omega, ?_, by simp; omega, hl, .inr ⟨a, rfl, fun hne => ?_⟩⟩
    · intro y hy
      obtain ⟨z, hz1, rfl⟩ := List.mem_map.1 hy
      have := word_of_wf (hwz z (List.mem_of_mem_take hz1))
      omega
    · have hpos : 0 < cap := by
        rcases Nat.eq_zero_or_pos cap with h0 | h0
        · have hzs : zs = [] := List.eq_nil_of_length_eq_zero (by omega)
          subst hzs
          simp [uv] at hne
        · exact h0
      have h0 := hcell 0 (by omega)
      have hsp : a.spot = none := by simpa [Addr.add] using World.cell?_spot h0
      have hbl : a.block < w.heap.size := by
        have := World.block_lt_of_cell? w _ h0
        simpa [Addr.add] using this
      refine ⟨hsp, hbl, fun j u hu => ?_⟩
      obtain ⟨b, o, s⟩ := a
      simp only at hsp
      subst hsp
      have hj : j < zs.length := by
        have h1 := (List.getElem?_eq_some_iff.1 hu).1
        simp at h1
        omega
      have h2 := hcell j hj
      rw [Addr.add_lit] at h2
      simp only
      rw [h2]
      have hw := word_of_wf (hwz zs[j] (List.getElem_mem hj))
      have hjl : j < len := by
        have h1 := (List.getElem?_eq_some_iff.1 hu).1
        simp at h1
        omega
      rw [uv_get _ _ (by simp; omega)] at hu
      simp at hu
      rw [← hu]
      simp [List.getD, hj]
      omega

theorem bool_of {base : Nat} {spare : Nat → Bool} {fuel : Nat} {c : Value} {x : DataW H × List MemPlace} (h : DataW.trod enc Try.prog w base spare held fuel 4 [c] = some x) : ∃ b, c = .bool b := by
  obtain ⟨V, hc, _⟩ := DataW.trod_bool Try.underlying4 h
  exact ⟨V, by simpa using hc⟩
theorem slice_of {base : Nat} {spare : Nat → Bool} {fuel : Nat} {t e : TypeId} {c : Value} {x : DataW H × List MemPlace} (ht : Try.prog.underlying t = some (.slice e)) (h : DataW.trod enc Try.prog w base spare held fuel t [c] = some x) : ∃ A n k, c = .slice A n k := by
  rcases open_slice ht h with ⟨hcs, _⟩ | ⟨a, len', cap', m, n, D, Pl, hcs, hb, hl, hm, hmm, hx, hi⟩
  · exact ⟨_, _, _, by simpa using hcs⟩
  · exact ⟨_, _, _, by simpa using hcs⟩

theorem cells33 : Try.prog.cellsOf 33 = 8 := by kernel_rfl
theorem cellsA : Try.prog.cellsOf 5 = 1 ∧ Try.prog.cellsOf 4 = 1 ∧ Try.prog.cellsOf 22 = 1 ∧ Try.prog.cellsOf 30 = 1 ∧ Try.prog.cellsOf 31 = 1 ∧ Try.prog.cellsOf 3 = 1 := ⟨by kernel_rfl, by kernel_rfl, by kernel_rfl, by kernel_rfl, by kernel_rfl, by kernel_rfl⟩

theorem part_cells {fuel : Nat} {cs : List Value} {x : DataW H × List MemPlace} (h : DataW.trod enc Try.prog w 0 (fun _ => true) held fuel 33 cs = some x) :
    ∃ p : Pt, cs = pcs p ∧ PtIn w w.heap.size p := by
  obtain ⟨xs, n, _, _, hlen, hxs, hf⟩ := DataW.trod_struct Try.underlying33 h
  rw [cells33] at hlen
  obtain ⟨e5, e4, e22, e30, e31, e3⟩ := cellsA
  match cs, hlen with
  | [c0, c1, c2, c3, c4, c5, c6, c7], _ =>
    have hl : xs.length = 8 := hxs
    match xs, hl with
    | [x0, x1, x2, x3, x4, x5, x6, x7], _ =>
      have g0 : DataW.trod enc Try.prog w 0 (fun _ => true) held n 5 ([c0, c1, c2, c3, c4, c5, c6, c7].take (Try.prog.cellsOf 5)) = some x0 := hf 0 _ rfl
      have g1 : DataW.trod enc Try.prog w 0 (fun _ => true) held n 4 ([c1, c2, c3, c4, c5, c6, c7].take (Try.prog.cellsOf 4)) = some x1 := hf 1 _ rfl
      have g2 : DataW.trod enc Try.prog w 0 (fun _ => true) held n 22 ([c2, c3, c4, c5, c6, c7].take (Try.prog.cellsOf 22)) = some x2 := hf 2 _ rfl
      have g3 : DataW.trod enc Try.prog w 0 (fun _ => true) held n 30 ([c3, c4, c5, c6, c7].take (Try.prog.cellsOf 30)) = some x3 := hf 3 _ rfl
      have g4 : DataW.trod enc Try.prog w 0 (fun _ => true) held n 31 ([c4, c5, c6, c7].take (Try.prog.cellsOf 31)) = some x4 := hf 4 _ rfl
      have g5 : DataW.trod enc Try.prog w 0 (fun _ => true) held n 3 ([c5, c6, c7].take (Try.prog.cellsOf 3)) = some x5 := hf 5 _ rfl
      have g6 : DataW.trod enc Try.prog w 0 (fun _ => true) held n 30 ([c6, c7].take (Try.prog.cellsOf 30)) = some x6 := hf 6 _ rfl
      have g7 : DataW.trod enc Try.prog w 0 (fun _ => true) held n 30 ([c7].take (Try.prog.cellsOf 30)) = some x7 := hf 7 _ rfl
      rw [e5] at g0
      rw [e4] at g1
      rw [e22] at g2
      rw [e30] at g3 g6 g7
      rw [e31] at g4
      rw [e3] at g5
      simp only [List.take_succ_cons, List.take_zero] at g0 g1 g2 g3 g4 g5 g6 g7
      obtain ⟨v, q0, _, hv⟩ := DataW.trod_int Try.underlying5 g0
      obtain ⟨s, q5, _, _⟩ := DataW.trod_int Try.underlying3 g5
      obtain ⟨b, rfl⟩ := bool_of g1
      obtain ⟨A2, n2, k2, rfl⟩ := slice_of Try.underlying22 g2
      obtain ⟨A3, n3, k3, rfl⟩ := slice_of Try.underlying30 g3
      obtain ⟨A4, n4, k4, rfl⟩ := slice_of Try.underlying31 g4
      obtain ⟨A6, n6, k6, rfl⟩ := slice_of Try.underlying30 g6
      obtain ⟨A7, n7, k7, rfl⟩ := slice_of Try.underlying30 g7
      obtain ⟨_, l2, a2, b2, s2⟩ := bytes_of g2
      obtain ⟨_, l3, a3, b3, s3⟩ := ints_of g3
      obtain ⟨_, l4, a4, b4, s4⟩ := words_of g4
      obtain ⟨_, l6, a6, b6, s6⟩ := ints_of g6
      obtain ⟨_, l7, a7, b7, s7⟩ := ints_of g7
      have hv' := byte_of_wf hv
      obtain ⟨v, rfl⟩ := Int.eq_ofNat_of_zero_le hv'.1
      simp at q0 q5
      refine ⟨⟨v, b, A2, n2, k2, l2, A3, n3, k3, l3, A4, n4, k4, l4, s, A6, n6, k6, l6, A7, n7, k7, l7⟩, ?_, ⟨by simp only; omega, ⟨a2, b2, s2⟩, ⟨a3, s3⟩, ⟨a4, b4, s4⟩, ⟨a6, s6⟩, ⟨a7, s7⟩⟩⟩
      rw [q0, q5]
      rfl

/-- A slice of parts that came in is read as a row of them. -/
theorem parts_of {fuel : Nat} {A : Option Addr} {len cap : Nat} {x : DataW H × List MemPlace} (h : DataW.trod enc Try.prog w 0 (fun _ => true) held fuel 28 [.slice A len cap] = some x) :
    len ≤ 9223372036854775807 ∧ PartsAt w w.heap.size A len := by
  rcases open_slice Try.underlying28 h with ⟨hcs, _⟩ | ⟨a, len', cap', m, n, D, Pl, hcs, hb, hl, hm, hmm, hx, hi⟩
  · simp at hcs
    obtain ⟨rfl, rfl, rfl⟩ := hcs
    exact ⟨by omega, fun k hk => by omega⟩
  · simp at hcs
    obtain ⟨rfl, rfl, rfl⟩ := hcs
    have hmc : m = cap := by simpa using hmm
    subst hmc
    rw [cells33] at hi
    refine ⟨by unfold maxLen at hm; omega, fun i hil => ?_⟩
    obtain ⟨cs', hc, ht⟩ := hi i (by omega)
    obtain ⟨p, rfl, hp⟩ := part_cells ht
    obtain ⟨_, _, hat⟩ := World.cells?_some hc
    have hss : a.spot = none := by
      obtain ⟨cs0, hc0, _⟩ := hi 0 (by omega)
      obtain ⟨_, hlc, hat0⟩ := World.cells?_some hc0
      have h00 := hat0 0 (by omega)
      rw [List.getElem?_eq_getElem (by omega)] at h00
      simpa [Addr.add] using World.cell?_spot h00
    obtain ⟨bb, oo, s0⟩ := a
    simp only at hss
    subst hss
    have key : ∀ j u, (pcs p)[j]? = some u → w.cell? ⟨bb, oo + i * 8 + j, none⟩ = some u := by
      intro j u hu
      have hj := (List.getElem?_eq_some_iff.1 hu).1
      have h0 := hat j (by simpa [pcs] using hj)
      rw [Go.Deep.add_add, Addr.add_lit, hu] at h0
      rw [Nat.add_assoc]
      exact h0
    exact ⟨bb, oo, p, rfl, World.block_lt_of_cell? w ⟨bb, oo + i * 8 + 0, none⟩ (key 0 _ rfl), hp, key⟩
end
end Go.Proofs.Ytobchlakjgeadaa
