/-
  BlocksLeast is proved: for every l and bits the call answers true, and nothing that was there has changed. Conditions: none.
  Ahead of it, what its walk stands on:
  Tokens that came in. Conditions: none.
  Plain mathematics of bits: filling up, and what puts write. Conditions: none. Nothing of the program stands here.
  The contract of a writer's Align. Conditions: at most a million bits.
  The contract of Stored. Conditions: the bytes stay readable while bits are written.
  What is no token is refused: Fixed, Dynamic, Write, FixedBits, DynamicBits; nil writers. Conditions: each theorem names its own.
  The contract of Write, of tokens: the shortest of three blocks. Conditions: tokens are right, at most a thousand; bytes stay readable while bits are written.
  Mathematics of the statement's own list of tokens: what is no token, or reaches too far back, becomes a byte. Conditions: each theorem names its own. Nothing of the program stands here.
  The contract of the statement's own list of tokens: which of them may stand, and what they stand for. Conditions: the slice of tokens is read as told (Seen), their bytes are bytes, there are at most 300 of them.
  Contracts of Fixed and Dynamic, of tokens; a writer beside rows of tokens and bytes. Conditions: tokens are right, at most a thousand.
  The walk of BlocksRefuse: whatever the tokens, the token and the number, the law answers true, and nothing that was there has changed. Conditions: the slice of tokens is read as told (Seen), bytes are bytes.
  The walk of BlocksLeast: the block that is written is the shortest of the three. Conditions: the slice of tokens is read as told (Seen), bytes are bytes.
-/
import Derived.Test.YtnnpiblnjflceaaTE
import Derived.Test.YtnnpiblnjflceaaChecked
import Derived.OpenShut
import Derived.ChangeSame
import Derived.Deep.Slices
import Derived.Deep.Fields
import Derived.Test.YtnnpiblnjflceaaN
import Derived.Test.YtnnpiblnjflceaaG2
import Derived.Test.YtnnpiblnjflceaaCT
import Derived.Test.YtnnpiblnjflceaaG6
import Derived.Test.YtnnpiblnjflceaaDM
import Derived.Deep.DeepCutAuto
import Derived.Test.YtnnpiblnjflceaaTA
import Derived.Test.YtnnpiblnjflceaaTF
import Derived.Test.YtnnpiblnjflceaaPT
import Derived.Great.BuildSlice
import Derived.Test.YtnnpiblnjflceaaG7
import Derived.Test.YtnnpiblnjflceaaRows
import Derived.WalkKit
import Derived.ProofKit
import Derived.ShutString
import Derived.ChangeOld
import Derived.Below
namespace Go.Proofs.Ytnnpiblnjflceaa
open Go.ChangeShapes Go.WideShapes Go.ChangeAt Go.Deep Go.RowKit
set_option maxRecDepth 100000

section
variable {H : Type} {enc : TypeId × Value → H} {w : World} {held : Bool}
theorem byte_of_wf {x : Int} (h : (Lit.int .u8 x).wf = true) : 0 ≤ x ∧ x < 256 := by
  simp [Lit.wf, IntKind.min, IntKind.max, IntKind.signed, IntKind.bits] at h
  omega

theorem cells41 : Try.prog.cellsOf 41 = 3 := by kernel_rfl
theorem cells3 : Try.prog.cellsOf 3 = 1 := by kernel_rfl
theorem cells5 : Try.prog.cellsOf 5 = 1 := by kernel_rfl

theorem tok_cells {base : Nat} {spare : Nat → Bool} {fuel : Nat} {cs : List Value} {x : DataW H × List MemPlace} (h : DataW.trod enc Try.prog w base spare held fuel 41 cs = some x) :
    ∃ t : Tok, cs = tc t ∧ t.lit < 256 := by
  obtain ⟨xs, n, _, _, hlen, hxs, hf⟩ := DataW.trod_struct Try.underlying41 h
  rw [cells41] at hlen
  match cs, hlen with
  | [c0, c1, c2], _ =>
    have g0 : DataW.trod enc Try.prog w base spare held n 5 ([c0, c1, c2].take (Try.prog.cellsOf 5)) = xs[0]? := hf 0 _ rfl
    have g1 : DataW.trod enc Try.prog w base spare held n 3 ([c1, c2].take (Try.prog.cellsOf 3)) = xs[1]? := hf 1 _ rfl
    have g2 : DataW.trod enc Try.prog w base spare held n 3 ([c2].take (Try.prog.cellsOf 3)) = xs[2]? := hf 2 _ rfl
    have hl : xs.length = 3 := hxs
    match xs, hl with
    | [x0, x1, x2], _ =>
      rw [cells5] at g0
      rw [cells3] at g1 g2
      obtain ⟨v, e0, _, hv⟩ := DataW.trod_int Try.underlying5 g0
      obtain ⟨k, e1, _, _⟩ := DataW.trod_int Try.underlying3 g1
      obtain ⟨b, e2, _, _⟩ := DataW.trod_int Try.underlying3 g2
      have hv' := byte_of_wf hv
      obtain ⟨v, rfl⟩ := Int.eq_ofNat_of_zero_le hv'.1
      refine ⟨⟨v, k, b⟩, ?_, by simp only; omega⟩
      simp at e0 e1 e2
      rw [e0, e1, e2]
      rfl

/-- A slice of tokens that came in is read as a row of them. -/
theorem toks_of {fuel : Nat} {A : Option Addr} {len cap : Nat} {x : DataW H × List MemPlace} (h : DataW.trod enc Try.prog w 0 (fun _ => true) held fuel 26 [.slice A len cap] = some x) :
    len ≤ 9223372036854775807 ∧ ∃ l : List Tok, l.length = len ∧ Seen w w.heap.size 3 A len cap (tvs l) ∧ ∀ t ∈ l, t.lit < 256 := by
  rcases open_slice Try.underlying26 h with ⟨hcs, _⟩ | ⟨a, len', cap', m, n, D, Pl, hcs, hb, hl, hm, hmm, hx, hi⟩
  · simp at hcs
    obtain ⟨rfl, rfl, rfl⟩ := hcs
    exact ⟨by omega, [], rfl, ⟨rfl, Nat.le_refl _, .inl ⟨rfl, rfl⟩⟩, fun _ h => by cases h⟩
  · simp at hcs
    obtain ⟨rfl, rfl, rfl⟩ := hcs
    have hmc : m = cap := by simpa using hmm
    subst hmc
    rw [cells41] at hi
    have key : ∀ i, i < len → ∃ t : Tok, a.spot = none ∧ a.block < w.heap.size ∧ w.cell? ⟨a.block, a.off + i * 3, none⟩ = some (.int .u8 t.lit) ∧ w.cell? ⟨a.block, a.off + i * 3 + 1, none⟩ = some (.int .i64 t.len) ∧ w.cell? ⟨a.block, a.off + i * 3 + 2, none⟩ = some (.int .i64 t.dist) ∧ t.lit < 256 := by
      intro i hil
      obtain ⟨cs', hc, ht⟩ := hi i (by omega)
      obtain ⟨t, rfl, ht256⟩ := tok_cells ht
      obtain ⟨_, _, hat⟩ := World.cells?_some hc
      have h0 := hat 0 (by omega)
      have h1 := hat 1 (by omega)
      have h2 := hat 2 (by omega)
      rw [Go.Deep.add_add] at h0 h1 h2
      have hss : a.spot = none := by
        obtain ⟨cs0, hc0, _⟩ := hi 0 (by omega)
        obtain ⟨_, hlc, hat0⟩ := World.cells?_some hc0
        have h00 := hat0 0 (by omega)
        rw [List.getElem?_eq_getElem (by omega)] at h00
        simpa [Addr.add] using World.cell?_spot h00
      obtain ⟨bb, oo, ss⟩ := a
      simp only at hss
      subst hss
      rw [Addr.add_lit] at h0 h1 h2
      refine ⟨t, rfl, World.block_lt_of_cell? w ⟨bb, oo + (i * 3 + 0), none⟩ (u := .int .u8 t.lit) (by simpa [tc] using h0), ?_, ?_, ?_, ?_⟩
      · simpa [tc] using h0
      · simpa [tc, Nat.add_assoc] using h1
      · simpa [tc, Nat.add_assoc] using h2
      · exact ht256
    let l : List Tok := List.ofFn (n := len) fun i => (key i.val i.isLt).choose
    have hlen : l.length = len := by simp [l]
    refine ⟨by unfold maxLen at hm; omega, l, hlen, ⟨by rw [tvs_length, hlen], hl, .inr ⟨a, rfl, fun hne => ?_⟩⟩, fun t ht => ?_⟩
    rotate_left
    · obtain ⟨i, hi, rfl⟩ := List.getElem_of_mem ht
      have := (key i (by omega)).choose_spec
      have hle : l[i] = (key i (by omega)).choose := by simp [l]
      rw [hle]
      exact this.2.2.2.2.2
    have hpos : 0 < len := by
      rcases Nat.eq_zero_or_pos len with h0 | h0
      · exfalso
        apply hne
        have : l = [] := List.eq_nil_of_length_eq_zero (by omega)
        rw [this]; rfl
      · exact h0
    have k0 := (key 0 hpos).choose_spec
    refine ⟨k0.1, k0.2.1, fun j u hu => ?_⟩
    have hjl : j < l.length * 3 := by
      have := (List.getElem?_eq_some_iff.1 hu).1
      rw [tvs_length] at this
      exact this
    have hq : j / 3 < l.length := by omega
    have hr : j % 3 < 3 := by omega
    have e : j = j / 3 * 3 + j % 3 := by omega
    rw [e, tvs_get l (j / 3) (j % 3) hq hr] at hu
    have hsp := (key (j / 3) (by omega)).choose_spec
    have hle : l[j / 3] = (key (j / 3) (by omega)).choose := by simp [l]
    rw [hle] at hu
    obtain ⟨_, _, c0, c1, c2, _⟩ := hsp
    have h3 : j % 3 = 0 ∨ j % 3 = 1 ∨ j % 3 = 2 := by omega
    rw [e]
    rcases h3 with h3 | h3 | h3
    · rw [h3] at hu ⊢
      simp [tc] at hu
      rw [← hu]
      exact c0
    · rw [h3] at hu ⊢
      simp [tc] at hu
      rw [← hu, ← Nat.add_assoc]
      exact c1
    · rw [h3] at hu ⊢
      simp [tc] at hu
      rw [← hu, ← Nat.add_assoc]
      exact c2
end

end Go.Proofs.Ytnnpiblnjflceaa

namespace Go.Proofs.Ytnnpiblnjflceaa
/-- Filled up to a whole byte. -/
def padTo (l : List Bool) : List Bool := l ++ List.replicate ((8 - l.length % 8) % 8) false

theorem num_zeros (n : Nat) : num (List.replicate n false) = 0 := by
  induction n with
  | zero => rfl
  | succ n ih => simp [List.replicate_succ, num, ih]

theorem pack_pad (l : List Bool) : pack (padTo l) = pack l := by
  unfold padTo
  by_cases h : l.length % 8 = 0
  · simp [h]
  · rw [pack_more l _ (by simp; omega) (by simp; omega), num_zeros, Nat.mul_zero, Nat.add_zero]
    have := pack_full l
    rw [if_neg h] at this
    exact this

theorem padTo_length (l : List Bool) : (padTo l).length = 8 * ((l.length + 7) / 8) := by
  simp [padTo]; omega

theorem pad_step (l : List Bool) (j : Nat) (h : (l ++ List.replicate j false).length % 8 ≠ 0) (hj : j ≤ (8 - l.length % 8) % 8) : j + 1 ≤ (8 - l.length % 8) % 8 := by
  simp at h; omega
theorem pad_end (l : List Bool) (j : Nat) (h : (l ++ List.replicate j false).length % 8 = 0) (hj : j ≤ (8 - l.length % 8) % 8) : l ++ List.replicate j false = padTo l := by
  simp at h
  unfold padTo
  rw [show j = (8 - l.length % 8) % 8 by omega]

/-- What the first k puts write, aligned where asked. -/
def wroteA (V : Nat → Nat) (K : Nat → Int) (Al : Nat → Bool) : Nat → List Bool
  | 0 => []
  | k + 1 => (if Al k then padTo (wroteA V K Al k) else wroteA V K Al k) ++ (if 0 ≤ K k ∧ K k ≤ 32 then bitsOf (V k) (K k).toNat else [])

theorem padTo_le (l : List Bool) : (padTo l).length ≤ l.length + 7 := by
  simp [padTo]; omega

theorem wroteA_length (V : Nat → Nat) (K : Nat → Int) (Al : Nat → Bool) (k : Nat) : (wroteA V K Al k).length ≤ 39 * k := by
  induction k with
  | zero => simp [wroteA]
  | succ k ih =>
    have h1 := padTo_le (wroteA V K Al k)
    have h2 : (if Al k then padTo (wroteA V K Al k) else wroteA V K Al k).length ≤ 39 * k + 7 := by split <;> omega
    have h3 : (if 0 ≤ K k ∧ K k ≤ 32 then bitsOf (V k) (K k).toNat else []).length ≤ 32 := by split <;> simp <;> omega
    simp only [wroteA, List.length_append]
    omega
end Go.Proofs.Ytnnpiblnjflceaa

namespace Go.Proofs.Ytnnpiblnjflceaa
open Go.RowKit
set_option maxRecDepth 100000

theorem writerAlign_any (B g : Nat) (sv : Value) (l : List Bool) (w : World) (hw : WriterAt w B g sv l) (hl : l.length ≤ 1000000) :
    Calls Try.prog 32 #[.pointer (some ⟨g, 0, none⟩)] w fun e w' => e = .returned (.tuple #[]) ∧ WriterAt w' B g sv (padTo l) ∧ Only (fun k => k = g) w w' := by
  obtain ⟨hBg, hWh, hown⟩ := hw
  have hne := own_ne_whole hown hWh (by decide)
  have HN := Lib.hid hne; clear hne
  obtain ⟨A, c, rfl, hcm⟩ := own_form hown
  have c0 : w.cell? ⟨g, 0, none⟩ = some (.slice A ((l.length + 7) / 8) c) := by simpa using hWh.cell 0
  have c1 : w.cell? ⟨g, 1, none⟩ = some (.int .i64 l.length) := by simpa using hWh.cell 1
  have f1 := hWh.frozen 1
  obtain ⟨q, hq⟩ : ∃ q, (l.length + 7) / 8 = q := ⟨_, rfl⟩
  rw [hq] at c0 hWh hown HN
  have hq2 : q ≤ 1000000 := by omega
  have HQ := Lib.hid hq; clear hq
  go_enter Try.func32, Try.ntmps32
  go_wp2
  go_end0
  have hO := (Only.refl (fun k => k = g) w).setCell (p := ⟨g, 1, none⟩) (.inl rfl) (.int .i64 (8 * (q : Int)))
  have h8 : (padTo l).length = 8 * q := by rw [padTo_length, HQ.out]
  rw [HQ.out]
  refine ⟨rfl, ⟨hBg, ?_, ?_⟩, hO⟩
  · rw [h8]
    simpa using hWh.put 1 (.int .i64 (8 * (q : Int)))
  · rw [h8, show (8 * q + 7) / 8 = q by omega, pack_pad]
    exact own_only hown hO (fun k hk => HN.out k hk)


end Go.Proofs.Ytnnpiblnjflceaa

namespace Go.Proofs.Ytnnpiblnjflceaa
open Go.RowKit
set_option maxRecDepth 100000

theorem headB_length' (k : Nat) (b : Bool) : (headB k b).length = 3 := by simp [headB]

theorem xor_ones (n : Nat) (h : n < 4294967296) : 4294967295 ^^^ n = 4294967295 - n := by
  have e : BitVec.ofNat 32 n ^^^ BitVec.allOnes 32 = ~~~ (BitVec.ofNat 32 n) := BitVec.xor_allOnes
  have := congrArg BitVec.toNat e
  rw [BitVec.toNat_not, BitVec.toNat_xor, BitVec.toNat_allOnes, BitVec.toNat_ofNat, Nat.mod_eq_of_lt (by omega)] at this
  rw [Nat.xor_comm]
  simpa using this
theorem max_xor (n : Nat) (h : n < 4294967296) : bits BinOp.xor IntKind.u32 IntKind.u32.max (n : Int) = ((4294967295 - n : Nat) : Int) := by
  rw [show IntKind.u32.max = ((4294967295 : Nat) : Int) from rfl, u32_xor_nat _ _ (by omega) h, xor_ones n h]

/-- Bytes that stay readable while a writer writes. -/
def BytesIn (w : World) (g : Nat) (sv : Value) (A : Option Addr) (n c : Nat) (bs : List Nat) : Prop := ∀ W, Only (Foot g sv) w W → ∃ B, Seen W B 1 A n c (bx bs)
/-- What a stored block is ahead of its bytes. -/
def storedH (l : List Bool) (n : Nat) (last : Bool) : List Bool := padTo (l ++ headB 0 last) ++ bitsOf n 16 ++ bitsOf (4294967295 - n) 16

theorem stored_long (g : Nat) (A : Option Addr) (n c : Nat) (hn : 65535 < n) (last : Bool) (w : World) : Calls Try.prog 14 #[.pointer (some ⟨g, 0, none⟩), .slice A n c, .bool last] w fun e w' => e = .returned (.int .i64 3) ∧ w = w' := by
  have d : decide ((65535 : Int) < n) = true := decide_eq_true (by omega)
  go_enter Try.func14, Try.ntmps14
  go_wp2_with fail
  go_ret
  exact ⟨rfl, rfl⟩

set_option maxHeartbeats 2000000 in
theorem stored_any (B g : Nat) (sv : Value) (l : List Bool) (hl : l.length ≤ 400000) (A : Option Addr) (n c : Nat) (bs : List Nat) (hbn : bs.length = n) (h256 : ∀ x ∈ bs, x < 256) (hn : n ≤ 65535) (last : Bool) (w : World) (hw : WriterAt w B g sv l) (hb : BytesIn w g sv A n c bs) :
    Calls Try.prog 14 #[.pointer (some ⟨g, 0, none⟩), .slice A n c, .bool last] w fun e w' => e = .returned (.int .i64 0) ∧ PutPost w B g sv (storedH l n last ++ unpack bs) w' := by
  have d : decide ((65535 : Int) < n) = false := decide_eq_false (by omega)
  have HW := Lib.hid hw; have HB := Lib.hid hb; have HN := Lib.hid hbn; have H256 := Lib.hid h256
  have CS := Lib.hid (start_any B g sv l 0 (by omega) last w hw (by omega))
  clear hw hb hbn h256
  go_enter Try.func14, Try.ntmps14
  go_wp2_with fail
  refine CS.out.mono ?_
  rintro e w1 ⟨rfl, sv1, p1, p2, p3⟩
  have P1 := Lib.hid p1; have P2 := Lib.hid p2; have P3 := Lib.hid p3
  clear p1 p2 p3
  go_wp2_with fail
  refine (writerAlign_any B g sv1 _ w1 P1.out (by rw [List.length_append, headB_length']; omega)).mono ?_
  rintro e w2 ⟨rfl, q1, q2⟩
  have Q1 := Lib.hid q1
  have Q2 := Lib.hid (P2.out.then q2 (fun i _ hi => .inl hi))
  clear q1 q2
  obtain ⟨X, hX⟩ : ∃ X, padTo (l ++ headB 0 last) = X := ⟨_, rfl⟩
  have hXl : X.length ≤ 400010 := by rw [← hX]; have := padTo_le (l ++ headB 0 last); rw [List.length_append, headB_length'] at this; omega
  have HX := Lib.hid hX
  rw [hX] at Q1
  clear hX
  go_wp2_with fail
  refine (put_yes n 16 B g sv1 X (by omega) (by omega) w2 Q1.out (by omega)).mono ?_
  rintro e w3 ⟨rfl, p⟩
  have p := PutPost.then Q2.out P3.out p
  obtain ⟨sv3, a1, a2, a3⟩ := p
  have R1 := Lib.hid a1; have R2 := Lib.hid a2; have R3 := Lib.hid a3
  clear a1 a2 a3
  have ex := max_xor n (by omega)
  obtain ⟨y, hy⟩ : ∃ y, 4294967295 - n = y := ⟨_, rfl⟩
  rw [hy] at ex
  have hy32 : y < 4294967296 := by omega
  have HY := Lib.hid hy
  clear hy
  go_wp2_with fail
  refine (put_yes y 16 B g sv3 _ hy32 (by omega) w3 R1.out (by simp; omega)).mono ?_
  rintro e w4 ⟨rfl, p⟩
  have p := PutPost.then R2.out R3.out p
  obtain ⟨sv4, a1, a2, a3⟩ := p
  have S1 : Hid (WriterAt w4 B g sv4 (storedH l n last)) := Lib.hid (by unfold storedH; rw [HX.out, HY.out]; exact a1)
  have S2 := Lib.hid a2; have S3 := Lib.hid a3
  have hHl : (storedH l n last).length ≤ 400100 := by unfold storedH; rw [HX.out]; simp; omega
  obtain ⟨H, hH⟩ : ∃ H, storedH l n last = H := ⟨_, rfl⟩
  rw [hH] at S1 hHl
  have HHH := Lib.hid hH
  clear a1 a2 a3 ex hH
  go_wp2_with fail
  go_loopw [9, 32] (fun _ i wr => ∃ k : Nat, k ≤ n ∧ i = .int .i64 k ∧ Hid (∃ sv', WriterAt wr B g sv' (H ++ unpack (bs.take k)) ∧ Only (Foot g sv) w wr ∧ ∀ j, sv'.ownBlock = some j → sv.ownBlock = some j ∨ w.heap.size ≤ j)) (fun _ i _ => n - (intOf i).toNat)
  case atStart => exact ⟨0, Nat.zero_le _, rfl, Lib.hid ⟨sv4, by simpa [unpack] using S1.out, S2.out, S3.out⟩⟩
  case round =>
    obtain ⟨k, hk, rfl, h⟩ := hrel
    by_cases hlt : k < n
    · obtain ⟨sv', b1, b2, b3⟩ := h.out
      obtain ⟨Bx, hsx⟩ := HB.out wr b2
      obtain ⟨b, o, rfl, _, c0⟩ := hsx.byte HN.out hlt
      have hkl : k < bs.length := by have := HN.out; omega
      have hx256 := H256.out _ (List.getElem_mem hkl)
      obtain ⟨x, hx⟩ : ∃ x, bs.getD k 0 = x := ⟨_, rfl⟩
      have hx2 : bs[k] = x := by rw [← hx]; simp [List.getD, hkl]
      rw [hx2] at hx256
      rw [hx] at c0
      have ET : Hid (H ++ unpack (bs.take (k + 1)) = H ++ unpack (bs.take k) ++ bitsOf x 8) := Lib.hid (by have e : bs.take (k + 1) = bs.take k ++ [bs[k]] := (List.take_append_getElem hkl).symm; rw [e, ← hx2]; unfold unpack; rw [List.flatMap_append, ← List.append_assoc]; simp only [List.flatMap_cons, List.flatMap_nil, List.append_nil])
      have hul : (H ++ unpack (bs.take k)).length ≤ 1000000 := by
        have : (unpack (bs.take k)).length = 8 * (bs.take k).length := unpack_length _
        rw [List.length_append, this, List.length_take]
        omega
      have BB1 := Lib.hid b1; have BB2 := Lib.hid b2; have BB3 := Lib.hid b3
      have k0 : (0 : Int) ≤ k := by omega
      clear b1 b2 b3 hsx hx hx2 h
      go_wp2_with fail
      refine (put_yes x 8 B g sv' _ (by omega) (by omega) wr BB1.out hul).mono ?_
      rintro e w6 ⟨rfl, p⟩
      have PP := Lib.hid (PutPost.then BB2.out BB3.out p); clear p
      go_wp2_with fail
      go_roundw
      case rel => exact ⟨k + 1, by omega, by go_num, Lib.hid (by
        obtain ⟨sv7, d1, d2, d3⟩ := PP.out
        exact ⟨sv7, by rw [ET.out]; exact d1, d2, d3⟩)⟩
      case measure => simp [intOf]; omega
    · obtain rfl : k = n := by omega
      go_wp2_with fail
      go_ret
      refine ⟨rfl, ?_⟩
      rw [HHH.out]
      obtain ⟨sv', b1, b2, b3⟩ := h.out
      rw [List.take_of_length_le (by rw [HN.out]; exact Nat.le_refl _)] at b1
      exact ⟨sv', b1, b2, b3⟩
end Go.Proofs.Ytnnpiblnjflceaa

namespace Go.Proofs.Ytnnpiblnjflceaa
open Go.RowKit
set_option maxRecDepth 100000

theorem written_bad (g : Nat) (last : Bool) (K : FuncId) (A : Option Addr) (n c B : Nat) (l : List Tok) (hb : ∀ t ∈ l, t.lit < 256) (hn : n ≤ 1000) (hbad : l.all rightT = false) (w : World) (hs : Seen w B 3 A n c (tvs l)) (hB : B ≤ w.heap.size) :
    Calls Try.prog 33 #[.pointer (some ⟨g, 0, none⟩), .slice A n c, .bool last, .func (.func K) #[] #[]] w (Gives w (.int .i64 5)) := by
  have CN := Lib.hid (tcounted_any A n c B l hb hn w hs hB)
  have HBAD := Lib.hid hbad
  have hzs : Hid (Try.zeroCells59.size = (rz 317 fun _ => 0).size) := Lib.hid (by rw [rz_size]; kernel_rfl)
  have HI := Lib.hid (show (Try.prog.info? 59).map (·.size) = some (rz 317 fun _ => 0).size by rw [rz_size]; exact (zero_of_info row59).2)
  have hone := Lib.hid (rz_one 317 (fun _ => 0))
  obtain ⟨R, hR⟩ : ∃ R, (rz 317 fun _ => 0) = R := ⟨_, rfl⟩
  rw [hR] at hzs HI hone
  have HRR := Lib.hid hR
  clear hR hs hb hbad
  go_enter Try.func33, Try.ntmps33
  go_wp2_with fail
  refine CN.out.mono ?_
  rintro e w1 (⟨hall, _⟩ | ⟨_, rfl, hb1⟩)
  · rw [HBAD.out] at hall; cases hall
  · rw [HRR.out]
    have B1 := Lib.hid hb1; clear hb1
    have W1 := Lib.hid (heap_alloc_new w1 (.cells Try.zeroCells59 59))
    have B2 : Hid (Below w.heap.size w ((w1.alloc (.cells Try.zeroCells59 59)).setRow w1.heap.size R)) := Lib.hid (below_setRow (B1.out.alloc B1.out.size _) _ B1.out.size)
    go_wp2_with (refine wpList_store_row rfl 59 (.tmp 9) (.tmp 16) rfl w1.heap.size R rfl rfl 59 Try.zeroCells59 W1.out HI.out hzs.out hone.out ?_)
    go_ret
    exact ⟨rfl, B2.out⟩

theorem bitsOf_bad (K : FuncId) (A : Option Addr) (n c B : Nat) (l : List Tok) (hb : ∀ t ∈ l, t.lit < 256) (hn : n ≤ 1000) (hbad : l.all rightT = false) (w : World) (hs : Seen w B 3 A n c (tvs l)) (hB : B ≤ w.heap.size) :
    Calls Try.prog 40 #[.slice A n c, .func (.func K) #[] #[]] w (Gives w (.int .i64 0)) := by
  have CN := Lib.hid (tcounted_any A n c B l hb hn w hs hB)
  have HBAD := Lib.hid hbad
  have hzs : Hid (Try.zeroCells59.size = (rz 317 fun _ => 0).size) := Lib.hid (by rw [rz_size]; kernel_rfl)
  have HI := Lib.hid (show (Try.prog.info? 59).map (·.size) = some (rz 317 fun _ => 0).size by rw [rz_size]; exact (zero_of_info row59).2)
  have hone := Lib.hid (rz_one 317 (fun _ => 0))
  obtain ⟨R, hR⟩ : ∃ R, (rz 317 fun _ => 0) = R := ⟨_, rfl⟩
  rw [hR] at hzs HI hone
  have HRR := Lib.hid hR
  clear hR hs hb hbad
  go_enter Try.func40, Try.ntmps40
  go_wp2_with fail
  refine CN.out.mono ?_
  rintro e w1 (⟨hall, _⟩ | ⟨_, rfl, hb1⟩)
  · rw [HBAD.out] at hall; cases hall
  · rw [HRR.out]
    have B1 := Lib.hid hb1; clear hb1
    have W1 := Lib.hid (heap_alloc_new w1 (.cells Try.zeroCells59 59))
    have B2 : Hid (Below w.heap.size w ((w1.alloc (.cells Try.zeroCells59 59)).setRow w1.heap.size R)) := Lib.hid (below_setRow (B1.out.alloc B1.out.size _) _ B1.out.size)
    go_wp2_with (refine wpList_store_row rfl 59 (.tmp 5) (.tmp 10) rfl w1.heap.size R rfl rfl 59 Try.zeroCells59 W1.out HI.out hzs.out hone.out ?_)
    go_ret
    exact ⟨rfl, B2.out⟩

theorem write_bad (g : Nat) (last : Bool) (v2 : Value) (A : Option Addr) (n c B : Nat) (l : List Tok) (hb : ∀ t ∈ l, t.lit < 256) (hn : n ≤ 1000) (hbad : l.all rightT = false) (w : World) (hs : Seen w B 3 A n c (tvs l)) (hB : B ≤ w.heap.size) :
    Calls Try.prog 17 #[.pointer (some ⟨g, 0, none⟩), .slice A n c, v2, .bool last] w (Gives w (.int .i64 5)) := by
  have CN := Lib.hid (tcounted_any A n c B l hb hn w hs hB)
  have HBAD := Lib.hid hbad
  have hzs : Hid (Try.zeroCells59.size = (rz 317 fun _ => 0).size) := Lib.hid (by rw [rz_size]; kernel_rfl)
  have HI := Lib.hid (show (Try.prog.info? 59).map (·.size) = some (rz 317 fun _ => 0).size by rw [rz_size]; exact (zero_of_info row59).2)
  have hone := Lib.hid (rz_one 317 (fun _ => 0))
  obtain ⟨R, hR⟩ : ∃ R, (rz 317 fun _ => 0) = R := ⟨_, rfl⟩
  rw [hR] at hzs HI hone
  have HRR := Lib.hid hR
  clear hR hs hb hbad
  go_enter Try.func17, Try.ntmps17
  go_wp2_with fail
  refine CN.out.mono ?_
  rintro e w1 (⟨hall, _⟩ | ⟨_, rfl, hb1⟩)
  · rw [HBAD.out] at hall; cases hall
  · rw [HRR.out]
    have B1 := Lib.hid hb1; clear hb1
    have W1 := Lib.hid (heap_alloc_new w1 (.cells Try.zeroCells59 59))
    have B2 : Hid (Below w.heap.size w ((w1.alloc (.cells Try.zeroCells59 59)).setRow w1.heap.size R)) := Lib.hid (below_setRow (B1.out.alloc B1.out.size _) _ B1.out.size)
    go_wp2_with (refine wpList_store_row rfl 59 (.tmp 9) (.tmp 20) rfl w1.heap.size R rfl rfl 59 Try.zeroCells59 W1.out HI.out hzs.out hone.out ?_)
    go_ret
    exact ⟨rfl, B2.out⟩

theorem fixed_bad (g : Nat) (last : Bool) (A : Option Addr) (n c B : Nat) (l : List Tok) (hb : ∀ t ∈ l, t.lit < 256) (hn : n ≤ 1000) (hbad : l.all rightT = false) (w : World) (hs : Seen w B 3 A n c (tvs l)) (hB : B ≤ w.heap.size) :
    Calls Try.prog 15 #[.pointer (some ⟨g, 0, none⟩), .slice A n c, .bool last] w (Gives w (.int .i64 5)) := by
  have C := Lib.hid (written_bad g last 34 A n c B l hb hn hbad w hs hB)
  clear hs hb hbad
  go_enter Try.func15, Try.ntmps15
  go_wp2_with fail
  refine C.out.mono ?_
  rintro e w1 ⟨rfl, hb1⟩
  have B1 := Lib.hid hb1; clear hb1
  go_wp2_with fail
  go_ret
  exact ⟨rfl, B1.out⟩

theorem dynamic_bad (g : Nat) (last : Bool) (A : Option Addr) (n c B : Nat) (l : List Tok) (hb : ∀ t ∈ l, t.lit < 256) (hn : n ≤ 1000) (hbad : l.all rightT = false) (w : World) (hs : Seen w B 3 A n c (tvs l)) (hB : B ≤ w.heap.size) :
    Calls Try.prog 16 #[.pointer (some ⟨g, 0, none⟩), .slice A n c, .bool last] w (Gives w (.int .i64 5)) := by
  have C := Lib.hid (written_bad g last 35 A n c B l hb hn hbad w hs hB)
  clear hs hb hbad
  go_enter Try.func16, Try.ntmps16
  go_wp2_with fail
  refine C.out.mono ?_
  rintro e w1 ⟨rfl, hb1⟩
  have B1 := Lib.hid hb1; clear hb1
  go_wp2_with fail
  go_ret
  exact ⟨rfl, B1.out⟩

theorem fixedBits_bad (A : Option Addr) (n c B : Nat) (l : List Tok) (hb : ∀ t ∈ l, t.lit < 256) (hn : n ≤ 1000) (hbad : l.all rightT = false) (w : World) (hs : Seen w B 3 A n c (tvs l)) (hB : B ≤ w.heap.size) :
    Calls Try.prog 20 #[.slice A n c] w (Gives w (.int .i64 0)) := by
  have C := Lib.hid (bitsOf_bad  34 A n c B l hb hn hbad w hs hB)
  clear hs hb hbad
  go_enter Try.func20, Try.ntmps20
  go_wp2_with fail
  refine C.out.mono ?_
  rintro e w1 ⟨rfl, hb1⟩
  have B1 := Lib.hid hb1; clear hb1
  go_wp2_with fail
  go_ret
  exact ⟨rfl, B1.out⟩

theorem dynamicBits_bad (A : Option Addr) (n c B : Nat) (l : List Tok) (hb : ∀ t ∈ l, t.lit < 256) (hn : n ≤ 1000) (hbad : l.all rightT = false) (w : World) (hs : Seen w B 3 A n c (tvs l)) (hB : B ≤ w.heap.size) :
    Calls Try.prog 21 #[.slice A n c] w (Gives w (.int .i64 0)) := by
  have C := Lib.hid (bitsOf_bad  35 A n c B l hb hn hbad w hs hB)
  clear hs hb hbad
  go_enter Try.func21, Try.ntmps21
  go_wp2_with fail
  refine C.out.mono ?_
  rintro e w1 ⟨rfl, hb1⟩
  have B1 := Lib.hid hb1; clear hb1
  go_wp2_with fail
  go_ret
  exact ⟨rfl, B1.out⟩

theorem written_nil0 (A : Option Addr) (n c : Nat) (last : Bool) (K : FuncId) (w : World) : Calls Try.prog 33 #[.pointer none, .slice A n c, .bool last, .func (.func K) #[] #[]] w fun e w' => e = .returned (.int .i64 1) ∧ w = w' := by
  go_enter Try.func33, Try.ntmps33
  go_wp2_with fail
  go_ret
  exact ⟨rfl, rfl⟩

theorem write_nil0 (A : Option Addr) (n c : Nat) (last : Bool) (v2 : Value) (w : World) : Calls Try.prog 17 #[.pointer none, .slice A n c, v2, .bool last] w fun e w' => e = .returned (.int .i64 1) ∧ w = w' := by
  go_enter Try.func17, Try.ntmps17
  go_wp2_with fail
  go_ret
  exact ⟨rfl, rfl⟩

theorem fixed_nil0 (A : Option Addr) (n c : Nat) (last : Bool) (w : World) : Calls Try.prog 15 #[.pointer none, .slice A n c, .bool last] w fun e w' => e = .returned (.int .i64 1) ∧ w = w' := by
  have C := Lib.hid (written_nil0 A n c last 34 w)
  go_enter Try.func15, Try.ntmps15
  go_wp2_with fail
  refine C.out.mono ?_
  rintro e w1 ⟨rfl, rfl⟩
  go_wp2_with fail
  go_ret
  exact ⟨rfl, rfl⟩

theorem dynamic_nil0 (A : Option Addr) (n c : Nat) (last : Bool) (w : World) : Calls Try.prog 16 #[.pointer none, .slice A n c, .bool last] w fun e w' => e = .returned (.int .i64 1) ∧ w = w' := by
  have C := Lib.hid (written_nil0 A n c last 35 w)
  go_enter Try.func16, Try.ntmps16
  go_wp2_with fail
  refine C.out.mono ?_
  rintro e w1 ⟨rfl, rfl⟩
  go_wp2_with fail
  go_ret
  exact ⟨rfl, rfl⟩

end Go.Proofs.Ytnnpiblnjflceaa

namespace Go.Proofs.Ytnnpiblnjflceaa
open Go.RowKit
set_option maxRecDepth 100000

theorem load_yields {P : Program} (W : World) (g : Nat) (ty : TypeId) (cs : Array Value) (o : Oper) (a : Act) {x : Operand} (ho : o.op = .load ty x) (hx : a.eval x = .pointer (some ⟨g, 0, none⟩)) (hg : Whole W g ty cs) {d : TypeDesc}
    (hu : P.underlying ty = some d) (hd : (match d with | .struct _ | .array _ _ => true | _ => false) = true) (hi : (P.info? ty).map (·.size) = some cs.size) :
    (execOp a.eval o).run P W = .ok (.value (.agg cs)) W := by
  unfold execOp
  simp only [ho, hx, Instr.loadAt, Instr.sureAddr, Sem.run_bind, Sem.run_pure, Result.andThen_ok, run_loadVar_row W g ty ty cs (0, 0) d hg hu hd hi]
theorem step_store_row {P : Program} (w : World) {ops : Array Oper} {o : Oper} {a : Act} {K : Act → World → Prop} {Q : Exit → Act → World → Prop} {E : Prop} (hgd : o.guard = none) (ty : TypeId) (x y : Operand) (ho : o.op = .store ty x y)
    (g : Nat) (cells : Array Value) (hx : a.eval x = .pointer (some ⟨g, 0, none⟩)) (hy : a.eval y = .agg cells)
    (t : TypeId) (old : Array Value) (hg : w.heap[g]? = some (.cells old t (0, 0))) (hi : (P.info? ty).map (·.size) = some cells.size)
    (hold : old.size = cells.size) (h1 : cells.all (·.oneCell') = true) (h : K (a.put o.dst undef) (w.setRow g cells)) :
    if Region.wanted o (yielded ops a.tmps) = true then Oper.wp P o a w K Q else E := by
  have hw : Region.wanted o (yielded ops a.tmps) = true := by simp [Region.wanted, hgd]
  rw [if_pos hw]
  exact wp_store_row ty x y ho g cells hx hy t old hg hi hold h1 h

/-- How many bits a stored block takes. -/
def stoS (a n : Nat) : Nat := (a + 10) / 8 * 8 - a + 32 + 8 * n
theorem storedBits_any (a n : Nat) (ha : a ≤ 1000) (hn : n ≤ 65535) (w : World) : Calls Try.prog 38 #[.int .i64 a, .int .i64 n] w fun e w' => e = .returned (.int .i64 (stoS a n)) ∧ w = w' := by
  obtain ⟨q, hq⟩ : ∃ q, (a + 10) / 8 = q := ⟨_, rfl⟩
  obtain ⟨p, hp⟩ : ∃ p, a + 3 = p := ⟨_, rfl⟩
  have e1 : (a : Int) + 3 = p := by omega
  have w1 : IntKind.i64.wrap (p : Int) = p := IntWalk.i64_in _ (by omega)
  obtain ⟨p2, hp2⟩ : ∃ p2, p + 7 = p2 := ⟨_, rfl⟩
  have e2 : (p : Int) + 7 = p2 := by omega
  have w2 : IntKind.i64.wrap (p2 : Int) = p2 := IntWalk.i64_in _ (by omega)
  have e3 : (p2 : Int).tdiv 8 = q := by rw [Int.tdiv_eq_ediv_of_nonneg (by omega)]; omega
  have e3' : (p2 : Int) / 8 = q := by omega
  have w3 : IntKind.i64.wrap (q : Int) = q := IntWalk.i64_in _ (by omega)
  obtain ⟨r, hr⟩ : ∃ r, q * 8 = r := ⟨_, rfl⟩
  have e4 : (q : Int) * 8 = r := by omega
  have w4 : IntKind.i64.wrap (r : Int) = r := IntWalk.i64_in _ (by omega)
  obtain ⟨d, hd⟩ : ∃ d, r - a = d := ⟨_, rfl⟩
  have e5 : (r : Int) - a = d := by omega
  have w5 : IntKind.i64.wrap (d : Int) = d := IntWalk.i64_in _ (by omega)
  obtain ⟨f, hf⟩ : ∃ f, d + 32 = f := ⟨_, rfl⟩
  have e6 : (d : Int) + 32 = f := by omega
  have w6 : IntKind.i64.wrap (f : Int) = f := IntWalk.i64_in _ (by omega)
  obtain ⟨m, hm⟩ : ∃ m, 8 * n = m := ⟨_, rfl⟩
  have e7 : (8 : Int) * n = m := by omega
  have w7 : IntKind.i64.wrap (m : Int) = m := IntWalk.i64_in _ (by omega)
  obtain ⟨s, hs⟩ : ∃ s, stoS a n = s := ⟨_, rfl⟩
  have hss : s = f + m := by rw [← hs]; unfold stoS; omega
  have e8 : (f : Int) + m = s := by omega
  have w8 : IntKind.i64.wrap (s : Int) = s := IntWalk.i64_in _ (by omega)
  rw [hs]
  clear hq hp hp2 hr hd hf hm hs hss
  go_enter Try.func38, Try.ntmps38
  go_wp2_with fail
  go_ret
  exact ⟨by first | rfl | simp [*], rfl⟩
theorem padTo_len (l : List Bool) : (padTo l).length = (l.length + 7) / 8 * 8 := by
  unfold padTo
  simp
  omega
theorem stored_len (bits : List Bool) (nb : Nat) (bs : List Nat) (h : bs.length = nb) : (storedH bits nb false ++ unpack bs).length = bits.length + stoS bits.length nb := by
  unfold storedH stoS
  simp only [List.length_append, padTo_len, headB_length, bitsOf_length, unpack_length, h]
  omega

theorem PutPost.from {w0 w w' : World} {B g : Nat} {sv : Value} {bits : List Bool} (h : PutPost w B g sv bits w') (hb : Below w0.heap.size w0 w) : PutPost w0 B g sv bits w' := by
  obtain ⟨s, h1, h2, h3⟩ := h
  exact ⟨s, h1, (Only.of_below hb _).trans h2, fun k hk => (h3 k hk).imp id (fun h => Nat.le_trans hb.size h)⟩
set_option linter.unusedSimpArgs false in
set_option maxHeartbeats 8000000 in
theorem write_any (B g : Nat) (sv : Value) (bits : List Bool) (hbl : bits.length ≤ 100) (At : Option Addr) (nt ct Bt : Nat) (l : List Tok) (hl : Tks l) (hnt : nt ≤ 1000) (hln : l.length = nt) (Ab : Option Addr) (nb cb : Nat) (bs : List Nat) (hbs : bs.length = nb) (h256 : ∀ x ∈ bs, x < 256) (hnb : nb ≤ 65535)
    (w : World) (hw : WriterAt w B g sv bits) (hst : Seen w Bt 3 At nt ct (tvs l)) (hBt : Bt ≤ w.heap.size) (hT : ToksIn w At nt ct l) (hBI : BytesIn w g sv Ab nb cb bs) :
    Calls Try.prog 17 #[.pointer (some ⟨g, 0, none⟩), .slice At nt ct, .slice Ab nb cb, .bool false] w fun e w' => e = .returned (.int .i64 0) ∧ ∃ X : List Bool, PutPost w B g sv X w' ∧ X.length = min (storedH bits nb false ++ unpack bs).length (min (bits.length + fixM l) (bits.length + dynM (cntL l cnt0) l)) := by
  have hCW : CntW (cntL l cnt0) l := ⟨rfl, hl, by omega⟩
  have hall : l.all rightT = true := List.all_eq_true.2 (fun t ht => (hl t ht).2)
  have CN := Lib.hid (tcounted_any At nt ct Bt l (fun t ht => (hl t ht).1) hnt w hst hBt)
  obtain ⟨F, hF⟩ : ∃ F, cntL l cnt0 = F := ⟨_, rfl⟩
  unfold CntRes at CN
  rw [hF] at hCW CN ⊢
  have CF := Lib.hid (fun W => fixedBlock_any F W)
  have CD := Lib.hid (fun W => dynamicBlock_any F hCW.ok W)
  have HI := Lib.hid (show (Try.prog.info? 59).map (·.size) = some (rz 317 F).size by rw [rz_size]; exact (zero_of_info row59).2)
  have hzs9 : Hid (Try.zeroCells59.size = (rz 317 F).size) := Lib.hid (by rw [rz_size]; kernel_rfl)
  have hone := Lib.hid (rz_one 317 F)
  have hzs : Hid (Try.zeroCells65.size = 320) := Lib.hid (by kernel_rfl)
  obtain ⟨R, hR⟩ : ∃ R, rz 317 F = R := ⟨_, rfl⟩
  rw [hR] at HI hzs9 hone CN CF CD
  have HALL := Lib.hid hall; have HCW := Lib.hid hCW; have HW := Lib.hid hw; have HT := Lib.hid hT; have HBI := Lib.hid hBI; have HBS := Lib.hid hbs; have H256 := Lib.hid h256
  clear hF hR hall hCW hw hst hT hBI hbs h256 hl
  go_enter Try.func17, Try.ntmps17
  go_wp2_with fail
  refine CN.out.mono ?_
  rintro e w0 hres
  rcases hres with ⟨_, rfl, hb0⟩ | ⟨h0, _⟩
  rotate_left
  · rw [HALL.out] at h0; cases h0
  have B0 := Lib.hid hb0
  have W1 := Lib.hid (heap_alloc_new w0 (.cells Try.zeroCells59 59))
  have W2 := Lib.hid (seen59 w0 R)
  have B2 : Hid (Below w0.heap.size w0 ((w0.alloc (.cells Try.zeroCells59 59)).setRow w0.heap.size R)) := Lib.hid (below_setRow ((Below.refl _ _).alloc (Nat.le_refl _) _) _ (Nat.le_refl _))
  clear hb0 CN
  go_upto_region 6 with (refine wpList_store_row rfl 59 (.tmp 9) (.tmp 20) rfl w0.heap.size R rfl rfl 59 Try.zeroCells59 W1.out HI.out hzs9.out hone.out ?_)
  generalize (w0.alloc (.cells Try.zeroCells59 59)).setRow w0.heap.size R = w1 at *
  obtain ⟨g9, hg9⟩ : ∃ g9, w0.heap.size = g9 := ⟨_, rfl⟩
  rw [hg9] at W2 ⊢
  have BEL := Lib.hid (B0.out.trans (B2.out.mono B0.out.size))
  clear B0 B2 W1 hg9
  go_cut [11, 12] (fun s11 s12 wx => ∃ (ga gb : Nat) (C47 C50 : Array Value), s11 = .pointer (some ⟨ga, 0, none⟩) ∧ s12 = .pointer (some ⟨gb, 0, none⟩) ∧ ga ≠ gb ∧ Hid (Whole wx ga 65 C47 ∧ Whole wx gb 65 C50 ∧ FixRaw F C47 wx ∧ DynRaw F C50 wx ∧ Below w.heap.size w wx ∧ w.heap.size ≤ ga ∧ w.heap.size ≤ gb))
  case first =>
    refine wp_region_held_drew (S := (fun W => Whole W g9 59 R ∧ Below w1.heap.size w1 W)) (by kernel_rfl) ⟨W2.out.drew, below_drew (Below.refl _ _)⟩ (fun hHeld => ?_)
    generalize w1.drew = wd at hHeld ⊢
    refine wpAnyH_take (i := 0) (oi := ⟨some 24, _, _, _, _, _⟩) (v := .agg R) rfl (by kernel_rfl) (by kernel_rfl) (by kernel_rfl) (fun _ _ _ h => h) (Or.inl ⟨by rfl, ?hyl0⟩) (by assumption) ?restl0
    case hyl0 => intro W hSW; exact load_yields W g9 59 R _ _ rfl rfl hSW.1 Try.underlying59 rfl HI.out
    try simp only [Act.put, List.setIfInBounds_toArray, List.set_cons_zero, List.set_cons_succ]
    refine wpAnyH_take (i := 2) (oi := ⟨some 26, _, _, _, _, _⟩) (v := .agg R) rfl (by kernel_rfl) (by kernel_rfl) (by kernel_rfl) (fun _ _ _ h => h) (Or.inl ⟨by rfl, ?hyl2⟩) (by assumption) ?restl2
    case hyl2 => intro W hSW; exact load_yields W g9 59 R _ _ rfl rfl hSW.1 Try.underlying59 rfl HI.out
    try simp only [Act.put, List.setIfInBounds_toArray, List.set_cons_zero, List.set_cons_succ]
    refine wpAnyH_ready (rs := [1, 4, 5]) (by kernel_rfl) (by simp) ?_
    refine (AllReadyH.cons (o := ⟨some 25, _, _, _, _, _⟩) rfl (fun K hK => ?_) (AllReadyH.cons (o := ⟨some 11, _, _, _, _, _⟩) rfl (fun K hK => ?_) (AllReadyH.cons (o := ⟨some 12, _, _, _, _, _⟩) rfl (fun K hK => ?_) AllReadyH.nil)))
    · go_simp
      have hsz := hHeld.2.size
      refine (CF.out _).mono ?_
      rintro e x1 hres
      obtain ⟨C47, rfl, hf47, hb⟩ := fixRaw_of hres
      have hv47 := hf47.v
      have HV47_1 := Lib.hid hv47
      have F47_1 := Lib.hid hf47
      refine hK.out _ _ ?_ (fun hHeld2 => ?_)
      · exact ⟨hHeld.1.only (Only.of_below hb Nob) (fun h => h), hHeld.2.trans (hb.mono hHeld.2.size)⟩
      clear hK K hHeld
      have hHeld := hHeld2; clear hHeld2
      try simp only [Act.put, List.setIfInBounds_toArray, List.set_cons_zero, List.set_cons_succ]
      clear hb hres hv47 hf47
      clear hsz
      refine wpAnyH_ready (rs := [3, 4, 5]) (by kernel_rfl) (by simp) ?_
      refine (AllReadyH.cons (o := ⟨some 27, _, _, _, _, _⟩) rfl (fun K hK => ?_) (AllReadyH.cons (o := ⟨some 11, _, _, _, _, _⟩) rfl (fun K hK => ?_) (AllReadyH.cons (o := ⟨some 12, _, _, _, _, _⟩) rfl (fun K hK => ?_) AllReadyH.nil)))
      · go_simp
        have hsz := hHeld.2.size
        refine (CD.out _).mono ?_
        rintro e x2 hres
        obtain ⟨C50, rfl, hf50, hb⟩ := dynRaw_of hres
        have hv50 := hf50.v
        have HV50_2 := Lib.hid hv50
        have F47_2 := Lib.hid (F47_1.out.below hb)
        have F50_2 := Lib.hid hf50
        refine hK.out _ _ ?_ (fun hHeld2 => ?_)
        · exact ⟨hHeld.1.only (Only.of_below hb Nob) (fun h => h), hHeld.2.trans (hb.mono hHeld.2.size)⟩
        clear hK K hHeld
        have hHeld := hHeld2; clear hHeld2
        try simp only [Act.put, List.setIfInBounds_toArray, List.set_cons_zero, List.set_cons_succ]
        clear hb hres hv50 hf50
        clear hsz
        refine wpAnyH_ready (rs := [4, 5]) (by kernel_rfl) (by simp) ?_
        refine (AllReadyH.cons (o := ⟨some 11, _, _, _, _, _⟩) rfl (fun K hK => ?_) (AllReadyH.cons (o := ⟨some 12, _, _, _, _, _⟩) rfl (fun K hK => ?_) AllReadyH.nil))
        · go_simp
          have hsz := hHeld.2.size
          have NW := Whole.new x2 65 Try.zeroCells65
          have hb : Below x2.heap.size x2 (x2.alloc (.cells Try.zeroCells65 65)) := (Below.refl _ _).alloc (Nat.le_refl _) _
          have F47_3 := Lib.hid (F47_2.out.below hb)
          have F50_3 := Lib.hid (F50_2.out.below hb)
          have A_3 := Lib.hid NW
          clear NW
          refine hK.out _ _ ?_ (fun hHeld2 => ?_)
          · exact ⟨hHeld.1.only (Only.of_below hb Nob) (fun h => h), hHeld.2.trans (hb.mono hHeld.2.size)⟩
          clear hK K hHeld
          have hHeld := hHeld2; clear hHeld2
          try simp only [Act.put, List.setIfInBounds_toArray, List.set_cons_zero, List.set_cons_succ]
          clear hb
          generalize x2.alloc (.cells Try.zeroCells65 65) = x3 at *
          obtain ⟨ga, hga⟩ : ∃ g, x2.heap.size = g := ⟨_, rfl⟩
          rw [hga] at A_3 hsz ⊢
          have hszga := hsz
          clear hga
          clear hsz
          refine wpAnyH_ready (rs := [5]) (by kernel_rfl) (by simp) ?_
          refine (AllReadyH.cons (o := ⟨some 12, _, _, _, _, _⟩) rfl (fun K hK => ?_) AllReadyH.nil)
          · go_simp
            have hsz := hHeld.2.size
            have NW := Whole.new x3 65 Try.zeroCells65
            have hb : Below x3.heap.size x3 (x3.alloc (.cells Try.zeroCells65 65)) := (Below.refl _ _).alloc (Nat.le_refl _) _
            have F47_4 := Lib.hid (F47_3.out.below hb)
            have F50_4 := Lib.hid (F50_3.out.below hb)
            have A_4 := Lib.hid (A_3.out.only (Only.of_below hb Nob) (fun h => h))
            have hlt4 := A_3.out.lt
            have B_4 := Lib.hid NW
            clear NW
            refine hK.out _ _ ?_ (fun hHeld2 => ?_)
            · exact ⟨hHeld.1.only (Only.of_below hb Nob) (fun h => h), hHeld.2.trans (hb.mono hHeld.2.size)⟩
            clear hK K hHeld
            have hHeld := hHeld2; clear hHeld2
            try simp only [Act.put, List.setIfInBounds_toArray, List.set_cons_zero, List.set_cons_succ]
            clear hb
            generalize x3.alloc (.cells Try.zeroCells65 65) = x4 at *
            obtain ⟨gb, hgb⟩ : ∃ g, x3.heap.size = g := ⟨_, rfl⟩
            rw [hgb] at B_4 hsz ⊢
            have hszgb := hsz
            have hne : ga ≠ gb := by omega
            clear hgb
            clear hsz
            have hna : ga ≠ g9 := A_4.out.ne hHeld.1 (by decide)
            have hnb : gb ≠ g9 := B_4.out.ne hHeld.1 (by decide)
            refine wpAnyH_ready (rs := [6]) (by kernel_rfl) (by simp) ?_
            refine AllReadyH.cons (o := ⟨none, _, _, _, _, _⟩) rfl (fun K hK => ?_) AllReadyH.nil
            refine step_store_row _ rfl 65 (.tmp 11) (.tmp 25) rfl ga C47 rfl rfl 65 Try.zeroCells65 A_4.out HV47_1.out.2.2 (by rw [hzs.out, HV47_1.out.1]) HV47_1.out.2.1 ?_
            refine hK.out _ _ ?_ (fun hHeld2 => ?_)
            · exact ⟨hHeld.1.setRow_far _ (Ne.symm hna), below_setRow hHeld.2 _ hszga⟩
            clear hK K hHeld
            have hHeld := hHeld2; clear hHeld2
            try simp only [Act.put, List.setIfInBounds_toArray, List.set_cons_zero, List.set_cons_succ]
            have A1 := Lib.hid (A_4.out.setRow C47)
            have B1 := Lib.hid (Whole.setRow_far B_4.out C47 (Ne.symm hne))
            have F1 := Lib.hid (F47_4.out.blk A_4.out (only_setRow _ _ C47)); have G1 := Lib.hid (F50_4.out.blk A_4.out (only_setRow _ _ C47))
            refine wpAnyH_ready (rs := [7]) (by kernel_rfl) (by simp) ?_
            refine AllReadyH.cons (o := ⟨none, _, _, _, _, _⟩) rfl (fun K hK => ?_) AllReadyH.nil
            refine step_store_row _ rfl 65 (.tmp 12) (.tmp 27) rfl gb C50 rfl rfl 65 Try.zeroCells65 B1.out HV50_2.out.2.2 (by rw [hzs.out, HV50_2.out.1]) HV50_2.out.2.1 ?_
            refine hK.out _ _ ?_ (fun hHeld2 => ?_)
            · exact ⟨hHeld.1.setRow_far _ (Ne.symm hnb), below_setRow hHeld.2 _ hszgb⟩
            clear hK K hHeld
            have hHeld := hHeld2; clear hHeld2
            try simp only [Act.put, List.setIfInBounds_toArray, List.set_cons_zero, List.set_cons_succ]
            have A2 := Lib.hid (Whole.setRow_far A1.out C50 hne)
            have B2 := Lib.hid (B1.out.setRow C50)
            have F2 := Lib.hid (F1.out.blk B1.out (only_setRow _ _ C50)); have G2 := Lib.hid (G1.out.blk B1.out (only_setRow _ _ C50))
            refine wpAnyH_done (by kernel_rfl) ?_ _
            go_wp2_with fail
            go_meet
            case rel => exact ⟨ga, gb, C47, C50, rfl, rfl, hne, Lib.hid ⟨A2.out, B2.out, F2.out, G2.out, BEL.out.trans (hHeld.2.mono BEL.out.size), Nat.le_trans BEL.out.size hszga, Nat.le_trans BEL.out.size hszgb⟩⟩
        · go_simp
          have hsz := hHeld.2.size
          have NW := Whole.new x2 65 Try.zeroCells65
          have hb : Below x2.heap.size x2 (x2.alloc (.cells Try.zeroCells65 65)) := (Below.refl _ _).alloc (Nat.le_refl _) _
          have F47_5 := Lib.hid (F47_2.out.below hb)
          have F50_5 := Lib.hid (F50_2.out.below hb)
          have B_5 := Lib.hid NW
          clear NW
          refine hK.out _ _ ?_ (fun hHeld2 => ?_)
          · exact ⟨hHeld.1.only (Only.of_below hb Nob) (fun h => h), hHeld.2.trans (hb.mono hHeld.2.size)⟩
          clear hK K hHeld
          have hHeld := hHeld2; clear hHeld2
          try simp only [Act.put, List.setIfInBounds_toArray, List.set_cons_zero, List.set_cons_succ]
          clear hb
          generalize x2.alloc (.cells Try.zeroCells65 65) = x5 at *
          obtain ⟨gb, hgb⟩ : ∃ g, x2.heap.size = g := ⟨_, rfl⟩
          rw [hgb] at B_5 hsz ⊢
          have hszgb := hsz
          clear hgb
          clear hsz
          refine wpAnyH_ready (rs := [4]) (by kernel_rfl) (by simp) ?_
          refine (AllReadyH.cons (o := ⟨some 11, _, _, _, _, _⟩) rfl (fun K hK => ?_) AllReadyH.nil)
          · go_simp
            have hsz := hHeld.2.size
            have NW := Whole.new x5 65 Try.zeroCells65
            have hb : Below x5.heap.size x5 (x5.alloc (.cells Try.zeroCells65 65)) := (Below.refl _ _).alloc (Nat.le_refl _) _
            have F47_6 := Lib.hid (F47_5.out.below hb)
            have F50_6 := Lib.hid (F50_5.out.below hb)
            have B_6 := Lib.hid (B_5.out.only (Only.of_below hb Nob) (fun h => h))
            have hlt6 := B_5.out.lt
            have A_6 := Lib.hid NW
            clear NW
            refine hK.out _ _ ?_ (fun hHeld2 => ?_)
            · exact ⟨hHeld.1.only (Only.of_below hb Nob) (fun h => h), hHeld.2.trans (hb.mono hHeld.2.size)⟩
            clear hK K hHeld
            have hHeld := hHeld2; clear hHeld2
            try simp only [Act.put, List.setIfInBounds_toArray, List.set_cons_zero, List.set_cons_succ]
            clear hb
            generalize x5.alloc (.cells Try.zeroCells65 65) = x6 at *
            obtain ⟨ga, hga⟩ : ∃ g, x5.heap.size = g := ⟨_, rfl⟩
            rw [hga] at A_6 hsz ⊢
            have hszga := hsz
            have hne : ga ≠ gb := by omega
            clear hga
            clear hsz
            have hna : ga ≠ g9 := A_6.out.ne hHeld.1 (by decide)
            have hnb : gb ≠ g9 := B_6.out.ne hHeld.1 (by decide)
            refine wpAnyH_ready (rs := [6]) (by kernel_rfl) (by simp) ?_
            refine AllReadyH.cons (o := ⟨none, _, _, _, _, _⟩) rfl (fun K hK => ?_) AllReadyH.nil
            refine step_store_row _ rfl 65 (.tmp 11) (.tmp 25) rfl ga C47 rfl rfl 65 Try.zeroCells65 A_6.out HV47_1.out.2.2 (by rw [hzs.out, HV47_1.out.1]) HV47_1.out.2.1 ?_
            refine hK.out _ _ ?_ (fun hHeld2 => ?_)
            · exact ⟨hHeld.1.setRow_far _ (Ne.symm hna), below_setRow hHeld.2 _ hszga⟩
            clear hK K hHeld
            have hHeld := hHeld2; clear hHeld2
            try simp only [Act.put, List.setIfInBounds_toArray, List.set_cons_zero, List.set_cons_succ]
            have A1 := Lib.hid (A_6.out.setRow C47)
            have B1 := Lib.hid (Whole.setRow_far B_6.out C47 (Ne.symm hne))
            have F1 := Lib.hid (F47_6.out.blk A_6.out (only_setRow _ _ C47)); have G1 := Lib.hid (F50_6.out.blk A_6.out (only_setRow _ _ C47))
            refine wpAnyH_ready (rs := [7]) (by kernel_rfl) (by simp) ?_
            refine AllReadyH.cons (o := ⟨none, _, _, _, _, _⟩) rfl (fun K hK => ?_) AllReadyH.nil
            refine step_store_row _ rfl 65 (.tmp 12) (.tmp 27) rfl gb C50 rfl rfl 65 Try.zeroCells65 B1.out HV50_2.out.2.2 (by rw [hzs.out, HV50_2.out.1]) HV50_2.out.2.1 ?_
            refine hK.out _ _ ?_ (fun hHeld2 => ?_)
            · exact ⟨hHeld.1.setRow_far _ (Ne.symm hnb), below_setRow hHeld.2 _ hszgb⟩
            clear hK K hHeld
            have hHeld := hHeld2; clear hHeld2
            try simp only [Act.put, List.setIfInBounds_toArray, List.set_cons_zero, List.set_cons_succ]
            have A2 := Lib.hid (Whole.setRow_far A1.out C50 hne)
            have B2 := Lib.hid (B1.out.setRow C50)
            have F2 := Lib.hid (F1.out.blk B1.out (only_setRow _ _ C50)); have G2 := Lib.hid (G1.out.blk B1.out (only_setRow _ _ C50))
            refine wpAnyH_done (by kernel_rfl) ?_ _
            go_wp2_with fail
            go_meet
            case rel => exact ⟨ga, gb, C47, C50, rfl, rfl, hne, Lib.hid ⟨A2.out, B2.out, F2.out, G2.out, BEL.out.trans (hHeld.2.mono BEL.out.size), Nat.le_trans BEL.out.size hszga, Nat.le_trans BEL.out.size hszgb⟩⟩
      · go_simp
        have hsz := hHeld.2.size
        have NW := Whole.new x1 65 Try.zeroCells65
        have hb : Below x1.heap.size x1 (x1.alloc (.cells Try.zeroCells65 65)) := (Below.refl _ _).alloc (Nat.le_refl _) _
        have F47_7 := Lib.hid (F47_1.out.below hb)
        have A_7 := Lib.hid NW
        clear NW
        refine hK.out _ _ ?_ (fun hHeld2 => ?_)
        · exact ⟨hHeld.1.only (Only.of_below hb Nob) (fun h => h), hHeld.2.trans (hb.mono hHeld.2.size)⟩
        clear hK K hHeld
        have hHeld := hHeld2; clear hHeld2
        try simp only [Act.put, List.setIfInBounds_toArray, List.set_cons_zero, List.set_cons_succ]
        clear hb
        generalize x1.alloc (.cells Try.zeroCells65 65) = x7 at *
        obtain ⟨ga, hga⟩ : ∃ g, x1.heap.size = g := ⟨_, rfl⟩
        rw [hga] at A_7 hsz ⊢
        have hszga := hsz
        clear hga
        clear hsz
        refine wpAnyH_ready (rs := [3, 5]) (by kernel_rfl) (by simp) ?_
        refine (AllReadyH.cons (o := ⟨some 27, _, _, _, _, _⟩) rfl (fun K hK => ?_) (AllReadyH.cons (o := ⟨some 12, _, _, _, _, _⟩) rfl (fun K hK => ?_) AllReadyH.nil))
        · go_simp
          have hsz := hHeld.2.size
          refine (CD.out _).mono ?_
          rintro e x8 hres
          obtain ⟨C50, rfl, hf50, hb⟩ := dynRaw_of hres
          have hv50 := hf50.v
          have HV50_8 := Lib.hid hv50
          have F47_8 := Lib.hid (F47_7.out.below hb)
          have A_8 := Lib.hid (A_7.out.only (Only.of_below hb Nob) (fun h => h))
          have F50_8 := Lib.hid hf50
          refine hK.out _ _ ?_ (fun hHeld2 => ?_)
          · exact ⟨hHeld.1.only (Only.of_below hb Nob) (fun h => h), hHeld.2.trans (hb.mono hHeld.2.size)⟩
          clear hK K hHeld
          have hHeld := hHeld2; clear hHeld2
          try simp only [Act.put, List.setIfInBounds_toArray, List.set_cons_zero, List.set_cons_succ]
          clear hb hres hv50 hf50
          clear hsz
          refine wpAnyH_ready (rs := [5]) (by kernel_rfl) (by simp) ?_
          refine (AllReadyH.cons (o := ⟨some 12, _, _, _, _, _⟩) rfl (fun K hK => ?_) AllReadyH.nil)
          · go_simp
            have hsz := hHeld.2.size
            have NW := Whole.new x8 65 Try.zeroCells65
            have hb : Below x8.heap.size x8 (x8.alloc (.cells Try.zeroCells65 65)) := (Below.refl _ _).alloc (Nat.le_refl _) _
            have F47_9 := Lib.hid (F47_8.out.below hb)
            have F50_9 := Lib.hid (F50_8.out.below hb)
            have A_9 := Lib.hid (A_8.out.only (Only.of_below hb Nob) (fun h => h))
            have hlt9 := A_8.out.lt
            have B_9 := Lib.hid NW
            clear NW
            refine hK.out _ _ ?_ (fun hHeld2 => ?_)
            · exact ⟨hHeld.1.only (Only.of_below hb Nob) (fun h => h), hHeld.2.trans (hb.mono hHeld.2.size)⟩
            clear hK K hHeld
            have hHeld := hHeld2; clear hHeld2
            try simp only [Act.put, List.setIfInBounds_toArray, List.set_cons_zero, List.set_cons_succ]
            clear hb
            generalize x8.alloc (.cells Try.zeroCells65 65) = x9 at *
            obtain ⟨gb, hgb⟩ : ∃ g, x8.heap.size = g := ⟨_, rfl⟩
            rw [hgb] at B_9 hsz ⊢
            have hszgb := hsz
            have hne : ga ≠ gb := by omega
            clear hgb
            clear hsz
            have hna : ga ≠ g9 := A_9.out.ne hHeld.1 (by decide)
            have hnb : gb ≠ g9 := B_9.out.ne hHeld.1 (by decide)
            refine wpAnyH_ready (rs := [6]) (by kernel_rfl) (by simp) ?_
            refine AllReadyH.cons (o := ⟨none, _, _, _, _, _⟩) rfl (fun K hK => ?_) AllReadyH.nil
            refine step_store_row _ rfl 65 (.tmp 11) (.tmp 25) rfl ga C47 rfl rfl 65 Try.zeroCells65 A_9.out HV47_1.out.2.2 (by rw [hzs.out, HV47_1.out.1]) HV47_1.out.2.1 ?_
            refine hK.out _ _ ?_ (fun hHeld2 => ?_)
            · exact ⟨hHeld.1.setRow_far _ (Ne.symm hna), below_setRow hHeld.2 _ hszga⟩
            clear hK K hHeld
            have hHeld := hHeld2; clear hHeld2
            try simp only [Act.put, List.setIfInBounds_toArray, List.set_cons_zero, List.set_cons_succ]
            have A1 := Lib.hid (A_9.out.setRow C47)
            have B1 := Lib.hid (Whole.setRow_far B_9.out C47 (Ne.symm hne))
            have F1 := Lib.hid (F47_9.out.blk A_9.out (only_setRow _ _ C47)); have G1 := Lib.hid (F50_9.out.blk A_9.out (only_setRow _ _ C47))
            refine wpAnyH_ready (rs := [7]) (by kernel_rfl) (by simp) ?_
            refine AllReadyH.cons (o := ⟨none, _, _, _, _, _⟩) rfl (fun K hK => ?_) AllReadyH.nil
            refine step_store_row _ rfl 65 (.tmp 12) (.tmp 27) rfl gb C50 rfl rfl 65 Try.zeroCells65 B1.out HV50_8.out.2.2 (by rw [hzs.out, HV50_8.out.1]) HV50_8.out.2.1 ?_
            refine hK.out _ _ ?_ (fun hHeld2 => ?_)
            · exact ⟨hHeld.1.setRow_far _ (Ne.symm hnb), below_setRow hHeld.2 _ hszgb⟩
            clear hK K hHeld
            have hHeld := hHeld2; clear hHeld2
            try simp only [Act.put, List.setIfInBounds_toArray, List.set_cons_zero, List.set_cons_succ]
            have A2 := Lib.hid (Whole.setRow_far A1.out C50 hne)
            have B2 := Lib.hid (B1.out.setRow C50)
            have F2 := Lib.hid (F1.out.blk B1.out (only_setRow _ _ C50)); have G2 := Lib.hid (G1.out.blk B1.out (only_setRow _ _ C50))
            refine wpAnyH_done (by kernel_rfl) ?_ _
            go_wp2_with fail
            go_meet
            case rel => exact ⟨ga, gb, C47, C50, rfl, rfl, hne, Lib.hid ⟨A2.out, B2.out, F2.out, G2.out, BEL.out.trans (hHeld.2.mono BEL.out.size), Nat.le_trans BEL.out.size hszga, Nat.le_trans BEL.out.size hszgb⟩⟩
        · go_simp
          have hsz := hHeld.2.size
          have NW := Whole.new x7 65 Try.zeroCells65
          have hb : Below x7.heap.size x7 (x7.alloc (.cells Try.zeroCells65 65)) := (Below.refl _ _).alloc (Nat.le_refl _) _
          have F47_10 := Lib.hid (F47_7.out.below hb)
          have A_10 := Lib.hid (A_7.out.only (Only.of_below hb Nob) (fun h => h))
          have hlt10 := A_7.out.lt
          have B_10 := Lib.hid NW
          clear NW
          refine hK.out _ _ ?_ (fun hHeld2 => ?_)
          · exact ⟨hHeld.1.only (Only.of_below hb Nob) (fun h => h), hHeld.2.trans (hb.mono hHeld.2.size)⟩
          clear hK K hHeld
          have hHeld := hHeld2; clear hHeld2
          try simp only [Act.put, List.setIfInBounds_toArray, List.set_cons_zero, List.set_cons_succ]
          clear hb
          generalize x7.alloc (.cells Try.zeroCells65 65) = x10 at *
          obtain ⟨gb, hgb⟩ : ∃ g, x7.heap.size = g := ⟨_, rfl⟩
          rw [hgb] at B_10 hsz ⊢
          have hszgb := hsz
          have hne : ga ≠ gb := by omega
          clear hgb
          clear hsz
          refine wpAnyH_ready (rs := [3]) (by kernel_rfl) (by simp) ?_
          refine (AllReadyH.cons (o := ⟨some 27, _, _, _, _, _⟩) rfl (fun K hK => ?_) AllReadyH.nil)
          · go_simp
            have hsz := hHeld.2.size
            refine (CD.out _).mono ?_
            rintro e x11 hres
            obtain ⟨C50, rfl, hf50, hb⟩ := dynRaw_of hres
            have hv50 := hf50.v
            have HV50_11 := Lib.hid hv50
            have F47_11 := Lib.hid (F47_10.out.below hb)
            have A_11 := Lib.hid (A_10.out.only (Only.of_below hb Nob) (fun h => h))
            have B_11 := Lib.hid (B_10.out.only (Only.of_below hb Nob) (fun h => h))
            have F50_11 := Lib.hid hf50
            refine hK.out _ _ ?_ (fun hHeld2 => ?_)
            · exact ⟨hHeld.1.only (Only.of_below hb Nob) (fun h => h), hHeld.2.trans (hb.mono hHeld.2.size)⟩
            clear hK K hHeld
            have hHeld := hHeld2; clear hHeld2
            try simp only [Act.put, List.setIfInBounds_toArray, List.set_cons_zero, List.set_cons_succ]
            clear hb hres hv50 hf50
            clear hsz
            have hna : ga ≠ g9 := A_11.out.ne hHeld.1 (by decide)
            have hnb : gb ≠ g9 := B_11.out.ne hHeld.1 (by decide)
            refine wpAnyH_ready (rs := [6]) (by kernel_rfl) (by simp) ?_
            refine AllReadyH.cons (o := ⟨none, _, _, _, _, _⟩) rfl (fun K hK => ?_) AllReadyH.nil
            refine step_store_row _ rfl 65 (.tmp 11) (.tmp 25) rfl ga C47 rfl rfl 65 Try.zeroCells65 A_11.out HV47_1.out.2.2 (by rw [hzs.out, HV47_1.out.1]) HV47_1.out.2.1 ?_
            refine hK.out _ _ ?_ (fun hHeld2 => ?_)
            · exact ⟨hHeld.1.setRow_far _ (Ne.symm hna), below_setRow hHeld.2 _ hszga⟩
            clear hK K hHeld
            have hHeld := hHeld2; clear hHeld2
            try simp only [Act.put, List.setIfInBounds_toArray, List.set_cons_zero, List.set_cons_succ]
            have A1 := Lib.hid (A_11.out.setRow C47)
            have B1 := Lib.hid (Whole.setRow_far B_11.out C47 (Ne.symm hne))
            have F1 := Lib.hid (F47_11.out.blk A_11.out (only_setRow _ _ C47)); have G1 := Lib.hid (F50_11.out.blk A_11.out (only_setRow _ _ C47))
            refine wpAnyH_ready (rs := [7]) (by kernel_rfl) (by simp) ?_
            refine AllReadyH.cons (o := ⟨none, _, _, _, _, _⟩) rfl (fun K hK => ?_) AllReadyH.nil
            refine step_store_row _ rfl 65 (.tmp 12) (.tmp 27) rfl gb C50 rfl rfl 65 Try.zeroCells65 B1.out HV50_11.out.2.2 (by rw [hzs.out, HV50_11.out.1]) HV50_11.out.2.1 ?_
            refine hK.out _ _ ?_ (fun hHeld2 => ?_)
            · exact ⟨hHeld.1.setRow_far _ (Ne.symm hnb), below_setRow hHeld.2 _ hszgb⟩
            clear hK K hHeld
            have hHeld := hHeld2; clear hHeld2
            try simp only [Act.put, List.setIfInBounds_toArray, List.set_cons_zero, List.set_cons_succ]
            have A2 := Lib.hid (Whole.setRow_far A1.out C50 hne)
            have B2 := Lib.hid (B1.out.setRow C50)
            have F2 := Lib.hid (F1.out.blk B1.out (only_setRow _ _ C50)); have G2 := Lib.hid (G1.out.blk B1.out (only_setRow _ _ C50))
            refine wpAnyH_done (by kernel_rfl) ?_ _
            go_wp2_with fail
            go_meet
            case rel => exact ⟨ga, gb, C47, C50, rfl, rfl, hne, Lib.hid ⟨A2.out, B2.out, F2.out, G2.out, BEL.out.trans (hHeld.2.mono BEL.out.size), Nat.le_trans BEL.out.size hszga, Nat.le_trans BEL.out.size hszgb⟩⟩
      · go_simp
        have hsz := hHeld.2.size
        have NW := Whole.new x1 65 Try.zeroCells65
        have hb : Below x1.heap.size x1 (x1.alloc (.cells Try.zeroCells65 65)) := (Below.refl _ _).alloc (Nat.le_refl _) _
        have F47_12 := Lib.hid (F47_1.out.below hb)
        have B_12 := Lib.hid NW
        clear NW
        refine hK.out _ _ ?_ (fun hHeld2 => ?_)
        · exact ⟨hHeld.1.only (Only.of_below hb Nob) (fun h => h), hHeld.2.trans (hb.mono hHeld.2.size)⟩
        clear hK K hHeld
        have hHeld := hHeld2; clear hHeld2
        try simp only [Act.put, List.setIfInBounds_toArray, List.set_cons_zero, List.set_cons_succ]
        clear hb
        generalize x1.alloc (.cells Try.zeroCells65 65) = x12 at *
        obtain ⟨gb, hgb⟩ : ∃ g, x1.heap.size = g := ⟨_, rfl⟩
        rw [hgb] at B_12 hsz ⊢
        have hszgb := hsz
        clear hgb
        clear hsz
        refine wpAnyH_ready (rs := [3, 4]) (by kernel_rfl) (by simp) ?_
        refine (AllReadyH.cons (o := ⟨some 27, _, _, _, _, _⟩) rfl (fun K hK => ?_) (AllReadyH.cons (o := ⟨some 11, _, _, _, _, _⟩) rfl (fun K hK => ?_) AllReadyH.nil))
        · go_simp
          have hsz := hHeld.2.size
          refine (CD.out _).mono ?_
          rintro e x13 hres
          obtain ⟨C50, rfl, hf50, hb⟩ := dynRaw_of hres
          have hv50 := hf50.v
          have HV50_13 := Lib.hid hv50
          have F47_13 := Lib.hid (F47_12.out.below hb)
          have B_13 := Lib.hid (B_12.out.only (Only.of_below hb Nob) (fun h => h))
          have F50_13 := Lib.hid hf50
          refine hK.out _ _ ?_ (fun hHeld2 => ?_)
          · exact ⟨hHeld.1.only (Only.of_below hb Nob) (fun h => h), hHeld.2.trans (hb.mono hHeld.2.size)⟩
          clear hK K hHeld
          have hHeld := hHeld2; clear hHeld2
          try simp only [Act.put, List.setIfInBounds_toArray, List.set_cons_zero, List.set_cons_succ]
          clear hb hres hv50 hf50
          clear hsz
          refine wpAnyH_ready (rs := [4]) (by kernel_rfl) (by simp) ?_
          refine (AllReadyH.cons (o := ⟨some 11, _, _, _, _, _⟩) rfl (fun K hK => ?_) AllReadyH.nil)
          · go_simp
            have hsz := hHeld.2.size
            have NW := Whole.new x13 65 Try.zeroCells65
            have hb : Below x13.heap.size x13 (x13.alloc (.cells Try.zeroCells65 65)) := (Below.refl _ _).alloc (Nat.le_refl _) _
            have F47_14 := Lib.hid (F47_13.out.below hb)
            have F50_14 := Lib.hid (F50_13.out.below hb)
            have B_14 := Lib.hid (B_13.out.only (Only.of_below hb Nob) (fun h => h))
            have hlt14 := B_13.out.lt
            have A_14 := Lib.hid NW
            clear NW
            refine hK.out _ _ ?_ (fun hHeld2 => ?_)
            · exact ⟨hHeld.1.only (Only.of_below hb Nob) (fun h => h), hHeld.2.trans (hb.mono hHeld.2.size)⟩
            clear hK K hHeld
            have hHeld := hHeld2; clear hHeld2
            try simp only [Act.put, List.setIfInBounds_toArray, List.set_cons_zero, List.set_cons_succ]
            clear hb
            generalize x13.alloc (.cells Try.zeroCells65 65) = x14 at *
            obtain ⟨ga, hga⟩ : ∃ g, x13.heap.size = g := ⟨_, rfl⟩
            rw [hga] at A_14 hsz ⊢
            have hszga := hsz
            have hne : ga ≠ gb := by omega
            clear hga
            clear hsz
            have hna : ga ≠ g9 := A_14.out.ne hHeld.1 (by decide)
            have hnb : gb ≠ g9 := B_14.out.ne hHeld.1 (by decide)
            refine wpAnyH_ready (rs := [6]) (by kernel_rfl) (by simp) ?_
            refine AllReadyH.cons (o := ⟨none, _, _, _, _, _⟩) rfl (fun K hK => ?_) AllReadyH.nil
            refine step_store_row _ rfl 65 (.tmp 11) (.tmp 25) rfl ga C47 rfl rfl 65 Try.zeroCells65 A_14.out HV47_1.out.2.2 (by rw [hzs.out, HV47_1.out.1]) HV47_1.out.2.1 ?_
            refine hK.out _ _ ?_ (fun hHeld2 => ?_)
            · exact ⟨hHeld.1.setRow_far _ (Ne.symm hna), below_setRow hHeld.2 _ hszga⟩
            clear hK K hHeld
            have hHeld := hHeld2; clear hHeld2
            try simp only [Act.put, List.setIfInBounds_toArray, List.set_cons_zero, List.set_cons_succ]
            have A1 := Lib.hid (A_14.out.setRow C47)
            have B1 := Lib.hid (Whole.setRow_far B_14.out C47 (Ne.symm hne))
            have F1 := Lib.hid (F47_14.out.blk A_14.out (only_setRow _ _ C47)); have G1 := Lib.hid (F50_14.out.blk A_14.out (only_setRow _ _ C47))
            refine wpAnyH_ready (rs := [7]) (by kernel_rfl) (by simp) ?_
            refine AllReadyH.cons (o := ⟨none, _, _, _, _, _⟩) rfl (fun K hK => ?_) AllReadyH.nil
            refine step_store_row _ rfl 65 (.tmp 12) (.tmp 27) rfl gb C50 rfl rfl 65 Try.zeroCells65 B1.out HV50_13.out.2.2 (by rw [hzs.out, HV50_13.out.1]) HV50_13.out.2.1 ?_
            refine hK.out _ _ ?_ (fun hHeld2 => ?_)
            · exact ⟨hHeld.1.setRow_far _ (Ne.symm hnb), below_setRow hHeld.2 _ hszgb⟩
            clear hK K hHeld
            have hHeld := hHeld2; clear hHeld2
            try simp only [Act.put, List.setIfInBounds_toArray, List.set_cons_zero, List.set_cons_succ]
            have A2 := Lib.hid (Whole.setRow_far A1.out C50 hne)
            have B2 := Lib.hid (B1.out.setRow C50)
            have F2 := Lib.hid (F1.out.blk B1.out (only_setRow _ _ C50)); have G2 := Lib.hid (G1.out.blk B1.out (only_setRow _ _ C50))
            refine wpAnyH_done (by kernel_rfl) ?_ _
            go_wp2_with fail
            go_meet
            case rel => exact ⟨ga, gb, C47, C50, rfl, rfl, hne, Lib.hid ⟨A2.out, B2.out, F2.out, G2.out, BEL.out.trans (hHeld.2.mono BEL.out.size), Nat.le_trans BEL.out.size hszga, Nat.le_trans BEL.out.size hszgb⟩⟩
        · go_simp
          have hsz := hHeld.2.size
          have NW := Whole.new x12 65 Try.zeroCells65
          have hb : Below x12.heap.size x12 (x12.alloc (.cells Try.zeroCells65 65)) := (Below.refl _ _).alloc (Nat.le_refl _) _
          have F47_15 := Lib.hid (F47_12.out.below hb)
          have B_15 := Lib.hid (B_12.out.only (Only.of_below hb Nob) (fun h => h))
          have hlt15 := B_12.out.lt
          have A_15 := Lib.hid NW
          clear NW
          refine hK.out _ _ ?_ (fun hHeld2 => ?_)
          · exact ⟨hHeld.1.only (Only.of_below hb Nob) (fun h => h), hHeld.2.trans (hb.mono hHeld.2.size)⟩
          clear hK K hHeld
          have hHeld := hHeld2; clear hHeld2
          try simp only [Act.put, List.setIfInBounds_toArray, List.set_cons_zero, List.set_cons_succ]
          clear hb
          generalize x12.alloc (.cells Try.zeroCells65 65) = x15 at *
          obtain ⟨ga, hga⟩ : ∃ g, x12.heap.size = g := ⟨_, rfl⟩
          rw [hga] at A_15 hsz ⊢
          have hszga := hsz
          have hne : ga ≠ gb := by omega
          clear hga
          clear hsz
          refine wpAnyH_ready (rs := [3]) (by kernel_rfl) (by simp) ?_
          refine (AllReadyH.cons (o := ⟨some 27, _, _, _, _, _⟩) rfl (fun K hK => ?_) AllReadyH.nil)
          · go_simp
            have hsz := hHeld.2.size
            refine (CD.out _).mono ?_
            rintro e x16 hres
            obtain ⟨C50, rfl, hf50, hb⟩ := dynRaw_of hres
            have hv50 := hf50.v
            have HV50_16 := Lib.hid hv50
            have F47_16 := Lib.hid (F47_15.out.below hb)
            have A_16 := Lib.hid (A_15.out.only (Only.of_below hb Nob) (fun h => h))
            have B_16 := Lib.hid (B_15.out.only (Only.of_below hb Nob) (fun h => h))
            have F50_16 := Lib.hid hf50
            refine hK.out _ _ ?_ (fun hHeld2 => ?_)
            · exact ⟨hHeld.1.only (Only.of_below hb Nob) (fun h => h), hHeld.2.trans (hb.mono hHeld.2.size)⟩
            clear hK K hHeld
            have hHeld := hHeld2; clear hHeld2
            try simp only [Act.put, List.setIfInBounds_toArray, List.set_cons_zero, List.set_cons_succ]
            clear hb hres hv50 hf50
            clear hsz
            have hna : ga ≠ g9 := A_16.out.ne hHeld.1 (by decide)
            have hnb : gb ≠ g9 := B_16.out.ne hHeld.1 (by decide)
            refine wpAnyH_ready (rs := [6]) (by kernel_rfl) (by simp) ?_
            refine AllReadyH.cons (o := ⟨none, _, _, _, _, _⟩) rfl (fun K hK => ?_) AllReadyH.nil
            refine step_store_row _ rfl 65 (.tmp 11) (.tmp 25) rfl ga C47 rfl rfl 65 Try.zeroCells65 A_16.out HV47_1.out.2.2 (by rw [hzs.out, HV47_1.out.1]) HV47_1.out.2.1 ?_
            refine hK.out _ _ ?_ (fun hHeld2 => ?_)
            · exact ⟨hHeld.1.setRow_far _ (Ne.symm hna), below_setRow hHeld.2 _ hszga⟩
            clear hK K hHeld
            have hHeld := hHeld2; clear hHeld2
            try simp only [Act.put, List.setIfInBounds_toArray, List.set_cons_zero, List.set_cons_succ]
            have A1 := Lib.hid (A_16.out.setRow C47)
            have B1 := Lib.hid (Whole.setRow_far B_16.out C47 (Ne.symm hne))
            have F1 := Lib.hid (F47_16.out.blk A_16.out (only_setRow _ _ C47)); have G1 := Lib.hid (F50_16.out.blk A_16.out (only_setRow _ _ C47))
            refine wpAnyH_ready (rs := [7]) (by kernel_rfl) (by simp) ?_
            refine AllReadyH.cons (o := ⟨none, _, _, _, _, _⟩) rfl (fun K hK => ?_) AllReadyH.nil
            refine step_store_row _ rfl 65 (.tmp 12) (.tmp 27) rfl gb C50 rfl rfl 65 Try.zeroCells65 B1.out HV50_16.out.2.2 (by rw [hzs.out, HV50_16.out.1]) HV50_16.out.2.1 ?_
            refine hK.out _ _ ?_ (fun hHeld2 => ?_)
            · exact ⟨hHeld.1.setRow_far _ (Ne.symm hnb), below_setRow hHeld.2 _ hszgb⟩
            clear hK K hHeld
            have hHeld := hHeld2; clear hHeld2
            try simp only [Act.put, List.setIfInBounds_toArray, List.set_cons_zero, List.set_cons_succ]
            have A2 := Lib.hid (Whole.setRow_far A1.out C50 hne)
            have B2 := Lib.hid (B1.out.setRow C50)
            have F2 := Lib.hid (F1.out.blk B1.out (only_setRow _ _ C50)); have G2 := Lib.hid (G1.out.blk B1.out (only_setRow _ _ C50))
            refine wpAnyH_done (by kernel_rfl) ?_ _
            go_wp2_with fail
            go_meet
            case rel => exact ⟨ga, gb, C47, C50, rfl, rfl, hne, Lib.hid ⟨A2.out, B2.out, F2.out, G2.out, BEL.out.trans (hHeld.2.mono BEL.out.size), Nat.le_trans BEL.out.size hszga, Nat.le_trans BEL.out.size hszgb⟩⟩
    · go_simp
      have hsz := hHeld.2.size
      have NW := Whole.new wd 65 Try.zeroCells65
      have hb : Below wd.heap.size wd (wd.alloc (.cells Try.zeroCells65 65)) := (Below.refl _ _).alloc (Nat.le_refl _) _
      have A_17 := Lib.hid NW
      clear NW
      refine hK.out _ _ ?_ (fun hHeld2 => ?_)
      · exact ⟨hHeld.1.only (Only.of_below hb Nob) (fun h => h), hHeld.2.trans (hb.mono hHeld.2.size)⟩
      clear hK K hHeld
      have hHeld := hHeld2; clear hHeld2
      try simp only [Act.put, List.setIfInBounds_toArray, List.set_cons_zero, List.set_cons_succ]
      clear hb
      generalize wd.alloc (.cells Try.zeroCells65 65) = x17 at *
      obtain ⟨ga, hga⟩ : ∃ g, wd.heap.size = g := ⟨_, rfl⟩
      rw [hga] at A_17 hsz ⊢
      have hszga := hsz
      clear hga
      clear hsz
      refine wpAnyH_ready (rs := [1, 5]) (by kernel_rfl) (by simp) ?_
      refine (AllReadyH.cons (o := ⟨some 25, _, _, _, _, _⟩) rfl (fun K hK => ?_) (AllReadyH.cons (o := ⟨some 12, _, _, _, _, _⟩) rfl (fun K hK => ?_) AllReadyH.nil))
      · go_simp
        have hsz := hHeld.2.size
        refine (CF.out _).mono ?_
        rintro e x18 hres
        obtain ⟨C47, rfl, hf47, hb⟩ := fixRaw_of hres
        have hv47 := hf47.v
        have HV47_18 := Lib.hid hv47
        have A_18 := Lib.hid (A_17.out.only (Only.of_below hb Nob) (fun h => h))
        have F47_18 := Lib.hid hf47
        refine hK.out _ _ ?_ (fun hHeld2 => ?_)
        · exact ⟨hHeld.1.only (Only.of_below hb Nob) (fun h => h), hHeld.2.trans (hb.mono hHeld.2.size)⟩
        clear hK K hHeld
        have hHeld := hHeld2; clear hHeld2
        try simp only [Act.put, List.setIfInBounds_toArray, List.set_cons_zero, List.set_cons_succ]
        clear hb hres hv47 hf47
        clear hsz
        refine wpAnyH_ready (rs := [3, 5]) (by kernel_rfl) (by simp) ?_
        refine (AllReadyH.cons (o := ⟨some 27, _, _, _, _, _⟩) rfl (fun K hK => ?_) (AllReadyH.cons (o := ⟨some 12, _, _, _, _, _⟩) rfl (fun K hK => ?_) AllReadyH.nil))
        · go_simp
          have hsz := hHeld.2.size
          refine (CD.out _).mono ?_
          rintro e x19 hres
          obtain ⟨C50, rfl, hf50, hb⟩ := dynRaw_of hres
          have hv50 := hf50.v
          have HV50_19 := Lib.hid hv50
          have F47_19 := Lib.hid (F47_18.out.below hb)
          have A_19 := Lib.hid (A_18.out.only (Only.of_below hb Nob) (fun h => h))
          have F50_19 := Lib.hid hf50
          refine hK.out _ _ ?_ (fun hHeld2 => ?_)
          · exact ⟨hHeld.1.only (Only.of_below hb Nob) (fun h => h), hHeld.2.trans (hb.mono hHeld.2.size)⟩
          clear hK K hHeld
          have hHeld := hHeld2; clear hHeld2
          try simp only [Act.put, List.setIfInBounds_toArray, List.set_cons_zero, List.set_cons_succ]
          clear hb hres hv50 hf50
          clear hsz
          refine wpAnyH_ready (rs := [5]) (by kernel_rfl) (by simp) ?_
          refine (AllReadyH.cons (o := ⟨some 12, _, _, _, _, _⟩) rfl (fun K hK => ?_) AllReadyH.nil)
          · go_simp
            have hsz := hHeld.2.size
            have NW := Whole.new x19 65 Try.zeroCells65
            have hb : Below x19.heap.size x19 (x19.alloc (.cells Try.zeroCells65 65)) := (Below.refl _ _).alloc (Nat.le_refl _) _
            have F47_20 := Lib.hid (F47_19.out.below hb)
            have F50_20 := Lib.hid (F50_19.out.below hb)
            have A_20 := Lib.hid (A_19.out.only (Only.of_below hb Nob) (fun h => h))
            have hlt20 := A_19.out.lt
            have B_20 := Lib.hid NW
            clear NW
            refine hK.out _ _ ?_ (fun hHeld2 => ?_)
            · exact ⟨hHeld.1.only (Only.of_below hb Nob) (fun h => h), hHeld.2.trans (hb.mono hHeld.2.size)⟩
            clear hK K hHeld
            have hHeld := hHeld2; clear hHeld2
            try simp only [Act.put, List.setIfInBounds_toArray, List.set_cons_zero, List.set_cons_succ]
            clear hb
            generalize x19.alloc (.cells Try.zeroCells65 65) = x20 at *
            obtain ⟨gb, hgb⟩ : ∃ g, x19.heap.size = g := ⟨_, rfl⟩
            rw [hgb] at B_20 hsz ⊢
            have hszgb := hsz
            have hne : ga ≠ gb := by omega
            clear hgb
            clear hsz
            have hna : ga ≠ g9 := A_20.out.ne hHeld.1 (by decide)
            have hnb : gb ≠ g9 := B_20.out.ne hHeld.1 (by decide)
            refine wpAnyH_ready (rs := [6]) (by kernel_rfl) (by simp) ?_
            refine AllReadyH.cons (o := ⟨none, _, _, _, _, _⟩) rfl (fun K hK => ?_) AllReadyH.nil
            refine step_store_row _ rfl 65 (.tmp 11) (.tmp 25) rfl ga C47 rfl rfl 65 Try.zeroCells65 A_20.out HV47_18.out.2.2 (by rw [hzs.out, HV47_18.out.1]) HV47_18.out.2.1 ?_
            refine hK.out _ _ ?_ (fun hHeld2 => ?_)
            · exact ⟨hHeld.1.setRow_far _ (Ne.symm hna), below_setRow hHeld.2 _ hszga⟩
            clear hK K hHeld
            have hHeld := hHeld2; clear hHeld2
            try simp only [Act.put, List.setIfInBounds_toArray, List.set_cons_zero, List.set_cons_succ]
            have A1 := Lib.hid (A_20.out.setRow C47)
            have B1 := Lib.hid (Whole.setRow_far B_20.out C47 (Ne.symm hne))
            have F1 := Lib.hid (F47_20.out.blk A_20.out (only_setRow _ _ C47)); have G1 := Lib.hid (F50_20.out.blk A_20.out (only_setRow _ _ C47))
            refine wpAnyH_ready (rs := [7]) (by kernel_rfl) (by simp) ?_
            refine AllReadyH.cons (o := ⟨none, _, _, _, _, _⟩) rfl (fun K hK => ?_) AllReadyH.nil
            refine step_store_row _ rfl 65 (.tmp 12) (.tmp 27) rfl gb C50 rfl rfl 65 Try.zeroCells65 B1.out HV50_19.out.2.2 (by rw [hzs.out, HV50_19.out.1]) HV50_19.out.2.1 ?_
            refine hK.out _ _ ?_ (fun hHeld2 => ?_)
            · exact ⟨hHeld.1.setRow_far _ (Ne.symm hnb), below_setRow hHeld.2 _ hszgb⟩
            clear hK K hHeld
            have hHeld := hHeld2; clear hHeld2
            try simp only [Act.put, List.setIfInBounds_toArray, List.set_cons_zero, List.set_cons_succ]
            have A2 := Lib.hid (Whole.setRow_far A1.out C50 hne)
            have B2 := Lib.hid (B1.out.setRow C50)
            have F2 := Lib.hid (F1.out.blk B1.out (only_setRow _ _ C50)); have G2 := Lib.hid (G1.out.blk B1.out (only_setRow _ _ C50))
            refine wpAnyH_done (by kernel_rfl) ?_ _
            go_wp2_with fail
            go_meet
            case rel => exact ⟨ga, gb, C47, C50, rfl, rfl, hne, Lib.hid ⟨A2.out, B2.out, F2.out, G2.out, BEL.out.trans (hHeld.2.mono BEL.out.size), Nat.le_trans BEL.out.size hszga, Nat.le_trans BEL.out.size hszgb⟩⟩
        · go_simp
          have hsz := hHeld.2.size
          have NW := Whole.new x18 65 Try.zeroCells65
          have hb : Below x18.heap.size x18 (x18.alloc (.cells Try.zeroCells65 65)) := (Below.refl _ _).alloc (Nat.le_refl _) _
          have F47_21 := Lib.hid (F47_18.out.below hb)
          have A_21 := Lib.hid (A_18.out.only (Only.of_below hb Nob) (fun h => h))
          have hlt21 := A_18.out.lt
          have B_21 := Lib.hid NW
          clear NW
          refine hK.out _ _ ?_ (fun hHeld2 => ?_)
          · exact ⟨hHeld.1.only (Only.of_below hb Nob) (fun h => h), hHeld.2.trans (hb.mono hHeld.2.size)⟩
          clear hK K hHeld
          have hHeld := hHeld2; clear hHeld2
          try simp only [Act.put, List.setIfInBounds_toArray, List.set_cons_zero, List.set_cons_succ]
          clear hb
          generalize x18.alloc (.cells Try.zeroCells65 65) = x21 at *
          obtain ⟨gb, hgb⟩ : ∃ g, x18.heap.size = g := ⟨_, rfl⟩
          rw [hgb] at B_21 hsz ⊢
          have hszgb := hsz
          have hne : ga ≠ gb := by omega
          clear hgb
          clear hsz
          refine wpAnyH_ready (rs := [3]) (by kernel_rfl) (by simp) ?_
          refine (AllReadyH.cons (o := ⟨some 27, _, _, _, _, _⟩) rfl (fun K hK => ?_) AllReadyH.nil)
          · go_simp
            have hsz := hHeld.2.size
            refine (CD.out _).mono ?_
            rintro e x22 hres
            obtain ⟨C50, rfl, hf50, hb⟩ := dynRaw_of hres
            have hv50 := hf50.v
            have HV50_22 := Lib.hid hv50
            have F47_22 := Lib.hid (F47_21.out.below hb)
            have A_22 := Lib.hid (A_21.out.only (Only.of_below hb Nob) (fun h => h))
            have B_22 := Lib.hid (B_21.out.only (Only.of_below hb Nob) (fun h => h))
            have F50_22 := Lib.hid hf50
            refine hK.out _ _ ?_ (fun hHeld2 => ?_)
            · exact ⟨hHeld.1.only (Only.of_below hb Nob) (fun h => h), hHeld.2.trans (hb.mono hHeld.2.size)⟩
            clear hK K hHeld
            have hHeld := hHeld2; clear hHeld2
            try simp only [Act.put, List.setIfInBounds_toArray, List.set_cons_zero, List.set_cons_succ]
            clear hb hres hv50 hf50
            clear hsz
            have hna : ga ≠ g9 := A_22.out.ne hHeld.1 (by decide)
            have hnb : gb ≠ g9 := B_22.out.ne hHeld.1 (by decide)
            refine wpAnyH_ready (rs := [6]) (by kernel_rfl) (by simp) ?_
            refine AllReadyH.cons (o := ⟨none, _, _, _, _, _⟩) rfl (fun K hK => ?_) AllReadyH.nil
            refine step_store_row _ rfl 65 (.tmp 11) (.tmp 25) rfl ga C47 rfl rfl 65 Try.zeroCells65 A_22.out HV47_18.out.2.2 (by rw [hzs.out, HV47_18.out.1]) HV47_18.out.2.1 ?_
            refine hK.out _ _ ?_ (fun hHeld2 => ?_)
            · exact ⟨hHeld.1.setRow_far _ (Ne.symm hna), below_setRow hHeld.2 _ hszga⟩
            clear hK K hHeld
            have hHeld := hHeld2; clear hHeld2
            try simp only [Act.put, List.setIfInBounds_toArray, List.set_cons_zero, List.set_cons_succ]
            have A1 := Lib.hid (A_22.out.setRow C47)
            have B1 := Lib.hid (Whole.setRow_far B_22.out C47 (Ne.symm hne))
            have F1 := Lib.hid (F47_22.out.blk A_22.out (only_setRow _ _ C47)); have G1 := Lib.hid (F50_22.out.blk A_22.out (only_setRow _ _ C47))
            refine wpAnyH_ready (rs := [7]) (by kernel_rfl) (by simp) ?_
            refine AllReadyH.cons (o := ⟨none, _, _, _, _, _⟩) rfl (fun K hK => ?_) AllReadyH.nil
            refine step_store_row _ rfl 65 (.tmp 12) (.tmp 27) rfl gb C50 rfl rfl 65 Try.zeroCells65 B1.out HV50_22.out.2.2 (by rw [hzs.out, HV50_22.out.1]) HV50_22.out.2.1 ?_
            refine hK.out _ _ ?_ (fun hHeld2 => ?_)
            · exact ⟨hHeld.1.setRow_far _ (Ne.symm hnb), below_setRow hHeld.2 _ hszgb⟩
            clear hK K hHeld
            have hHeld := hHeld2; clear hHeld2
            try simp only [Act.put, List.setIfInBounds_toArray, List.set_cons_zero, List.set_cons_succ]
            have A2 := Lib.hid (Whole.setRow_far A1.out C50 hne)
            have B2 := Lib.hid (B1.out.setRow C50)
            have F2 := Lib.hid (F1.out.blk B1.out (only_setRow _ _ C50)); have G2 := Lib.hid (G1.out.blk B1.out (only_setRow _ _ C50))
            refine wpAnyH_done (by kernel_rfl) ?_ _
            go_wp2_with fail
            go_meet
            case rel => exact ⟨ga, gb, C47, C50, rfl, rfl, hne, Lib.hid ⟨A2.out, B2.out, F2.out, G2.out, BEL.out.trans (hHeld.2.mono BEL.out.size), Nat.le_trans BEL.out.size hszga, Nat.le_trans BEL.out.size hszgb⟩⟩
      · go_simp
        have hsz := hHeld.2.size
        have NW := Whole.new x17 65 Try.zeroCells65
        have hb : Below x17.heap.size x17 (x17.alloc (.cells Try.zeroCells65 65)) := (Below.refl _ _).alloc (Nat.le_refl _) _
        have A_23 := Lib.hid (A_17.out.only (Only.of_below hb Nob) (fun h => h))
        have hlt23 := A_17.out.lt
        have B_23 := Lib.hid NW
        clear NW
        refine hK.out _ _ ?_ (fun hHeld2 => ?_)
        · exact ⟨hHeld.1.only (Only.of_below hb Nob) (fun h => h), hHeld.2.trans (hb.mono hHeld.2.size)⟩
        clear hK K hHeld
        have hHeld := hHeld2; clear hHeld2
        try simp only [Act.put, List.setIfInBounds_toArray, List.set_cons_zero, List.set_cons_succ]
        clear hb
        generalize x17.alloc (.cells Try.zeroCells65 65) = x23 at *
        obtain ⟨gb, hgb⟩ : ∃ g, x17.heap.size = g := ⟨_, rfl⟩
        rw [hgb] at B_23 hsz ⊢
        have hszgb := hsz
        have hne : ga ≠ gb := by omega
        clear hgb
        clear hsz
        refine wpAnyH_ready (rs := [1]) (by kernel_rfl) (by simp) ?_
        refine (AllReadyH.cons (o := ⟨some 25, _, _, _, _, _⟩) rfl (fun K hK => ?_) AllReadyH.nil)
        · go_simp
          have hsz := hHeld.2.size
          refine (CF.out _).mono ?_
          rintro e x24 hres
          obtain ⟨C47, rfl, hf47, hb⟩ := fixRaw_of hres
          have hv47 := hf47.v
          have HV47_24 := Lib.hid hv47
          have A_24 := Lib.hid (A_23.out.only (Only.of_below hb Nob) (fun h => h))
          have B_24 := Lib.hid (B_23.out.only (Only.of_below hb Nob) (fun h => h))
          have F47_24 := Lib.hid hf47
          refine hK.out _ _ ?_ (fun hHeld2 => ?_)
          · exact ⟨hHeld.1.only (Only.of_below hb Nob) (fun h => h), hHeld.2.trans (hb.mono hHeld.2.size)⟩
          clear hK K hHeld
          have hHeld := hHeld2; clear hHeld2
          try simp only [Act.put, List.setIfInBounds_toArray, List.set_cons_zero, List.set_cons_succ]
          clear hb hres hv47 hf47
          clear hsz
          refine wpAnyH_ready (rs := [3]) (by kernel_rfl) (by simp) ?_
          refine (AllReadyH.cons (o := ⟨some 27, _, _, _, _, _⟩) rfl (fun K hK => ?_) AllReadyH.nil)
          · go_simp
            have hsz := hHeld.2.size
            refine (CD.out _).mono ?_
            rintro e x25 hres
            obtain ⟨C50, rfl, hf50, hb⟩ := dynRaw_of hres
            have hv50 := hf50.v
            have HV50_25 := Lib.hid hv50
            have F47_25 := Lib.hid (F47_24.out.below hb)
            have A_25 := Lib.hid (A_24.out.only (Only.of_below hb Nob) (fun h => h))
            have B_25 := Lib.hid (B_24.out.only (Only.of_below hb Nob) (fun h => h))
            have F50_25 := Lib.hid hf50
            refine hK.out _ _ ?_ (fun hHeld2 => ?_)
            · exact ⟨hHeld.1.only (Only.of_below hb Nob) (fun h => h), hHeld.2.trans (hb.mono hHeld.2.size)⟩
            clear hK K hHeld
            have hHeld := hHeld2; clear hHeld2
            try simp only [Act.put, List.setIfInBounds_toArray, List.set_cons_zero, List.set_cons_succ]
            clear hb hres hv50 hf50
            clear hsz
            have hna : ga ≠ g9 := A_25.out.ne hHeld.1 (by decide)
            have hnb : gb ≠ g9 := B_25.out.ne hHeld.1 (by decide)
            refine wpAnyH_ready (rs := [6]) (by kernel_rfl) (by simp) ?_
            refine AllReadyH.cons (o := ⟨none, _, _, _, _, _⟩) rfl (fun K hK => ?_) AllReadyH.nil
            refine step_store_row _ rfl 65 (.tmp 11) (.tmp 25) rfl ga C47 rfl rfl 65 Try.zeroCells65 A_25.out HV47_24.out.2.2 (by rw [hzs.out, HV47_24.out.1]) HV47_24.out.2.1 ?_
            refine hK.out _ _ ?_ (fun hHeld2 => ?_)
            · exact ⟨hHeld.1.setRow_far _ (Ne.symm hna), below_setRow hHeld.2 _ hszga⟩
            clear hK K hHeld
            have hHeld := hHeld2; clear hHeld2
            try simp only [Act.put, List.setIfInBounds_toArray, List.set_cons_zero, List.set_cons_succ]
            have A1 := Lib.hid (A_25.out.setRow C47)
            have B1 := Lib.hid (Whole.setRow_far B_25.out C47 (Ne.symm hne))
            have F1 := Lib.hid (F47_25.out.blk A_25.out (only_setRow _ _ C47)); have G1 := Lib.hid (F50_25.out.blk A_25.out (only_setRow _ _ C47))
            refine wpAnyH_ready (rs := [7]) (by kernel_rfl) (by simp) ?_
            refine AllReadyH.cons (o := ⟨none, _, _, _, _, _⟩) rfl (fun K hK => ?_) AllReadyH.nil
            refine step_store_row _ rfl 65 (.tmp 12) (.tmp 27) rfl gb C50 rfl rfl 65 Try.zeroCells65 B1.out HV50_25.out.2.2 (by rw [hzs.out, HV50_25.out.1]) HV50_25.out.2.1 ?_
            refine hK.out _ _ ?_ (fun hHeld2 => ?_)
            · exact ⟨hHeld.1.setRow_far _ (Ne.symm hnb), below_setRow hHeld.2 _ hszgb⟩
            clear hK K hHeld
            have hHeld := hHeld2; clear hHeld2
            try simp only [Act.put, List.setIfInBounds_toArray, List.set_cons_zero, List.set_cons_succ]
            have A2 := Lib.hid (Whole.setRow_far A1.out C50 hne)
            have B2 := Lib.hid (B1.out.setRow C50)
            have F2 := Lib.hid (F1.out.blk B1.out (only_setRow _ _ C50)); have G2 := Lib.hid (G1.out.blk B1.out (only_setRow _ _ C50))
            refine wpAnyH_done (by kernel_rfl) ?_ _
            go_wp2_with fail
            go_meet
            case rel => exact ⟨ga, gb, C47, C50, rfl, rfl, hne, Lib.hid ⟨A2.out, B2.out, F2.out, G2.out, BEL.out.trans (hHeld.2.mono BEL.out.size), Nat.le_trans BEL.out.size hszga, Nat.le_trans BEL.out.size hszgb⟩⟩
    · go_simp
      have hsz := hHeld.2.size
      have NW := Whole.new wd 65 Try.zeroCells65
      have hb : Below wd.heap.size wd (wd.alloc (.cells Try.zeroCells65 65)) := (Below.refl _ _).alloc (Nat.le_refl _) _
      have B_26 := Lib.hid NW
      clear NW
      refine hK.out _ _ ?_ (fun hHeld2 => ?_)
      · exact ⟨hHeld.1.only (Only.of_below hb Nob) (fun h => h), hHeld.2.trans (hb.mono hHeld.2.size)⟩
      clear hK K hHeld
      have hHeld := hHeld2; clear hHeld2
      try simp only [Act.put, List.setIfInBounds_toArray, List.set_cons_zero, List.set_cons_succ]
      clear hb
      generalize wd.alloc (.cells Try.zeroCells65 65) = x26 at *
      obtain ⟨gb, hgb⟩ : ∃ g, wd.heap.size = g := ⟨_, rfl⟩
      rw [hgb] at B_26 hsz ⊢
      have hszgb := hsz
      clear hgb
      clear hsz
      refine wpAnyH_ready (rs := [1, 4]) (by kernel_rfl) (by simp) ?_
      refine (AllReadyH.cons (o := ⟨some 25, _, _, _, _, _⟩) rfl (fun K hK => ?_) (AllReadyH.cons (o := ⟨some 11, _, _, _, _, _⟩) rfl (fun K hK => ?_) AllReadyH.nil))
      · go_simp
        have hsz := hHeld.2.size
        refine (CF.out _).mono ?_
        rintro e x27 hres
        obtain ⟨C47, rfl, hf47, hb⟩ := fixRaw_of hres
        have hv47 := hf47.v
        have HV47_27 := Lib.hid hv47
        have B_27 := Lib.hid (B_26.out.only (Only.of_below hb Nob) (fun h => h))
        have F47_27 := Lib.hid hf47
        refine hK.out _ _ ?_ (fun hHeld2 => ?_)
        · exact ⟨hHeld.1.only (Only.of_below hb Nob) (fun h => h), hHeld.2.trans (hb.mono hHeld.2.size)⟩
        clear hK K hHeld
        have hHeld := hHeld2; clear hHeld2
        try simp only [Act.put, List.setIfInBounds_toArray, List.set_cons_zero, List.set_cons_succ]
        clear hb hres hv47 hf47
        clear hsz
        refine wpAnyH_ready (rs := [3, 4]) (by kernel_rfl) (by simp) ?_
        refine (AllReadyH.cons (o := ⟨some 27, _, _, _, _, _⟩) rfl (fun K hK => ?_) (AllReadyH.cons (o := ⟨some 11, _, _, _, _, _⟩) rfl (fun K hK => ?_) AllReadyH.nil))
        · go_simp
          have hsz := hHeld.2.size
          refine (CD.out _).mono ?_
          rintro e x28 hres
          obtain ⟨C50, rfl, hf50, hb⟩ := dynRaw_of hres
          have hv50 := hf50.v
          have HV50_28 := Lib.hid hv50
          have F47_28 := Lib.hid (F47_27.out.below hb)
          have B_28 := Lib.hid (B_27.out.only (Only.of_below hb Nob) (fun h => h))
          have F50_28 := Lib.hid hf50
          refine hK.out _ _ ?_ (fun hHeld2 => ?_)
          · exact ⟨hHeld.1.only (Only.of_below hb Nob) (fun h => h), hHeld.2.trans (hb.mono hHeld.2.size)⟩
          clear hK K hHeld
          have hHeld := hHeld2; clear hHeld2
          try simp only [Act.put, List.setIfInBounds_toArray, List.set_cons_zero, List.set_cons_succ]
          clear hb hres hv50 hf50
          clear hsz
          refine wpAnyH_ready (rs := [4]) (by kernel_rfl) (by simp) ?_
          refine (AllReadyH.cons (o := ⟨some 11, _, _, _, _, _⟩) rfl (fun K hK => ?_) AllReadyH.nil)
          · go_simp
            have hsz := hHeld.2.size
            have NW := Whole.new x28 65 Try.zeroCells65
            have hb : Below x28.heap.size x28 (x28.alloc (.cells Try.zeroCells65 65)) := (Below.refl _ _).alloc (Nat.le_refl _) _
            have F47_29 := Lib.hid (F47_28.out.below hb)
            have F50_29 := Lib.hid (F50_28.out.below hb)
            have B_29 := Lib.hid (B_28.out.only (Only.of_below hb Nob) (fun h => h))
            have hlt29 := B_28.out.lt
            have A_29 := Lib.hid NW
            clear NW
            refine hK.out _ _ ?_ (fun hHeld2 => ?_)
            · exact ⟨hHeld.1.only (Only.of_below hb Nob) (fun h => h), hHeld.2.trans (hb.mono hHeld.2.size)⟩
            clear hK K hHeld
            have hHeld := hHeld2; clear hHeld2
            try simp only [Act.put, List.setIfInBounds_toArray, List.set_cons_zero, List.set_cons_succ]
            clear hb
            generalize x28.alloc (.cells Try.zeroCells65 65) = x29 at *
            obtain ⟨ga, hga⟩ : ∃ g, x28.heap.size = g := ⟨_, rfl⟩
            rw [hga] at A_29 hsz ⊢
            have hszga := hsz
            have hne : ga ≠ gb := by omega
            clear hga
            clear hsz
            have hna : ga ≠ g9 := A_29.out.ne hHeld.1 (by decide)
            have hnb : gb ≠ g9 := B_29.out.ne hHeld.1 (by decide)
            refine wpAnyH_ready (rs := [6]) (by kernel_rfl) (by simp) ?_
            refine AllReadyH.cons (o := ⟨none, _, _, _, _, _⟩) rfl (fun K hK => ?_) AllReadyH.nil
            refine step_store_row _ rfl 65 (.tmp 11) (.tmp 25) rfl ga C47 rfl rfl 65 Try.zeroCells65 A_29.out HV47_27.out.2.2 (by rw [hzs.out, HV47_27.out.1]) HV47_27.out.2.1 ?_
            refine hK.out _ _ ?_ (fun hHeld2 => ?_)
            · exact ⟨hHeld.1.setRow_far _ (Ne.symm hna), below_setRow hHeld.2 _ hszga⟩
            clear hK K hHeld
            have hHeld := hHeld2; clear hHeld2
            try simp only [Act.put, List.setIfInBounds_toArray, List.set_cons_zero, List.set_cons_succ]
            have A1 := Lib.hid (A_29.out.setRow C47)
            have B1 := Lib.hid (Whole.setRow_far B_29.out C47 (Ne.symm hne))
            have F1 := Lib.hid (F47_29.out.blk A_29.out (only_setRow _ _ C47)); have G1 := Lib.hid (F50_29.out.blk A_29.out (only_setRow _ _ C47))
            refine wpAnyH_ready (rs := [7]) (by kernel_rfl) (by simp) ?_
            refine AllReadyH.cons (o := ⟨none, _, _, _, _, _⟩) rfl (fun K hK => ?_) AllReadyH.nil
            refine step_store_row _ rfl 65 (.tmp 12) (.tmp 27) rfl gb C50 rfl rfl 65 Try.zeroCells65 B1.out HV50_28.out.2.2 (by rw [hzs.out, HV50_28.out.1]) HV50_28.out.2.1 ?_
            refine hK.out _ _ ?_ (fun hHeld2 => ?_)
            · exact ⟨hHeld.1.setRow_far _ (Ne.symm hnb), below_setRow hHeld.2 _ hszgb⟩
            clear hK K hHeld
            have hHeld := hHeld2; clear hHeld2
            try simp only [Act.put, List.setIfInBounds_toArray, List.set_cons_zero, List.set_cons_succ]
            have A2 := Lib.hid (Whole.setRow_far A1.out C50 hne)
            have B2 := Lib.hid (B1.out.setRow C50)
            have F2 := Lib.hid (F1.out.blk B1.out (only_setRow _ _ C50)); have G2 := Lib.hid (G1.out.blk B1.out (only_setRow _ _ C50))
            refine wpAnyH_done (by kernel_rfl) ?_ _
            go_wp2_with fail
            go_meet
            case rel => exact ⟨ga, gb, C47, C50, rfl, rfl, hne, Lib.hid ⟨A2.out, B2.out, F2.out, G2.out, BEL.out.trans (hHeld.2.mono BEL.out.size), Nat.le_trans BEL.out.size hszga, Nat.le_trans BEL.out.size hszgb⟩⟩
        · go_simp
          have hsz := hHeld.2.size
          have NW := Whole.new x27 65 Try.zeroCells65
          have hb : Below x27.heap.size x27 (x27.alloc (.cells Try.zeroCells65 65)) := (Below.refl _ _).alloc (Nat.le_refl _) _
          have F47_30 := Lib.hid (F47_27.out.below hb)
          have B_30 := Lib.hid (B_27.out.only (Only.of_below hb Nob) (fun h => h))
          have hlt30 := B_27.out.lt
          have A_30 := Lib.hid NW
          clear NW
          refine hK.out _ _ ?_ (fun hHeld2 => ?_)
          · exact ⟨hHeld.1.only (Only.of_below hb Nob) (fun h => h), hHeld.2.trans (hb.mono hHeld.2.size)⟩
          clear hK K hHeld
          have hHeld := hHeld2; clear hHeld2
          try simp only [Act.put, List.setIfInBounds_toArray, List.set_cons_zero, List.set_cons_succ]
          clear hb
          generalize x27.alloc (.cells Try.zeroCells65 65) = x30 at *
          obtain ⟨ga, hga⟩ : ∃ g, x27.heap.size = g := ⟨_, rfl⟩
          rw [hga] at A_30 hsz ⊢
          have hszga := hsz
          have hne : ga ≠ gb := by omega
          clear hga
          clear hsz
          refine wpAnyH_ready (rs := [3]) (by kernel_rfl) (by simp) ?_
          refine (AllReadyH.cons (o := ⟨some 27, _, _, _, _, _⟩) rfl (fun K hK => ?_) AllReadyH.nil)
          · go_simp
            have hsz := hHeld.2.size
            refine (CD.out _).mono ?_
            rintro e x31 hres
            obtain ⟨C50, rfl, hf50, hb⟩ := dynRaw_of hres
            have hv50 := hf50.v
            have HV50_31 := Lib.hid hv50
            have F47_31 := Lib.hid (F47_30.out.below hb)
            have A_31 := Lib.hid (A_30.out.only (Only.of_below hb Nob) (fun h => h))
            have B_31 := Lib.hid (B_30.out.only (Only.of_below hb Nob) (fun h => h))
            have F50_31 := Lib.hid hf50
            refine hK.out _ _ ?_ (fun hHeld2 => ?_)
            · exact ⟨hHeld.1.only (Only.of_below hb Nob) (fun h => h), hHeld.2.trans (hb.mono hHeld.2.size)⟩
            clear hK K hHeld
            have hHeld := hHeld2; clear hHeld2
            try simp only [Act.put, List.setIfInBounds_toArray, List.set_cons_zero, List.set_cons_succ]
            clear hb hres hv50 hf50
            clear hsz
            have hna : ga ≠ g9 := A_31.out.ne hHeld.1 (by decide)
            have hnb : gb ≠ g9 := B_31.out.ne hHeld.1 (by decide)
            refine wpAnyH_ready (rs := [6]) (by kernel_rfl) (by simp) ?_
            refine AllReadyH.cons (o := ⟨none, _, _, _, _, _⟩) rfl (fun K hK => ?_) AllReadyH.nil
            refine step_store_row _ rfl 65 (.tmp 11) (.tmp 25) rfl ga C47 rfl rfl 65 Try.zeroCells65 A_31.out HV47_27.out.2.2 (by rw [hzs.out, HV47_27.out.1]) HV47_27.out.2.1 ?_
            refine hK.out _ _ ?_ (fun hHeld2 => ?_)
            · exact ⟨hHeld.1.setRow_far _ (Ne.symm hna), below_setRow hHeld.2 _ hszga⟩
            clear hK K hHeld
            have hHeld := hHeld2; clear hHeld2
            try simp only [Act.put, List.setIfInBounds_toArray, List.set_cons_zero, List.set_cons_succ]
            have A1 := Lib.hid (A_31.out.setRow C47)
            have B1 := Lib.hid (Whole.setRow_far B_31.out C47 (Ne.symm hne))
            have F1 := Lib.hid (F47_31.out.blk A_31.out (only_setRow _ _ C47)); have G1 := Lib.hid (F50_31.out.blk A_31.out (only_setRow _ _ C47))
            refine wpAnyH_ready (rs := [7]) (by kernel_rfl) (by simp) ?_
            refine AllReadyH.cons (o := ⟨none, _, _, _, _, _⟩) rfl (fun K hK => ?_) AllReadyH.nil
            refine step_store_row _ rfl 65 (.tmp 12) (.tmp 27) rfl gb C50 rfl rfl 65 Try.zeroCells65 B1.out HV50_31.out.2.2 (by rw [hzs.out, HV50_31.out.1]) HV50_31.out.2.1 ?_
            refine hK.out _ _ ?_ (fun hHeld2 => ?_)
            · exact ⟨hHeld.1.setRow_far _ (Ne.symm hnb), below_setRow hHeld.2 _ hszgb⟩
            clear hK K hHeld
            have hHeld := hHeld2; clear hHeld2
            try simp only [Act.put, List.setIfInBounds_toArray, List.set_cons_zero, List.set_cons_succ]
            have A2 := Lib.hid (Whole.setRow_far A1.out C50 hne)
            have B2 := Lib.hid (B1.out.setRow C50)
            have F2 := Lib.hid (F1.out.blk B1.out (only_setRow _ _ C50)); have G2 := Lib.hid (G1.out.blk B1.out (only_setRow _ _ C50))
            refine wpAnyH_done (by kernel_rfl) ?_ _
            go_wp2_with fail
            go_meet
            case rel => exact ⟨ga, gb, C47, C50, rfl, rfl, hne, Lib.hid ⟨A2.out, B2.out, F2.out, G2.out, BEL.out.trans (hHeld.2.mono BEL.out.size), Nat.le_trans BEL.out.size hszga, Nat.le_trans BEL.out.size hszgb⟩⟩
      · go_simp
        have hsz := hHeld.2.size
        have NW := Whole.new x26 65 Try.zeroCells65
        have hb : Below x26.heap.size x26 (x26.alloc (.cells Try.zeroCells65 65)) := (Below.refl _ _).alloc (Nat.le_refl _) _
        have B_32 := Lib.hid (B_26.out.only (Only.of_below hb Nob) (fun h => h))
        have hlt32 := B_26.out.lt
        have A_32 := Lib.hid NW
        clear NW
        refine hK.out _ _ ?_ (fun hHeld2 => ?_)
        · exact ⟨hHeld.1.only (Only.of_below hb Nob) (fun h => h), hHeld.2.trans (hb.mono hHeld.2.size)⟩
        clear hK K hHeld
        have hHeld := hHeld2; clear hHeld2
        try simp only [Act.put, List.setIfInBounds_toArray, List.set_cons_zero, List.set_cons_succ]
        clear hb
        generalize x26.alloc (.cells Try.zeroCells65 65) = x32 at *
        obtain ⟨ga, hga⟩ : ∃ g, x26.heap.size = g := ⟨_, rfl⟩
        rw [hga] at A_32 hsz ⊢
        have hszga := hsz
        have hne : ga ≠ gb := by omega
        clear hga
        clear hsz
        refine wpAnyH_ready (rs := [1]) (by kernel_rfl) (by simp) ?_
        refine (AllReadyH.cons (o := ⟨some 25, _, _, _, _, _⟩) rfl (fun K hK => ?_) AllReadyH.nil)
        · go_simp
          have hsz := hHeld.2.size
          refine (CF.out _).mono ?_
          rintro e x33 hres
          obtain ⟨C47, rfl, hf47, hb⟩ := fixRaw_of hres
          have hv47 := hf47.v
          have HV47_33 := Lib.hid hv47
          have A_33 := Lib.hid (A_32.out.only (Only.of_below hb Nob) (fun h => h))
          have B_33 := Lib.hid (B_32.out.only (Only.of_below hb Nob) (fun h => h))
          have F47_33 := Lib.hid hf47
          refine hK.out _ _ ?_ (fun hHeld2 => ?_)
          · exact ⟨hHeld.1.only (Only.of_below hb Nob) (fun h => h), hHeld.2.trans (hb.mono hHeld.2.size)⟩
          clear hK K hHeld
          have hHeld := hHeld2; clear hHeld2
          try simp only [Act.put, List.setIfInBounds_toArray, List.set_cons_zero, List.set_cons_succ]
          clear hb hres hv47 hf47
          clear hsz
          refine wpAnyH_ready (rs := [3]) (by kernel_rfl) (by simp) ?_
          refine (AllReadyH.cons (o := ⟨some 27, _, _, _, _, _⟩) rfl (fun K hK => ?_) AllReadyH.nil)
          · go_simp
            have hsz := hHeld.2.size
            refine (CD.out _).mono ?_
            rintro e x34 hres
            obtain ⟨C50, rfl, hf50, hb⟩ := dynRaw_of hres
            have hv50 := hf50.v
            have HV50_34 := Lib.hid hv50
            have F47_34 := Lib.hid (F47_33.out.below hb)
            have A_34 := Lib.hid (A_33.out.only (Only.of_below hb Nob) (fun h => h))
            have B_34 := Lib.hid (B_33.out.only (Only.of_below hb Nob) (fun h => h))
            have F50_34 := Lib.hid hf50
            refine hK.out _ _ ?_ (fun hHeld2 => ?_)
            · exact ⟨hHeld.1.only (Only.of_below hb Nob) (fun h => h), hHeld.2.trans (hb.mono hHeld.2.size)⟩
            clear hK K hHeld
            have hHeld := hHeld2; clear hHeld2
            try simp only [Act.put, List.setIfInBounds_toArray, List.set_cons_zero, List.set_cons_succ]
            clear hb hres hv50 hf50
            clear hsz
            have hna : ga ≠ g9 := A_34.out.ne hHeld.1 (by decide)
            have hnb : gb ≠ g9 := B_34.out.ne hHeld.1 (by decide)
            refine wpAnyH_ready (rs := [6]) (by kernel_rfl) (by simp) ?_
            refine AllReadyH.cons (o := ⟨none, _, _, _, _, _⟩) rfl (fun K hK => ?_) AllReadyH.nil
            refine step_store_row _ rfl 65 (.tmp 11) (.tmp 25) rfl ga C47 rfl rfl 65 Try.zeroCells65 A_34.out HV47_33.out.2.2 (by rw [hzs.out, HV47_33.out.1]) HV47_33.out.2.1 ?_
            refine hK.out _ _ ?_ (fun hHeld2 => ?_)
            · exact ⟨hHeld.1.setRow_far _ (Ne.symm hna), below_setRow hHeld.2 _ hszga⟩
            clear hK K hHeld
            have hHeld := hHeld2; clear hHeld2
            try simp only [Act.put, List.setIfInBounds_toArray, List.set_cons_zero, List.set_cons_succ]
            have A1 := Lib.hid (A_34.out.setRow C47)
            have B1 := Lib.hid (Whole.setRow_far B_34.out C47 (Ne.symm hne))
            have F1 := Lib.hid (F47_34.out.blk A_34.out (only_setRow _ _ C47)); have G1 := Lib.hid (F50_34.out.blk A_34.out (only_setRow _ _ C47))
            refine wpAnyH_ready (rs := [7]) (by kernel_rfl) (by simp) ?_
            refine AllReadyH.cons (o := ⟨none, _, _, _, _, _⟩) rfl (fun K hK => ?_) AllReadyH.nil
            refine step_store_row _ rfl 65 (.tmp 12) (.tmp 27) rfl gb C50 rfl rfl 65 Try.zeroCells65 B1.out HV50_34.out.2.2 (by rw [hzs.out, HV50_34.out.1]) HV50_34.out.2.1 ?_
            refine hK.out _ _ ?_ (fun hHeld2 => ?_)
            · exact ⟨hHeld.1.setRow_far _ (Ne.symm hnb), below_setRow hHeld.2 _ hszgb⟩
            clear hK K hHeld
            have hHeld := hHeld2; clear hHeld2
            try simp only [Act.put, List.setIfInBounds_toArray, List.set_cons_zero, List.set_cons_succ]
            have A2 := Lib.hid (Whole.setRow_far A1.out C50 hne)
            have B2 := Lib.hid (B1.out.setRow C50)
            have F2 := Lib.hid (F1.out.blk B1.out (only_setRow _ _ C50)); have G2 := Lib.hid (G1.out.blk B1.out (only_setRow _ _ C50))
            refine wpAnyH_done (by kernel_rfl) ?_ _
            go_wp2_with fail
            go_meet
            case rel => exact ⟨ga, gb, C47, C50, rfl, rfl, hne, Lib.hid ⟨A2.out, B2.out, F2.out, G2.out, BEL.out.trans (hHeld.2.mono BEL.out.size), Nat.le_trans BEL.out.size hszga, Nat.le_trans BEL.out.size hszgb⟩⟩
  case rest =>
    obtain ⟨ga, gb, C47, C50, rfl, rfl, hne, h⟩ := hcut
    obtain ⟨hA, hB, hF47, hF50, hbel, h1, h2⟩ := h.out
    have V47 := Lib.hid hF47.v; have V50 := Lib.hid hF50.v
    have K47 := Lib.hid (fixBlk HCW.out At nt ct hnt C47 wc hF47)
    obtain ⟨a, ha⟩ : ∃ a, bits.length = a := ⟨_, rfl⟩
    have HA := Lib.hid ha
    have HSL : Hid ((storedH bits nb false ++ unpack bs).length = a + stoS a nb) := Lib.hid (by rw [stored_len _ _ _ HBS.out, ha])
    have CLN := Lib.hid (fun W (hW : WriterAt W B g sv bits) => len_any B g sv bits W hW)
    rw [ha] at CLN hbl
    have CSB := Lib.hid (fun W => storedBits_any a nb (by omega) hnb W)
    have CST := Lib.hid (fun W (hW : Below w.heap.size w W) (hWr : WriterAt W B g sv bits) => stored_any B g sv bits (by omega) Ab nb cb bs HBS.out H256.out hnb false W hWr (fun W' hW' => HBI.out W' ((Only.of_below hW _).trans hW')))
    obtain ⟨m47, hm47⟩ : ∃ m, fixM l = m := ⟨_, rfl⟩
    obtain ⟨m50, hm50⟩ : ∃ m, dynM F l = m := ⟨_, rfl⟩
    rw [hm47] at K47
    have HM50 := Lib.hid hm50; have HM47 := Lib.hid hm47; have HGA := Lib.hid h1
    have ROWA := Lib.hid hA; have ROWB := Lib.hid hB; have RAW47 := Lib.hid hF47; have RAW50 := Lib.hid hF50; have BELc := Lib.hid hbel
    clear hA hB hF47 hF50 hbel h h1 h2 ha hm47 hm50 hzs hzs9 HI hone CF CD W2 BEL
    go_wp2_with (refine wpList_load_row rfl 65 (.tmp 11) rfl ga rfl 65 C47 (0, 0) _ ROWA.out Try.underlying65 rfl V47.out.2.2 ?_)
    refine (K47.out.bits wc (Tw.refl _)).mono ?_
    rintro e wd ⟨rfl, hbd⟩
    have ROWA1 := Lib.hid (ROWA.out.only (Only.of_below hbd Nob) (fun h => h)); have ROWB1 := Lib.hid (ROWB.out.only (Only.of_below hbd Nob) (fun h => h))
    have RAW47d := Lib.hid (RAW47.out.below hbd); have RAW50d := Lib.hid (RAW50.out.below hbd)
    have BELd := Lib.hid (BELc.out.trans (hbd.mono BELc.out.size))
    have K50 := Lib.hid (dynBlk HCW.out At nt ct hnt C50 wd RAW50d.out)
    rw [HM50.out] at K50
    have hmm := K47.out.most
    have hmm2 := K50.out.most
    clear hbd ROWA ROWB RAW47 RAW50 BELc
    go_wp2_with (refine wpList_load_row rfl 65 (.tmp 12) rfl gb rfl 65 C50 (0, 0) _ ROWB1.out Try.underlying65 rfl V50.out.2.2 ?_)
    refine (K50.out.bits wd (Tw.refl _)).mono ?_
    rintro e we ⟨rfl, hbe⟩
    have ROWA2 := Lib.hid (ROWA1.out.only (Only.of_below hbe Nob) (fun h => h)); have ROWB2 := Lib.hid (ROWB1.out.only (Only.of_below hbe Nob) (fun h => h))
    have RAW47e := Lib.hid (RAW47d.out.below hbe); have RAW50e := Lib.hid (RAW50d.out.below hbe)
    have BELe := Lib.hid (BELd.out.trans (hbe.mono BELd.out.size))
    clear hbe ROWA1 ROWB1 RAW47d RAW50d BELd K47 K50
    have dn : decide (nb ≤ 65535) = true := decide_eq_true hnb
    have dn' : decide ((nb : Int) ≤ 65535) = true := decide_eq_true (by omega)
    by_cases hd : m50 < m47
    · have dd : decide (m50 < m47) = true := decide_eq_true hd
      have dd' : decide ((m50 : Int) < m47) = true := decide_eq_true (by omega)
      have ROWz := Lib.hid (ROWA2.out.setRow C50)
      have BELz : Hid (Below w.heap.size w (we.setRow ga C50)) := Lib.hid (below_setRow BELe.out _ HGA.out)
      have HWz : Hid (WriterAt (we.setRow ga C50) B g sv bits) := Lib.hid (HW.out.below BELz.out)
      have BLKz := Lib.hid (dynBlk HCW.out At nt ct hnt C50 (we.setRow ga C50) (RAW50e.out.blk ROWA2.out (only_setRow _ _ _)))
      rw [HM50.out] at BLKz
      go_wp2_with (first
        | (refine wpList_load_row rfl 65 (.tmp 12) rfl gb rfl 65 C50 (0, 0) _ ROWB2.out Try.underlying65 rfl V50.out.2.2 ?_)
        | (refine wpList_store_row rfl 65 (.tmp 11) (.tmp 35) rfl ga C50 rfl rfl 65 C47 ROWA2.out V50.out.2.2 (by rw [V47.out.1, V50.out.1]) V50.out.2.1 ?_))
      clear dd dd' ROWA2 ROWB2 BELe
      by_cases hs : stoS a nb ≤ m50
      · have ds : decide (stoS a nb ≤ m50) = true := decide_eq_true hs
        have ds' : decide ((stoS a nb : Int) ≤ m50) = true := decide_eq_true (by omega)
        go_wp2_with fail
        refine (CLN.out _ HWz.out).mono ?_
        rintro e wq ⟨rfl, rfl⟩
        go_wp2_with fail
        refine (CSB.out _).mono ?_
        rintro e wq ⟨rfl, rfl⟩
        go_wp2_with fail
        refine (CST.out (we.setRow ga C50) BELz.out HWz.out).mono ?_
        rintro e wq ⟨rfl, hp⟩
        have HPP := Lib.hid (hp.from BELz.out); clear hp
        go_wp2_with fail
        go_ret
        refine ⟨rfl, _, HPP.out, ?_⟩
        rw [HSL.out, HA.out, HM47.out, HM50.out]
        omega
      · have ds : decide (stoS a nb ≤ m50) = false := decide_eq_false hs
        have ds' : decide ((stoS a nb : Int) ≤ m50) = false := decide_eq_false (by omega)
        go_wp2_with fail
        refine (CLN.out _ HWz.out).mono ?_
        rintro e wq ⟨rfl, rfl⟩
        go_wp2_with fail
        refine (CSB.out _).mono ?_
        rintro e wq ⟨rfl, rfl⟩
        go_wp2_with (refine wpList_load_row rfl 65 (.tmp 11) rfl ga rfl 65 C50 (0, 0) _ ROWz.out Try.underlying65 rfl V50.out.2.2 ?_)
        refine (BLKz.out.write (we.setRow ga C50) B g sv bits false (Tw.refl _) HWz.out (by rw [HA.out]; omega) (fun W hW => HT.out W ((Tw.of_below BELz.out).trans hW))).mono ?_
        rintro e wq ⟨rfl, hp⟩
        have HPP := Lib.hid (hp.from BELz.out); clear hp
        have HSZ := Lib.hid (BLKz.out.size false)
        go_wp2_with fail
        go_ret
        refine ⟨rfl, _, HPP.out, ?_⟩
        rw [HSL.out, List.length_append, HSZ.out, HA.out, HM47.out, HM50.out]
        omega
    · have dd : decide (m50 < m47) = false := decide_eq_false hd
      have dd' : decide ((m50 : Int) < m47) = false := decide_eq_false (by omega)
      have ROWz := ROWA2
      have BELz := BELe
      have HWz : Hid (WriterAt we B g sv bits) := Lib.hid (HW.out.below BELz.out)
      have BLKz := Lib.hid (fixBlk HCW.out At nt ct hnt C47 we RAW47e.out)
      rw [HM47.out] at BLKz
      by_cases hs : stoS a nb ≤ m47
      · have ds : decide (stoS a nb ≤ m47) = true := decide_eq_true hs
        have ds' : decide ((stoS a nb : Int) ≤ m47) = true := decide_eq_true (by omega)
        go_wp2_with fail
        refine (CLN.out _ HWz.out).mono ?_
        rintro e wq ⟨rfl, rfl⟩
        go_wp2_with fail
        refine (CSB.out _).mono ?_
        rintro e wq ⟨rfl, rfl⟩
        go_wp2_with fail
        refine (CST.out we BELz.out HWz.out).mono ?_
        rintro e wq ⟨rfl, hp⟩
        have HPP := Lib.hid (hp.from BELz.out); clear hp
        go_wp2_with fail
        go_ret
        refine ⟨rfl, _, HPP.out, ?_⟩
        rw [HSL.out, HA.out, HM47.out, HM50.out]
        omega
      · have ds : decide (stoS a nb ≤ m47) = false := decide_eq_false hs
        have ds' : decide ((stoS a nb : Int) ≤ m47) = false := decide_eq_false (by omega)
        go_wp2_with fail
        refine (CLN.out _ HWz.out).mono ?_
        rintro e wq ⟨rfl, rfl⟩
        go_wp2_with fail
        refine (CSB.out _).mono ?_
        rintro e wq ⟨rfl, rfl⟩
        go_wp2_with (refine wpList_load_row rfl 65 (.tmp 11) rfl ga rfl 65 C47 (0, 0) _ ROWz.out Try.underlying65 rfl V47.out.2.2 ?_)
        refine (BLKz.out.write we B g sv bits false (Tw.refl _) HWz.out (by rw [HA.out]; omega) (fun W hW => HT.out W ((Tw.of_below BELz.out).trans hW))).mono ?_
        rintro e wq ⟨rfl, hp⟩
        have HPP := Lib.hid (hp.from BELz.out); clear hp
        have HSZ := Lib.hid (BLKz.out.size false)
        go_wp2_with fail
        go_ret
        refine ⟨rfl, _, HPP.out, ?_⟩
        rw [HSL.out, List.length_append, HSZ.out, HA.out, HM47.out, HM50.out]
        omega
end Go.Proofs.Ytnnpiblnjflceaa

namespace Go.Proofs.Ytnnpiblnjflceaa

/-- What may stand behind so many bytes. -/
def fixT (t : Tok) (n : Nat) : Tok := if rightT t = false ∨ (n : Int) < t.dist then ⟨t.lit, 0, 0⟩ else t
/-- The list, and what it stands for. -/
def tokP : List Tok → List Tok × List Nat → List Tok × List Nat
  | [], p => p
  | t :: l, p => tokP l (p.1 ++ [fixT t p.2.length], addT (fixT t p.2.length) p.2)
theorem tokP_snoc (l : List Tok) (t : Tok) (p : List Tok × List Nat) : tokP (l ++ [t]) p = ((tokP l p).1 ++ [fixT t (tokP l p).2.length], addT (fixT t (tokP l p).2.length) (tokP l p).2) := by
  induction l generalizing p with
  | nil => rfl
  | cons u l ih => exact ih _

theorem fixT_right (t : Tok) (n : Nat) : rightT (fixT t n) = true := by
  unfold fixT
  split
  · rfl
  · rename_i h
    cases e : rightT t
    · exact absurd (.inl e) h
    · rfl
theorem fixT_back (t : Tok) (n : Nat) : (fixT t n).dist ≤ n := by
  unfold fixT
  split
  · simp
  · rename_i h
    have : ¬ ((n : Int) < t.dist) := fun e => h (.inr e)
    omega
theorem fixT_lit (t : Tok) (n : Nat) (h : t.lit < 256) : (fixT t n).lit < 256 := by
  unfold fixT
  split
  · exact h
  · exact h
theorem fixT_ok (t : Tok) (n : Nat) (most : Int) (hm : (n : Int) + 258 ≤ most) : wrongT (fixT t n) n most = 0 := by
  unfold wrongT
  have h1 := fixT_right t n
  have h2 := fixT_back t n
  rw [if_neg (by rw [h1]; simp), if_neg (by omega), if_neg]
  have h3 : (fixT t n).len ≤ 258 := by
    by_cases h0 : (fixT t n).len = 0
    · omega
    · exact (rightT_copy h1 h0).2.2.1
  omega

/-- The list's tokens are right, and stand for its bytes. -/
def TokOk (l : List Tok) : Prop := (tokP l ([], [])).1.length = l.length ∧ (tokP l ([], [])).1.all rightT = true ∧ expT 100000 (tokP l ([], [])).1 [] = (0, (tokP l ([], [])).2) ∧ (tokP l ([], [])).2.length ≤ 258 * l.length
theorem tokOk_snoc {l : List Tok} (t : Tok) (hl : l.length ≤ 300) (h : TokOk l) : TokOk (l ++ [t]) := by
  obtain ⟨h1, h2, h3, h4⟩ := h
  unfold TokOk
  rw [tokP_snoc]
  have hw : wrongT (fixT t (tokP l ([], [])).2.length) (tokP l ([], [])).2.length 100000 = 0 := fixT_ok _ _ _ (by omega)
  refine ⟨by simp [h1], by rw [List.all_append, h2]; simp [fixT_right], expT_append h3 hw, ?_⟩
  have e := (addT_length hw).1
  have h5 : (fixT t (tokP l ([], [])).2.length).len ≤ 258 := by
    by_cases h0 : (fixT t (tokP l ([], [])).2.length).len = 0
    · omega
    · exact (rightT_copy (fixT_right _ _) h0).2.2.1
  simp only [List.length_append, List.length_singleton]
  omega
theorem tokOk_take (l : List Tok) (hl : l.length ≤ 300) : ∀ k, k ≤ l.length → TokOk (l.take k)
  | 0, _ => ⟨rfl, rfl, rfl, Nat.le_refl _⟩
  | k + 1, h => by
    have e : l.take (k + 1) = l.take k ++ [l[k]'(by omega)] := (List.take_append_getElem (by omega)).symm
    rw [e]
    exact tokOk_snoc _ (by rw [List.length_take]; omega) (tokOk_take l hl k (by omega))
end Go.Proofs.Ytnnpiblnjflceaa

namespace Go.Proofs.Ytnnpiblnjflceaa
open Go.RowKit
set_option maxRecDepth 100000

theorem tok_info : (Try.prog.info? 41).map (fun i => (i.zero, i.size, i.bytes)) = some (some (.agg #[.int .u8 0, .int .i64 0, .int .i64 0]), 3, 24) := by kernel_rfl
theorem tvs_one (l : List Tok) : ∀ u ∈ tvs l, u.oneCell' = true := by
  intro u hu
  simp only [tvs, List.mem_flatMap, tc] at hu
  obtain ⟨p, _, hp⟩ := hu
  simp at hp
  rcases hp with rfl | rfl | rfl <;> rfl
theorem seen_tok (w : World) (tl : Nat) (tm td : Int) : Seen (w.alloc (.cells #[.int .u8 tl, .int .i64 tm, .int .i64 td] 41)) (w.heap.size + 1) 3 (some ⟨w.heap.size, 0, none⟩) 1 1 (tvs [⟨tl, tm, td⟩]) := by
  have hW := Whole.new w 41 #[.int .u8 tl, .int .i64 tm, .int .i64 td]
  refine ⟨rfl, Nat.le_refl _, .inr ⟨_, rfl, fun _ => ⟨rfl, Nat.lt_succ_self _, fun j u hu => ?_⟩⟩⟩
  show _ = some u
  simp only [Nat.zero_add]
  rw [hW.cell j]
  have e : tvs [⟨tl, tm, td⟩] = [.int .u8 tl, .int .i64 tm, .int .i64 td] := rfl
  rw [e] at hu
  rw [← hu]
  simp

/-- What tokens answers. -/
def TokRes (l : List Tok) (w : World) (e : Ending) (w' : World) : Prop :=
  ∃ vo vb, e = .returned (.tuple #[vo, vb]) ∧ w'.ownsRow w.heap.size 41 3 vo l.length (tvs (tokP l ([], [])).1) ∧ w'.ownsRow w.heap.size 5 1 vb (tokP l ([], [])).2.length (bx (tokP l ([], [])).2) ∧ Below w.heap.size w w'

/-- Where the loop stands. -/
structure TlAt (w : World) (l : List Tok) (k : Nat) (s4 s5 : Value) (wr : World) : Prop where
  o : wr.ownsRow w.heap.size 41 3 s4 k (tvs (tokP (l.take k) ([], [])).1)
  b : wr.ownsRow w.heap.size 5 1 s5 (tokP (l.take k) ([], [])).2.length (bx (tokP (l.take k) ([], [])).2)
  bel : Below w.heap.size w wr
theorem TlAt.below {w : World} {l : List Tok} {k : Nat} {s4 s5 : Value} {wr w' : World} (h : TlAt w l k s4 s5 wr) (hb : Below wr.heap.size wr w') : TlAt w l k s4 s5 w' :=
  ⟨own_only h.o (Only.of_below hb Nob) (fun _ _ h => h), own_only h.b (Only.of_below hb Nob) (fun _ _ h => h), h.bel.trans (hb.mono h.bel.size)⟩
theorem TlAt.only {w : World} {l : List Tok} {k : Nat} {s4 s5 : Value} {wr w' : World} {g : Nat} {t : TypeId} {cs : Array Value} (h : TlAt w l k s4 s5 wr) (hb : Only (fun i => i = g) wr w') (hg : w.heap.size ≤ g) (h4 : ∀ j, s4.ownBlock = some j → j ≠ g) (hw : Whole wr g t cs) (ht : t ≠ 5) : TlAt w l k s4 s5 w' :=
  ⟨own_only h.o hb (fun j hj e => h4 j hj e), own_only h.b hb (fun j hj e => own_ne_whole h.b hw (fun e => ht e.symm) j hj e), h.bel.trans (hb.below h.bel.size (fun i hi => by rw [hi]; exact hg))⟩
theorem tl_next {l : List Tok} {k : Nat} {t : Tok} (hl : l.length ≤ 300) (ht : l[k]? = some t) {u : Tok} (hu : fixT t (tokP (l.take k) ([], [])).2.length = u) :
    (tokP (l.take (k + 1)) ([], [])).1 = (tokP (l.take k) ([], [])).1 ++ [u] ∧ expT 100000 ((tokP (l.take k) ([], [])).1 ++ [u]) [] = (0, (tokP (l.take (k + 1)) ([], [])).2) := by
  obtain ⟨hkl, ht2⟩ := List.getElem?_eq_some_iff.1 ht
  have htk : l.take (k + 1) = l.take k ++ [t] := by rw [← ht2, List.take_append_getElem]
  have h1 : (tokP (l.take (k + 1)) ([], [])).1 = (tokP (l.take k) ([], [])).1 ++ [u] := by rw [htk, tokP_snoc, hu]
  refine ⟨h1, ?_⟩
  rw [← h1]
  exact (tokOk_take l hl (k + 1) (by omega)).2.2.1

set_option linter.unusedSimpArgs false in
set_option maxHeartbeats 4000000 in
theorem lawTokens_any (A : Option Addr) (n c B : Nat) (l : List Tok) (hn : n ≤ 300) (w : World) (hs : Seen w B 3 A n c (tvs l)) (hB : B ≤ w.heap.size) :
    Calls Try.prog 11 #[.slice A n c] w (TokRes l w) := by
  obtain ⟨i0, hi0, hz0, hz1, hz2⟩ := info_parts tok_info
  have hln : l.length = n := by have := hs.1; rw [tvs_length] at this; omega
  have HS := Lib.hid hs; clear hs
  have HLN := Lib.hid hln; clear hln
  go_enter Try.func11, Try.ntmps11
  go_wp2_with fail
  go_loopw [4, 5, 10] (fun s4 s5 i wr => ∃ k : Nat, k ≤ n ∧ i = .int .i64 k ∧ TlAt w l k s4 s5 wr) (fun _ _ i _ => n - (intOf i).toNat)
  case atStart => exact ⟨0, Nat.zero_le _, rfl, World.ownsRow_nil _ _ _ _, World.ownsRow_nil _ _ _ _, Below.refl _ _⟩
  case round =>
    obtain ⟨k, hk, rfl, hT⟩ := hrel
    have HT := Lib.hid hT; clear hT
    by_cases hlt : k < n
    · obtain ⟨t, b, of', ht, rfl, hbB, c0, c1, c2⟩ := (HS.out.below (HT.out.bel.mono hB)).tok hlt
      have hsz := HT.out.bel.size
      have hbr : b < wr.heap.size := by omega
      have hne : wr.heap.size ≠ b := by omega
      have HNX := Lib.hid (fun u hu => tl_next (u := u) (by rw [HLN.out]; exact hn) ht hu)
      obtain ⟨As, cs, rfl, _⟩ := own_form HT.out.o
      obtain ⟨Ab, cb, rfl, _⟩ := own_form HT.out.b
      obtain ⟨m, hm⟩ : ∃ m, (tokP (l.take k) ([], [])).2.length = m := ⟨_, rfl⟩
      have hOne := HT.out.o
      obtain ⟨tl, tn, td⟩ := t
      simp only at c0 c1 c2
      have CR := Lib.hid (fun W => rright_any tl tn td W)
      have HFX : Hid (fixT ⟨tl, tn, td⟩ m = if rightT ⟨tl, tn, td⟩ = false ∨ (m : Int) < td then ⟨tl, 0, 0⟩ else ⟨tl, tn, td⟩) := Lib.hid rfl
      obtain ⟨R, hRt⟩ : ∃ R, rightT ⟨tl, tn, td⟩ = R := ⟨_, rfl⟩
      rw [hRt] at CR HFX
      rw [hm] at HNX HT ⊢
      obtain ⟨P1, hP1⟩ : ∃ P1, (tokP (l.take k) ([], [])).1 = P1 := ⟨_, rfl⟩
      rw [hP1] at HNX hOne
      have HP1 := Lib.hid hP1
      have HM := Lib.hid hm
      have hk0 : (0 : Int) ≤ k := by omega
      have hB5 : Below wr.heap.size wr (wr.alloc (.cells #[.int .u8 tl, .int .i64 tn, .int .i64 td] 41)) := (Below.refl _ _).alloc (Nat.le_refl _) _
      have WT := Lib.hid (Whole.new wr 41 #[.int .u8 tl, .int .i64 tn, .int .i64 td])
      have HT5 := Lib.hid (HT.out.below hB5)
      have HA4 : Hid (∀ j, (Value.slice As k cs).ownBlock = some j → j ≠ wr.heap.size) := Lib.hid (fun j hj => by have := (own_whole hOne hj).2.choose_spec.lt; omega)
      have hgw : w.heap.size ≤ wr.heap.size := hsz
      obtain ⟨g6, hg6⟩ : ∃ g6, wr.heap.size = g6 := ⟨_, rfl⟩
      rw [hg6] at WT hbr hne HA4 hgw
      clear hB5 HT ht hRt hm hP1 hOne hsz
      go_wp2_with fail
      clear c0 c1 c2 hbr hne hg6
      generalize wr.alloc (.cells #[.int .u8 tl, .int .i64 tn, .int .i64 td] 41) = W5 at *
      refine (CR.out _).mono ?_
      rintro e w6 ⟨rfl, hb6⟩
      have hW6 := WT.out.only (Only.of_below hb6 Nob) (fun h => h)
      have HT6 := Lib.hid (HT5.out.below hb6)
      have v0 : w6.cell? ⟨g6, 0, none⟩ = some (.int .u8 tl) := hW6.cell 0
      have v1 : w6.cell? ⟨g6, 1, none⟩ = some (.int .i64 tn) := hW6.cell 1
      have v2 : w6.cell? ⟨g6, 2, none⟩ = some (.int .i64 td) := hW6.cell 2
      have z0 := hW6.frozen 0
      have z1 := hW6.frozen 1
      have z2 := hW6.frozen 2
      have HW6 := Lib.hid hW6
      clear hb6 hW6 HT5 WT
      by_cases hbad : R = false ∨ (m : Int) < td
      · rw [if_pos hbad] at HFX
        have HNX := Lib.hid (HNX.out _ HFX.out)
        have HTK : Hid (TlAt w l k (.slice As k cs) (.slice Ab m cb) (((w6.setCell ⟨g6, 0, none⟩ (.int .u8 tl)).setCell ⟨g6, 1, none⟩ (.int .i64 0)).setCell ⟨g6, 2, none⟩ (.int .i64 0))) := Lib.hid (HT6.out.only ((((Only.refl (fun i => i = g6) w6).setCell (p := ⟨g6, 0, none⟩) (.inl rfl) _).setCell (p := ⟨g6, 1, none⟩) (.inl rfl) _).setCell (p := ⟨g6, 2, none⟩) (.inl rfl) _) hgw HA4.out HW6.out (by decide))
        have HWK := Lib.hid (HW6.out.put3 (.int .u8 tl) (.int .i64 0) (.int .i64 0))
        obtain ⟨W7, hW7⟩ : ∃ W7, ((w6.setCell ⟨g6, 0, none⟩ (.int .u8 tl)).setCell ⟨g6, 1, none⟩ (.int .i64 0)).setCell ⟨g6, 2, none⟩ (.int .i64 0) = W7 := ⟨_, rfl⟩
        rw [hW7] at HTK HWK
        cases R with
        | false =>
          clear hbad HT6 HW6
          have v0 : W7.cell? ⟨g6, 0, none⟩ = some (.int .u8 tl) := HWK.out.cell 0
          have v1 : W7.cell? ⟨g6, 1, none⟩ = some (.int .i64 0) := HWK.out.cell 1
          have v2 : W7.cell? ⟨g6, 2, none⟩ = some (.int .i64 0) := HWK.out.cell 2
          have HSN : Hid (Seen (W7.alloc (.cells #[.int .u8 tl, .int .i64 0, .int .i64 0] 41)) (W7.heap.size + 1) 3 (some ⟨W7.heap.size, 0, none⟩) 1 1 (tvs [⟨tl, 0, 0⟩])) := Lib.hid (seen_tok _ _ _ _)
          have HTA := Lib.hid (HTK.out.below ((Below.refl _ _).alloc (Nat.le_refl _) (.cells #[.int .u8 tl, .int .i64 0, .int .i64 0] 41)))
          have HO5 := Lib.hid (show (W7.alloc (.cells #[.int .u8 tl, .int .i64 0, .int .i64 0] 41)).ownsRow w.heap.size 41 3 (.slice As k cs) k (tvs P1) by rw [← HP1.out]; exact HTA.out.o)
          go_wp2_with (at_builtin; refine wpList_append_seen _ rfl (.tmp 27) (.tmp 29) _ rfl w.heap.size 41 i0 _ 3 24 Try.underlying26 hi0 hz0 hz1 hz2 rfl (by omega) (.slice As k cs) k (tvs P1) rfl HO5.out _ _ 1 1 (tvs [⟨tl, 0, 0⟩]) rfl HSN.out (tvs_one _) (by simp only [maxLen]; omega) (by omega) (HTA.out.bel.size) ?_; intro s1 w6 hown6 hg6 hat6)
          have hB6 := HTA.out.bel.grown hg6 HTA.out.bel.size (fun j hj => (own_whole HTA.out.o hj).1)
          have HB6 := Lib.hid hB6
          obtain ⟨A6, c6, rfl, _, hs6⟩ := own_seen hown6
          rw [← tvs_append] at hs6 hown6
          have HO6 := Lib.hid hown6
          have CE := Lib.hid (rexpand_any A6 (k + 1) c6 w6.heap.size _ (by omega) 100000 (by omega) (by omega) w6 hs6 (Nat.le_refl _))
          clear hown6 hg6 hat6 hB6 hs6 HTA HSN HTK v0 v1 v2
          go_wp2_with fail
          refine CE.out.mono ?_
          rintro e w7 (⟨o7, v7, hx7, rfl, hown7, hb7⟩ | ⟨er, her, _, hx7, _⟩)
          · rw [HNX.out.2] at hx7
            injection hx7 with _ hx7
            subst hx7
            have HT7 : Hid (TlAt w l (k + 1) (.slice A6 (k + 1) c6) v7 w7) := Lib.hid ⟨by rw [HNX.out.1]; exact own_only HO6.out (Only.of_below hb7 Nob) (fun _ _ h => h), own_base hown7 HB6.out.size, HB6.out.trans (hb7.mono HB6.out.size)⟩
            clear hown7 hb7
            go_wp2_with fail
            go_roundw
            case rel => exact ⟨k + 1, by omega, by go_num, HT7.out⟩
            case measure => simp [intOf]; omega
          · rw [HNX.out.2] at hx7
            injection hx7 with hx7 _
            exact absurd hx7.symm her
        | true =>
          have dd : decide ((m : Int) < td) = true := decide_eq_true (by simpa using hbad)
          clear hbad HT6 HW6
          have v0' : W7.cell? ⟨g6, 0, none⟩ = some (.int .u8 tl) := HWK.out.cell 0
          have v1' : W7.cell? ⟨g6, 1, none⟩ = some (.int .i64 0) := HWK.out.cell 1
          have v2' : W7.cell? ⟨g6, 2, none⟩ = some (.int .i64 0) := HWK.out.cell 2
          have HSN : Hid (Seen (W7.alloc (.cells #[.int .u8 tl, .int .i64 0, .int .i64 0] 41)) (W7.heap.size + 1) 3 (some ⟨W7.heap.size, 0, none⟩) 1 1 (tvs [⟨tl, 0, 0⟩])) := Lib.hid (seen_tok _ _ _ _)
          have HTA := Lib.hid (HTK.out.below ((Below.refl _ _).alloc (Nat.le_refl _) (.cells #[.int .u8 tl, .int .i64 0, .int .i64 0] 41)))
          have HO5 := Lib.hid (show (W7.alloc (.cells #[.int .u8 tl, .int .i64 0, .int .i64 0] 41)).ownsRow w.heap.size 41 3 (.slice As k cs) k (tvs P1) by rw [← HP1.out]; exact HTA.out.o)
          go_wp2_with (at_builtin; refine wpList_append_seen _ rfl (.tmp 27) (.tmp 29) _ rfl w.heap.size 41 i0 _ 3 24 Try.underlying26 hi0 hz0 hz1 hz2 rfl (by omega) (.slice As k cs) k (tvs P1) rfl HO5.out _ _ 1 1 (tvs [⟨tl, 0, 0⟩]) rfl HSN.out (tvs_one _) (by simp only [maxLen]; omega) (by omega) (HTA.out.bel.size) ?_; intro s1 w6 hown6 hg6 hat6)
          have hB6 := HTA.out.bel.grown hg6 HTA.out.bel.size (fun j hj => (own_whole HTA.out.o hj).1)
          have HB6 := Lib.hid hB6
          obtain ⟨A6, c6, rfl, _, hs6⟩ := own_seen hown6
          rw [← tvs_append] at hs6 hown6
          have HO6 := Lib.hid hown6
          have CE := Lib.hid (rexpand_any A6 (k + 1) c6 w6.heap.size _ (by omega) 100000 (by omega) (by omega) w6 hs6 (Nat.le_refl _))
          clear hown6 hg6 hat6 hB6 hs6 HTA HSN HTK v0 v1 v2
          go_wp2_with fail
          refine CE.out.mono ?_
          rintro e w7 (⟨o7, v7, hx7, rfl, hown7, hb7⟩ | ⟨er, her, _, hx7, _⟩)
          · rw [HNX.out.2] at hx7
            injection hx7 with _ hx7
            subst hx7
            have HT7 : Hid (TlAt w l (k + 1) (.slice A6 (k + 1) c6) v7 w7) := Lib.hid ⟨by rw [HNX.out.1]; exact own_only HO6.out (Only.of_below hb7 Nob) (fun _ _ h => h), own_base hown7 HB6.out.size, HB6.out.trans (hb7.mono HB6.out.size)⟩
            clear hown7 hb7
            go_wp2_with fail
            go_roundw
            case rel => exact ⟨k + 1, by omega, by go_num, HT7.out⟩
            case measure => simp [intOf]; omega
          · rw [HNX.out.2] at hx7
            injection hx7 with hx7 _
            exact absurd hx7.symm her
      · rw [if_neg hbad] at HFX
        have HNX := Lib.hid (HNX.out _ HFX.out)
        have HTK := HT6
        have dd : decide ((m : Int) < td) = false := decide_eq_false (fun h => hbad (.inr h))
        obtain rfl : R = true := by cases R; exact absurd (.inl rfl) hbad; rfl
        clear hbad HT6
        have HSN : Hid (Seen (w6.alloc (.cells #[.int .u8 tl, .int .i64 tn, .int .i64 td] 41)) (w6.heap.size + 1) 3 (some ⟨w6.heap.size, 0, none⟩) 1 1 (tvs [⟨tl, tn, td⟩])) := Lib.hid (seen_tok _ _ _ _)
        have HTA := Lib.hid (HTK.out.below ((Below.refl _ _).alloc (Nat.le_refl _) (.cells #[.int .u8 tl, .int .i64 tn, .int .i64 td] 41)))
        have HO5 := Lib.hid (show (w6.alloc (.cells #[.int .u8 tl, .int .i64 tn, .int .i64 td] 41)).ownsRow w.heap.size 41 3 (.slice As k cs) k (tvs P1) by rw [← HP1.out]; exact HTA.out.o)
        go_wp2_with (at_builtin; refine wpList_append_seen _ rfl (.tmp 27) (.tmp 29) _ rfl w.heap.size 41 i0 _ 3 24 Try.underlying26 hi0 hz0 hz1 hz2 rfl (by omega) (.slice As k cs) k (tvs P1) rfl HO5.out _ _ 1 1 (tvs [⟨tl, tn, td⟩]) rfl HSN.out (tvs_one _) (by simp only [maxLen]; omega) (by omega) (HTA.out.bel.size) ?_; intro s1 w6 hown6 hg6 hat6)
        have hB6 := HTA.out.bel.grown hg6 HTA.out.bel.size (fun j hj => (own_whole HTA.out.o hj).1)
        have HB6 := Lib.hid hB6
        obtain ⟨A6, c6, rfl, _, hs6⟩ := own_seen hown6
        rw [← tvs_append] at hs6 hown6
        have HO6 := Lib.hid hown6
        have CE := Lib.hid (rexpand_any A6 (k + 1) c6 w6.heap.size _ (by omega) 100000 (by omega) (by omega) w6 hs6 (Nat.le_refl _))
        clear hown6 hg6 hat6 hB6 hs6 HTA HSN HTK v0 v1 v2
        go_wp2_with fail
        refine CE.out.mono ?_
        rintro e w7 (⟨o7, v7, hx7, rfl, hown7, hb7⟩ | ⟨er, her, _, hx7, _⟩)
        · rw [HNX.out.2] at hx7
          injection hx7 with _ hx7
          subst hx7
          have HT7 : Hid (TlAt w l (k + 1) (.slice A6 (k + 1) c6) v7 w7) := Lib.hid ⟨by rw [HNX.out.1]; exact own_only HO6.out (Only.of_below hb7 Nob) (fun _ _ h => h), own_base hown7 HB6.out.size, HB6.out.trans (hb7.mono HB6.out.size)⟩
          clear hown7 hb7
          go_wp2_with fail
          go_roundw
          case rel => exact ⟨k + 1, by omega, by go_num, HT7.out⟩
          case measure => simp [intOf]; omega
        · rw [HNX.out.2] at hx7
          injection hx7 with hx7 _
          exact absurd hx7.symm her
    · obtain rfl : k = n := by omega
      have hO := HT.out.o
      have hb := HT.out.b
      have hbel := HT.out.bel
      rw [List.take_of_length_le (by rw [HLN.out]; exact Nat.le_refl _)] at hO hb
      rw [← HLN.out] at hO
      obtain ⟨As, cs, rfl, _⟩ := own_form hO
      obtain ⟨Ab, cb, rfl, _⟩ := own_form hb
      have HO := Lib.hid hO; have HB := Lib.hid hb; have HBEL := Lib.hid hbel
      clear hO hb hbel HT
      go_wp2_with fail
      go_ret2
      exact ⟨_, _, rfl, HO.out, HB.out, HBEL.out⟩

end Go.Proofs.Ytnnpiblnjflceaa

namespace Go.Proofs.Ytnnpiblnjflceaa
open Go.RowKit
set_option maxRecDepth 100000

theorem PutPost.fromB {w0 w w' : World} {B g : Nat} {sv : Value} {bits : List Bool} (h : PutPost w B g sv bits w') (hb : Below w0.heap.size w0 w) : PutPost w0 B g sv bits w' := by
  obtain ⟨s, h1, h2, h3⟩ := h
  exact ⟨s, h1, (Only.of_below hb _).trans h2, fun k hk => (h3 k hk).imp id (fun h => Nat.le_trans hb.size h)⟩

set_option maxHeartbeats 4000000 in
theorem written_fixT (B g : Nat) (sv : Value) (bits : List Bool) (hbl : bits.length ≤ 100) (At : Option Addr) (nt ct Bt : Nat) (l : List Tok) (hl : Tks l) (hnt : nt ≤ 1000) (hln : l.length = nt)
    (w : World) (hw : WriterAt w B g sv bits) (hst : Seen w Bt 3 At nt ct (tvs l)) (hBt : Bt ≤ w.heap.size) (hT : ToksIn w At nt ct l) :
    Calls Try.prog 33 #[.pointer (some ⟨g, 0, none⟩), .slice At nt ct, .bool false, .func (.func 34) #[] #[]] w fun e w' => e = .returned (.int .i64 0) ∧ ∃ X : List Bool, PutPost w B g sv X w' ∧ X.length = bits.length + fixM l := by
  have hCW : CntW (cntL l cnt0) l := ⟨rfl, hl, by omega⟩
  have hall : l.all rightT = true := List.all_eq_true.2 (fun t ht => (hl t ht).2)
  have CN := Lib.hid (tcounted_any At nt ct Bt l (fun t ht => (hl t ht).1) hnt w hst hBt)
  obtain ⟨F, hF⟩ : ∃ F, cntL l cnt0 = F := ⟨_, rfl⟩
  unfold CntRes at CN
  rw [hF] at hCW CN
  have CF := Lib.hid (fun W => fixedBlock_any F W)
  have HI := Lib.hid (show (Try.prog.info? 59).map (·.size) = some (rz 317 F).size by rw [rz_size]; exact (zero_of_info row59).2)
  have hzs9 : Hid (Try.zeroCells59.size = (rz 317 F).size) := Lib.hid (by rw [rz_size]; kernel_rfl)
  have hone := Lib.hid (rz_one 317 F)
  obtain ⟨R, hR⟩ : ∃ R, rz 317 F = R := ⟨_, rfl⟩
  rw [hR] at HI hzs9 hone CN CF
  have HALL := Lib.hid hall; have HCW := Lib.hid hCW; have HW := Lib.hid hw; have HT := Lib.hid hT; have HFF := Lib.hid hF
  clear hF hR hall hCW hw hst hT hl
  go_enter Try.func33, Try.ntmps33
  go_wp2_with fail
  refine CN.out.mono ?_
  rintro e w0 hres
  rcases hres with ⟨_, rfl, hb0⟩ | ⟨h0, _⟩
  rotate_left
  · rw [HALL.out] at h0; cases h0
  have B0 := Lib.hid hb0
  have W1 := Lib.hid (heap_alloc_new w0 (.cells Try.zeroCells59 59))
  have W2 := Lib.hid (seen59 w0 R)
  have B2 : Hid (Below w0.heap.size w0 ((w0.alloc (.cells Try.zeroCells59 59)).setRow w0.heap.size R)) := Lib.hid (below_setRow ((Below.refl _ _).alloc (Nat.le_refl _) _) _ (Nat.le_refl _))
  clear hb0 CN
  go_wp2_with (first
    | (refine wpList_store_row rfl 59 (.tmp 9) (.tmp 16) rfl w0.heap.size R rfl rfl 59 Try.zeroCells59 W1.out HI.out hzs9.out hone.out ?_)
    | (refine wpList_load_row rfl 59 (.tmp 9) rfl w0.heap.size rfl 59 R (0, 0) _ W2.out Try.underlying59 rfl HI.out ?_))
  generalize (w0.alloc (.cells Try.zeroCells59 59)).setRow w0.heap.size R = w1 at *
  have BEL := Lib.hid (B0.out.trans (B2.out.mono B0.out.size))
  refine (CF.out w1).mono ?_
  rintro e w2 hres
  obtain ⟨C, rfl, hraw, hb2⟩ := fixRaw_of hres
  have BEL2 := Lib.hid (BEL.out.trans (hb2.mono BEL.out.size))
  have K := Lib.hid (fixBlk HCW.out At nt ct hnt C w2 hraw)
  have HW2 := Lib.hid (HW.out.below BEL2.out)
  clear hres hraw hb2 W1 W2 B0 B2 BEL
  go_wp2_with fail
  refine (K.out.write w2 B g sv bits false (Tw.refl _) HW2.out (by omega) (fun _ hW => HT.out _ ((Tw.of_below BEL2.out).trans hW))).mono ?_
  rintro e w3 ⟨rfl, hp⟩
  have HPP := Lib.hid (hp.fromB BEL2.out); clear hp
  have HSZ := Lib.hid (K.out.size false)
  go_wp2_with fail
  go_ret
  exact ⟨rfl, _, HPP.out, by rw [List.length_append, HSZ.out]⟩
theorem fixed_T (B g : Nat) (sv : Value) (bits : List Bool) (hbl : bits.length ≤ 100) (At : Option Addr) (nt ct Bt : Nat) (l : List Tok) (hl : Tks l) (hnt : nt ≤ 1000) (hln : l.length = nt)
    (w : World) (hw : WriterAt w B g sv bits) (hst : Seen w Bt 3 At nt ct (tvs l)) (hBt : Bt ≤ w.heap.size) (hT : ToksIn w At nt ct l) :
    Calls Try.prog 15 #[.pointer (some ⟨g, 0, none⟩), .slice At nt ct, .bool false] w fun e w' => e = .returned (.int .i64 0) ∧ ∃ X : List Bool, PutPost w B g sv X w' ∧ X.length = bits.length + fixM l := by
  have C := Lib.hid (written_fixT B g sv bits hbl At nt ct Bt l hl hnt hln w hw hst hBt hT)
  clear hw hst hT hl
  go_enter Try.func15, Try.ntmps15
  go_wp2_with fail
  refine C.out.mono ?_
  rintro e w1 ⟨rfl, X, p, hX⟩
  have PP := Lib.hid p; have HX := Lib.hid hX; clear p hX
  go_wp2_with fail
  go_ret
  exact ⟨rfl, X, PP.out, HX.out⟩

set_option maxHeartbeats 4000000 in
theorem written_dynT (B g : Nat) (sv : Value) (bits : List Bool) (hbl : bits.length ≤ 100) (At : Option Addr) (nt ct Bt : Nat) (l : List Tok) (hl : Tks l) (hnt : nt ≤ 1000) (hln : l.length = nt)
    (w : World) (hw : WriterAt w B g sv bits) (hst : Seen w Bt 3 At nt ct (tvs l)) (hBt : Bt ≤ w.heap.size) (hT : ToksIn w At nt ct l) :
    Calls Try.prog 33 #[.pointer (some ⟨g, 0, none⟩), .slice At nt ct, .bool false, .func (.func 35) #[] #[]] w fun e w' => e = .returned (.int .i64 0) ∧ ∃ X : List Bool, PutPost w B g sv X w' ∧ X.length = bits.length + dynM (cntL l cnt0) l := by
  have hCW : CntW (cntL l cnt0) l := ⟨rfl, hl, by omega⟩
  have hall : l.all rightT = true := List.all_eq_true.2 (fun t ht => (hl t ht).2)
  have CN := Lib.hid (tcounted_any At nt ct Bt l (fun t ht => (hl t ht).1) hnt w hst hBt)
  obtain ⟨F, hF⟩ : ∃ F, cntL l cnt0 = F := ⟨_, rfl⟩
  unfold CntRes at CN
  rw [hF] at hCW CN
  have CF := Lib.hid (fun W => dynamicBlock_any F hCW.ok W)
  have HI := Lib.hid (show (Try.prog.info? 59).map (·.size) = some (rz 317 F).size by rw [rz_size]; exact (zero_of_info row59).2)
  have hzs9 : Hid (Try.zeroCells59.size = (rz 317 F).size) := Lib.hid (by rw [rz_size]; kernel_rfl)
  have hone := Lib.hid (rz_one 317 F)
  obtain ⟨R, hR⟩ : ∃ R, rz 317 F = R := ⟨_, rfl⟩
  rw [hR] at HI hzs9 hone CN CF
  have HALL := Lib.hid hall; have HCW := Lib.hid hCW; have HW := Lib.hid hw; have HT := Lib.hid hT; have HFF := Lib.hid hF
  clear hF hR hall hCW hw hst hT hl
  go_enter Try.func33, Try.ntmps33
  go_wp2_with fail
  refine CN.out.mono ?_
  rintro e w0 hres
  rcases hres with ⟨_, rfl, hb0⟩ | ⟨h0, _⟩
  rotate_left
  · rw [HALL.out] at h0; cases h0
  have B0 := Lib.hid hb0
  have W1 := Lib.hid (heap_alloc_new w0 (.cells Try.zeroCells59 59))
  have W2 := Lib.hid (seen59 w0 R)
  have B2 : Hid (Below w0.heap.size w0 ((w0.alloc (.cells Try.zeroCells59 59)).setRow w0.heap.size R)) := Lib.hid (below_setRow ((Below.refl _ _).alloc (Nat.le_refl _) _) _ (Nat.le_refl _))
  clear hb0 CN
  go_wp2_with (first
    | (refine wpList_store_row rfl 59 (.tmp 9) (.tmp 16) rfl w0.heap.size R rfl rfl 59 Try.zeroCells59 W1.out HI.out hzs9.out hone.out ?_)
    | (refine wpList_load_row rfl 59 (.tmp 9) rfl w0.heap.size rfl 59 R (0, 0) _ W2.out Try.underlying59 rfl HI.out ?_))
  generalize (w0.alloc (.cells Try.zeroCells59 59)).setRow w0.heap.size R = w1 at *
  have BEL := Lib.hid (B0.out.trans (B2.out.mono B0.out.size))
  refine (CF.out w1).mono ?_
  rintro e w2 hres
  obtain ⟨C, rfl, hraw, hb2⟩ := dynRaw_of hres
  have BEL2 := Lib.hid (BEL.out.trans (hb2.mono BEL.out.size))
  have K := Lib.hid (dynBlk HCW.out At nt ct hnt C w2 hraw)
  have HW2 := Lib.hid (HW.out.below BEL2.out)
  clear hres hraw hb2 W1 W2 B0 B2 BEL
  go_wp2_with fail
  refine (K.out.write w2 B g sv bits false (Tw.refl _) HW2.out (by omega) (fun _ hW => HT.out _ ((Tw.of_below BEL2.out).trans hW))).mono ?_
  rintro e w3 ⟨rfl, hp⟩
  have HPP := Lib.hid (hp.fromB BEL2.out); clear hp
  have HSZ := Lib.hid (K.out.size false)
  go_wp2_with fail
  go_ret
  exact ⟨rfl, _, HPP.out, by rw [List.length_append, HSZ.out]; rw [← HFF.out]⟩
theorem dynamic_T (B g : Nat) (sv : Value) (bits : List Bool) (hbl : bits.length ≤ 100) (At : Option Addr) (nt ct Bt : Nat) (l : List Tok) (hl : Tks l) (hnt : nt ≤ 1000) (hln : l.length = nt)
    (w : World) (hw : WriterAt w B g sv bits) (hst : Seen w Bt 3 At nt ct (tvs l)) (hBt : Bt ≤ w.heap.size) (hT : ToksIn w At nt ct l) :
    Calls Try.prog 16 #[.pointer (some ⟨g, 0, none⟩), .slice At nt ct, .bool false] w fun e w' => e = .returned (.int .i64 0) ∧ ∃ X : List Bool, PutPost w B g sv X w' ∧ X.length = bits.length + dynM (cntL l cnt0) l := by
  have C := Lib.hid (written_dynT B g sv bits hbl At nt ct Bt l hl hnt hln w hw hst hBt hT)
  clear hw hst hT hl
  go_enter Try.func16, Try.ntmps16
  go_wp2_with fail
  refine C.out.mono ?_
  rintro e w1 ⟨rfl, X, p, hX⟩
  have PP := Lib.hid p; have HX := Lib.hid hX; clear p hX
  go_wp2_with fail
  go_ret
  exact ⟨rfl, X, PP.out, HX.out⟩

theorem own_tw41 {w w' : World} {base n : Nat} {v : Value} {xs : List Value} (h : w.ownsRow base 41 3 v n xs) (ho : Tw w w') : w'.ownsRow base 41 3 v n xs :=
  own_only h ho (fun k hk => by
    rintro ⟨t, cs, hW, ht⟩
    obtain ⟨_, cs', hW'⟩ := own_whole h hk
    rcases ht with rfl | rfl
    · exact hW'.ne hW (by decide) rfl
    · exact hW'.ne hW (by decide) rfl)
/-- A writer, beside a row of tokens and a row of bytes. -/
structure PenAt (w0 : World) (Ao : Option Addr) (nt co : Nat) (P : List Tok) (Ab : Option Addr) (nb cb : Nat) (bs : List Nat) (w : World) (gw : Nat) (sv : Value) (X : List Bool) : Prop where
  wr : WriterAt w gw gw sv X
  new : ∀ k, sv.ownBlock = some k → gw ≤ k
  o : w.ownsRow w0.heap.size 41 3 (.slice Ao nt co) nt (tvs P)
  b : w.ownsRow w0.heap.size 5 1 (.slice Ab nb cb) nb (bx bs)
  old : ∀ k, (Value.slice Ab nb cb).ownBlock = some k → k < gw
  lo : w0.heap.size ≤ gw
  bel : Below w0.heap.size w0 w
section
variable {w0 w w' : World} {Ao : Option Addr} {nt co : Nat} {P : List Tok} {Ab : Option Addr} {nb cb : Nat} {bs : List Nat} {gw : Nat} {sv : Value} {X Y : List Bool}
theorem PenAt.far (h : PenAt w0 Ao nt co P Ab nb cb bs w gw sv X) : ∀ k, (Value.slice Ab nb cb).ownBlock = some k → ¬ Foot gw sv k := fun k hk e => by
  have := h.old k hk
  rcases e with e | e
  · omega
  · have := h.new k e; omega
theorem PenAt.bytes (h : PenAt w0 Ao nt co P Ab nb cb bs w gw sv X) : BytesIn w gw sv Ab nb cb bs := fun _ hW =>
  ⟨_, Seen.of_own (own_only h.b hW (fun k hk => h.far k hk))⟩
theorem PenAt.toks (h : PenAt w0 Ao nt co P Ab nb cb bs w gw sv X) : ToksIn w Ao nt co P := fun _ hW =>
  ⟨_, Nat.le_refl _, Seen.of_own (own_tw41 h.o hW)⟩
theorem PenAt.step (h : PenAt w0 Ao nt co P Ab nb cb bs w gw sv X) (p : PutPost w gw gw sv Y w') : ∃ sv', PenAt w0 Ao nt co P Ab nb cb bs w' gw sv' Y := by
  have ht := Tw.of_put h.wr p
  obtain ⟨sv', p1, p2, p3⟩ := p
  refine ⟨sv', p1, fun k hk => ?_, own_tw41 h.o ht, own_only h.b p2 (fun k hk => h.far k hk), h.old, h.lo, h.bel.trans (p2.below h.bel.size (fun k hk => ?_))⟩
  · rcases p3 k hk with e | e
    · exact h.new k e
    · have := h.wr.2.1.lt; omega
  · have := h.lo
    rcases hk with e | e
    · omega
    · have := h.new k e; omega
end
end Go.Proofs.Ytnnpiblnjflceaa

namespace Go.Proofs.Ytnnpiblnjflceaa
open Go.RowKit
set_option maxRecDepth 100000

theorem tokP_lit : ∀ (l : List Tok) (p : List Tok × List Nat), (∀ t ∈ l, t.lit < 256) → (∀ t ∈ p.1, t.lit < 256) → ∀ t ∈ (tokP l p).1, t.lit < 256
  | [], _, _, hp => hp
  | t :: l, p, hl, hp => tokP_lit l _ (fun u hu => hl u (List.mem_cons_of_mem _ hu)) (fun u hu => by
      rcases List.mem_append.1 hu with hu | hu
      · exact hp u hu
      · obtain rfl := List.mem_singleton.1 hu
        exact fixT_lit _ _ (hl t (List.mem_cons_self ..)))
theorem tokP_count (l : List Tok) (p : List Tok × List Nat) : (tokP l p).1.length = p.1.length + l.length := by
  induction l generalizing p with
  | nil => rfl
  | cons t l ih =>
    rw [tokP, ih]
    simp
    omega

theorem made_byte (L : Nat) : (madeCells (Value.int .u8 0).cells (L * 1)).toList = bx (List.replicate L 0) := by
  apply List.ext_getElem
  · simp [madeCells, bx]
  · intro i h1 h2
    simp [madeCells, bx, Value.cells, Nat.mod_one]
/-- The first bytes of a row of noughts. -/
theorem noughts_in {w : World} {B g N m : Nat} {gw : Nat} {cs : Array Value} {t : TypeId} (h : w.ownsRow B 5 1 (.slice (some ⟨g, 0, none⟩) N N) N (bx (List.replicate N 0))) (hm : m ≤ N) (hg : Whole w gw t cs) (ht : 5 ≠ t) : BytesIn w gw (.slice none 0 0) (some ⟨g, 0, none⟩) m N (List.replicate m 0) := by
  intro W hW
  have h1 := own_only h hW (fun k hk e => e.elim (fun e => own_ne_whole h hg ht k hk e) (fun e => by simp [Value.ownBlock] at e))
  have h2 := (Seen.of_own h1).cut (q := 0) (n := m) (by omega)
  have e : ((bx (List.replicate N 0)).drop 0).take m = bx (List.replicate m 0) := by
    simp [bx, Nat.min_eq_left hm]
  rw [e] at h2
  exact ⟨_, by simpa [Addr.add] using h2⟩

set_option maxHeartbeats 4000000 in
theorem refuse_law (A : Option Addr) (n c B : Nat) (l : List Tok) (hl : ∀ t ∈ l, t.lit < 256) (tl : Nat) (htl : tl < 256) (tn td : Int) (mo : Nat) (hmo : mo < 256) (w : World) (hs : Seen w B 3 A n c (tvs l)) (hB : B ≤ w.heap.size) :
    Calls Try.prog 5 #[.slice A n c, .agg #[.int .u8 tl, .int .i64 tn, .int .i64 td], .int .u8 mo] w fun e w' => e = .returned (.bool true) ∧ Below w.heap.size w w' := by
  obtain ⟨i0, hi0, hz0, hz1, hz2⟩ := info_parts tok_info
  have hln : l.length = n := by have := hs.1; rw [tvs_length] at this; omega
  have hB0 : Below w.heap.size w (w.alloc (.cells #[.int .u8 tl, .int .i64 tn, .int .i64 td] 41)) := (Below.refl _ _).alloc (Nat.le_refl _) _
  have HS := Lib.hid (hs.below (hB0.mono hB)); have HLN := Lib.hid hln; have HL := Lib.hid hl; have BB0 := Lib.hid hB0
  have WT := Lib.hid (Whole.new w 41 #[.int .u8 tl, .int .i64 tn, .int .i64 td])
  have CR := Lib.hid (fun W => rright_any tl tn td W)
  obtain ⟨R, hRt⟩ : ∃ R, rightT ⟨tl, tn, td⟩ = R := ⟨_, rfl⟩
  rw [hRt] at CR
  have HRT := Lib.hid hRt
  obtain ⟨g0, hg0⟩ : ∃ g0, w.heap.size = g0 := ⟨_, rfl⟩
  rw [hg0] at WT
  clear hs hln hl hB0 hRt
  go_enter Try.func5, Try.ntmps5
  go_wp2_with fail
  clear hg0
  generalize w.alloc (.cells #[.int .u8 tl, .int .i64 tn, .int .i64 td] 41) = W0 at *
  refine (fixed_any W0).mono ?_
  rintro e w1 ⟨rfl, hb1⟩
  have HS1 := Lib.hid (HS.out.below (hb1.mono (Nat.le_trans hB BB0.out.size)))
  have B1 := Lib.hid (BB0.out.trans (hb1.mono BB0.out.size))
  have hW1 := WT.out.only (Only.of_below hb1 Nob) (fun h => h)
  have WT1 := Lib.hid hW1
  have v0 : w1.cell? ⟨g0, 0, none⟩ = some (.int .u8 tl) := hW1.cell 0
  have v1 : w1.cell? ⟨g0, 1, none⟩ = some (.int .i64 tn) := hW1.cell 1
  have v2 : w1.cell? ⟨g0, 2, none⟩ = some (.int .i64 td) := hW1.cell 2
  clear hb1 hW1 BB0 WT HS
  by_cases hn40 : 40 < n
  · have d40 : decide (40 < n) = true := decide_eq_true hn40
    have d40' : decide ((40 : Int) < n) = true := decide_eq_true (by omega)
    go_wp2_with fail
    go_ret
    exact ⟨rfl, B1.out⟩
  have d40 : decide (40 < n) = false := decide_eq_false hn40
  have d40' : decide ((40 : Int) < n) = false := decide_eq_false (by omega)
  go_wp2_with fail
  refine (CR.out _).mono ?_
  rintro e w2 ⟨rfl, hb2⟩
  have hW2 := WT1.out.only (Only.of_below hb2 Nob) (fun h => h)
  have WT2 := Lib.hid hW2
  have v0 : w2.cell? ⟨g0, 0, none⟩ = some (.int .u8 tl) := hW2.cell 0
  have v1 : w2.cell? ⟨g0, 1, none⟩ = some (.int .i64 tn) := hW2.cell 1
  have v2 : w2.cell? ⟨g0, 2, none⟩ = some (.int .i64 td) := hW2.cell 2
  have HS2 := Lib.hid (HS1.out.below (hb2.mono (Nat.le_trans hB B1.out.size)))
  have B2 := Lib.hid (B1.out.trans (hb2.mono B1.out.size))
  clear hb2 hW2 B1 WT1 HS1 d40 d40'
  cases R with
  | true =>
    go_wp2_with fail
    go_ret
    exact ⟨rfl, B2.out⟩
  | false =>
  have CT := Lib.hid (lawTokens_any A n c B l (by omega) w2 HS2.out (Nat.le_trans hB B2.out.size))
  go_wp2_with fail
  refine CT.out.mono ?_
  rintro e w3 ⟨vo, vb, rfl, ho, hbb, hb3⟩
  clear hbb CT HS2
  have hW3 := WT2.out.only (Only.of_below hb3 Nob) (fun h => h)
  have WT3 := Lib.hid hW3
  have v0 : w3.cell? ⟨g0, 0, none⟩ = some (.int .u8 tl) := hW3.cell 0
  have v1 : w3.cell? ⟨g0, 1, none⟩ = some (.int .i64 tn) := hW3.cell 1
  have v2 : w3.cell? ⟨g0, 2, none⟩ = some (.int .i64 td) := hW3.cell 2
  have hP := tokP_lit l ([], []) HL.out (fun _ h => by cases h)
  obtain ⟨P1, hP1⟩ : ∃ P1, (tokP l ([], [])).1 = P1 := ⟨_, rfl⟩
  rw [hP1] at ho hP
  rw [HLN.out] at ho
  have ho := own_base ho B2.out.size
  have HP := Lib.hid hP
  have HO3 := Lib.hid ho
  have B3 := Lib.hid (B2.out.trans (hb3.mono B2.out.size))
  obtain ⟨As, cs, rfl, _⟩ := own_form ho
  clear hb3 hW3 B2 WT2 hP hP1 ho
  have HSN : Hid (Seen (w3.alloc (.cells #[.int .u8 tl, .int .i64 tn, .int .i64 td] 41)) (w3.heap.size + 1) 3 (some ⟨w3.heap.size, 0, none⟩) 1 1 (tvs [⟨tl, tn, td⟩])) := Lib.hid (seen_tok _ _ _ _)
  have hBa : Below w3.heap.size w3 (w3.alloc (.cells #[.int .u8 tl, .int .i64 tn, .int .i64 td] 41)) := (Below.refl _ _).alloc (Nat.le_refl _) _
  have HOA := Lib.hid (own_only HO3.out (Only.of_below hBa Nob) (fun _ _ h => h))
  have BA := Lib.hid (B3.out.trans (hBa.mono B3.out.size))
  have WTA := Lib.hid (WT3.out.only (Only.of_below hBa Nob) (fun h => h))
  clear hBa
  go_wp2_with (at_builtin; refine wpList_append_seen _ rfl (.tmp 25) (.tmp 27) _ rfl w.heap.size 41 i0 _ 3 24 Try.underlying26 hi0 hz0 hz1 hz2 rfl (by omega) (.slice As n cs) n (tvs P1) rfl HOA.out _ _ 1 1 (tvs [⟨tl, tn, td⟩]) rfl HSN.out (tvs_one _) (by simp only [maxLen]; omega) (by omega) (BA.out.size) ?_; intro s1 w6 hown6 hg6 hat6)
  have hB6 := BA.out.grown hg6 BA.out.size (fun j hj => (own_whole HOA.out hj).1)
  rw [← tvs_append] at hown6
  obtain ⟨A6, c6, rfl, _⟩ := own_form hown6
  have HO6 := Lib.hid hown6; have B6 := Lib.hid hB6
  clear hown6 hg6 hat6 hB6 HSN HOA BA WTA HO3 B3 WT3 v0 v1 v2
  go_wp2_with fail
  refine (newWriter_any w6).mono ?_
  rintro e w7 ⟨rfl, hw7, hb7⟩
  have HO7 := Lib.hid (own_only HO6.out (Only.of_below hb7 Nob) (fun _ _ h => h))
  have B7 := Lib.hid (B6.out.trans (hb7.mono B6.out.size))
  have HW7 := Lib.hid hw7
  have hgw : w.heap.size ≤ w6.heap.size := B6.out.size
  obtain ⟨gw, hgw'⟩ : ∃ gw, w6.heap.size = gw := ⟨_, rfl⟩
  rw [hgw'] at HW7 hgw ⊢
  clear hw7 hb7 hgw' HO6 B6
  obtain ⟨r, hr⟩ : ∃ r, mo % 2 = r := ⟨_, rfl⟩
  have r2 : r < 2 := by omega
  have er1 : (mo : Int).tmod 2 = r := by rw [Int.tmod_eq_emod_of_nonneg (by omega)]; omega
  have er2 : (mo : Int) % 2 = r := by omega
  obtain ⟨N, hN⟩ : ∃ N, 65535 + r = N := ⟨_, rfl⟩
  have eN : (65535 : Int) + r = N := by omega
  have wr1 : IntKind.u8.wrap (r : Int) = r := by simp [IntKind.wrap, IntKind.signed, IntKind.bits]; omega
  have wr2 : IntKind.i64.wrap (r : Int) = r := IntWalk.i64_in _ (by omega)
  have wN : IntKind.i64.wrap (N : Int) = N := IntWalk.i64_in _ (by omega)
  obtain ⟨j0, hj0, hy0, hy1, hy2⟩ := info_parts byte_info
  have hO : j0.bytes * N ≤ 281474976710656 := by rw [hy2]; omega
  have hNlo : 65535 ≤ N := by omega
  have hNhi : N ≤ 65536 := by omega
  have HNN := Lib.hid hN; have HRR := Lib.hid hr
  clear hN hr
  go_wp2_with (at_make; refine wpList_make_full _ rfl _ _ 27 rfl w7.heap.size 5 j0 _ 1 Try.underlying27 hj0 hy0 hy1 _ _ (N : Int) (N : Int) N rfl rfl rfl rfl hO (by simp only [maxLen]; omega) (Nat.le_refl _) ?_; intro w8 hown8 hg8)
  rw [made_byte] at hown8
  have HN8 := Lib.hid hown8
  have hb8 : Below w7.heap.size w7 w8 := (Below.refl _ _).grown hg8 (Nat.le_refl _) (by simp)
  have HO8 := Lib.hid (own_only HO7.out (Only.of_below hb8 Nob) (fun _ _ h => h))
  have B8 := Lib.hid (B7.out.trans (hb8.mono B7.out.size))
  have HW8 := Lib.hid (HW7.out.below hb8)
  obtain ⟨gl, hgl⟩ : ∃ gl, w7.heap.size = gl := ⟨_, rfl⟩
  rw [hgl] at HN8 ⊢
  have hgl' : w.heap.size ≤ gl := by have := B7.out.size; omega
  clear hown8 hg8 hb8 hgl HO7 B7 HW7 hO
  have d1 : decide (65535 ≤ N) = true := decide_eq_true (by omega)
  have d2 : decide ((65535 : Int) ≤ N) = true := decide_eq_true (by omega)
  have HBI := Lib.hid (noughts_in (m := 65535) HN8.out hNlo HW8.out.2.1 (by decide))
  have hbl : (List.replicate 65535 0).length = 65535 := List.length_replicate ..
  have hb0 : ∀ x ∈ List.replicate 65535 0, x < 256 := fun x hx => by rw [List.eq_of_mem_replicate hx]; omega
  obtain ⟨bs, hbs⟩ : ∃ bs, List.replicate 65535 0 = bs := ⟨_, rfl⟩
  rw [hbs] at HBI hbl hb0
  have CS := Lib.hid (stored_any gw gw (.slice none 0 0) [] (Nat.zero_le _) (some ⟨gl, 0, none⟩) 65535 N bs hbl hb0 (Nat.le_refl _) true w8 HW8.out HBI.out)
  clear hbl hb0 hbs
  have HNE8 := Lib.hid (fun j hj => own_ne_whole HO8.out HW8.out.2.1 (by decide) j hj)
  clear HN8 HBI HW8
  go_wp2_with fail
  refine CS.out.mono ?_
  rintro e w9 ⟨rfl, sv9, p1, p2, p3⟩
  have HO9 := Lib.hid (own_only HO8.out p2 (fun k hk e => e.elim (fun e => HNE8.out k hk e) (fun e => by simp [Value.ownBlock] at e)))
  have B9 := Lib.hid (B8.out.trans (p2.below B8.out.size (fun k hk => by rcases hk with rfl | hk; exact hgw; simp [Value.ownBlock] at hk)))
  obtain ⟨X, hX⟩ : ∃ X, storedH [] 65535 true ++ unpack bs = X := ⟨_, rfl⟩
  rw [hX] at p1
  have P9 := Lib.hid p1
  clear p2 p3 CS HO8 B8 HNE8 p1 hX
  go_wp2_with fail
  refine (len_any gw gw sv9 X w9 P9.out).mono ?_
  rintro e w10 ⟨rfl, rfl⟩
  obtain ⟨m, hm⟩ : ∃ m, X.length = m := ⟨_, rfl⟩
  rw [hm]
  have CLEN := Lib.hid (fun W h => len_any gw gw sv9 X W h)
  rw [hm] at CLEN
  obtain ⟨Q, hQ⟩ : ∃ Q, P1 ++ [⟨tl, tn, td⟩] = Q := ⟨_, rfl⟩
  have hQl : ∀ t ∈ Q, t.lit < 256 := by
    rw [← hQ]
    intro t ht
    rcases List.mem_append.1 ht with ht | ht
    · exact HP.out t ht
    · obtain rfl := List.mem_singleton.1 ht
      exact htl
  have hQb : Q.all rightT = false := by rw [← hQ, List.all_append]; simp [HRT.out]
  rw [hQ] at HO9
  have C15 := Lib.hid (fun W (hO : W.ownsRow w.heap.size 41 3 (.slice A6 (n + 1) c6) (n + 1) (tvs Q)) => fixed_bad gw true A6 (n + 1) c6 W.heap.size Q hQl (by omega) hQb W (Seen.of_own hO) (Nat.le_refl _))
  have C16 := Lib.hid (fun W (hO : W.ownsRow w.heap.size 41 3 (.slice A6 (n + 1) c6) (n + 1) (tvs Q)) => dynamic_bad gw true A6 (n + 1) c6 W.heap.size Q hQl (by omega) hQb W (Seen.of_own hO) (Nat.le_refl _))
  have C17 := Lib.hid (fun W (hO : W.ownsRow w.heap.size 41 3 (.slice A6 (n + 1) c6) (n + 1) (tvs Q)) => write_bad gw true (.slice none 0 0) A6 (n + 1) c6 W.heap.size Q hQl (by omega) hQb W (Seen.of_own hO) (Nat.le_refl _))
  have C20 := Lib.hid (fun W (hO : W.ownsRow w.heap.size 41 3 (.slice A6 (n + 1) c6) (n + 1) (tvs Q)) => fixedBits_bad A6 (n + 1) c6 W.heap.size Q hQl (by omega) hQb W (Seen.of_own hO) (Nat.le_refl _))
  have C21 := Lib.hid (fun W (hO : W.ownsRow w.heap.size 41 3 (.slice A6 (n + 1) c6) (n + 1) (tvs Q)) => dynamicBits_bad A6 (n + 1) c6 W.heap.size Q hQl (by omega) hQb W (Seen.of_own hO) (Nat.le_refl _))
  have CL := Lib.hid (fun W (h : 65535 < N) => stored_long gw (some ⟨gl, 0, none⟩) N N h true W)
  clear hm hQ hQl hQb HP HRT
  by_cases hr1 : r = 1
  · subst hr1
    go_wp2_with fail
    refine (CL.out _ (by have := HNN.out; omega)).mono ?_
    rintro e w11 ⟨rfl, rfl⟩
    go_wp2_with fail
    refine (C15.out _ HO9.out).mono ?_
    rintro e w12 ⟨rfl, hb⟩
    have HO12 := Lib.hid (own_only HO9.out (Only.of_below hb Nob) (fun _ _ h => h)); have B12 := Lib.hid (B9.out.trans (hb.mono B9.out.size)); have P12 := Lib.hid (P9.out.below hb)
    clear hb
    go_wp2_with fail
    refine (C16.out _ HO12.out).mono ?_
    rintro e w13 ⟨rfl, hb⟩
    have HO13 := Lib.hid (own_only HO12.out (Only.of_below hb Nob) (fun _ _ h => h)); have B13 := Lib.hid (B12.out.trans (hb.mono B12.out.size)); have P13 := Lib.hid (P12.out.below hb)
    clear hb
    go_wp2_with fail
    refine (C17.out _ HO13.out).mono ?_
    rintro e w14 ⟨rfl, hb⟩
    have HO14 := Lib.hid (own_only HO13.out (Only.of_below hb Nob) (fun _ _ h => h)); have B14 := Lib.hid (B13.out.trans (hb.mono B13.out.size)); have P14 := Lib.hid (P13.out.below hb)
    clear hb
    go_wp2_with fail
    refine (C20.out _ HO14.out).mono ?_
    rintro e w15 ⟨rfl, hb⟩
    have HO15 := Lib.hid (own_only HO14.out (Only.of_below hb Nob) (fun _ _ h => h)); have B15 := Lib.hid (B14.out.trans (hb.mono B14.out.size)); have P15 := Lib.hid (P14.out.below hb)
    clear hb
    go_wp2_with fail
    refine (C21.out _ HO15.out).mono ?_
    rintro e w16 ⟨rfl, hb⟩
    have B16 := Lib.hid (B15.out.trans (hb.mono B15.out.size)); have P16 := Lib.hid (P15.out.below hb)
    clear hb
    go_wp2_with fail
    refine (CLEN.out _ P16.out).mono ?_
    rintro e w17 ⟨rfl, rfl⟩
    go_wp2_with fail
    refine (fixed_nil0 none 0 0 true _).mono ?_
    rintro e w18 ⟨rfl, rfl⟩
    go_wp2_with fail
    refine (dynamic_nil0 none 0 0 true _).mono ?_
    rintro e w19 ⟨rfl, rfl⟩
    go_wp2_with fail
    refine (write_nil0 none 0 0 true _ _).mono ?_
    rintro e w20 ⟨rfl, rfl⟩
    go_wp2_with fail
    go_ret
    exact ⟨rfl, B16.out⟩
  · obtain rfl : r = 0 := by omega
    go_wp2_with fail
    refine (C15.out _ HO9.out).mono ?_
    rintro e w12 ⟨rfl, hb⟩
    have HO12 := Lib.hid (own_only HO9.out (Only.of_below hb Nob) (fun _ _ h => h)); have B12 := Lib.hid (B9.out.trans (hb.mono B9.out.size)); have P12 := Lib.hid (P9.out.below hb)
    clear hb
    go_wp2_with fail
    refine (C16.out _ HO12.out).mono ?_
    rintro e w13 ⟨rfl, hb⟩
    have HO13 := Lib.hid (own_only HO12.out (Only.of_below hb Nob) (fun _ _ h => h)); have B13 := Lib.hid (B12.out.trans (hb.mono B12.out.size)); have P13 := Lib.hid (P12.out.below hb)
    clear hb
    go_wp2_with fail
    refine (C17.out _ HO13.out).mono ?_
    rintro e w14 ⟨rfl, hb⟩
    have HO14 := Lib.hid (own_only HO13.out (Only.of_below hb Nob) (fun _ _ h => h)); have B14 := Lib.hid (B13.out.trans (hb.mono B13.out.size)); have P14 := Lib.hid (P13.out.below hb)
    clear hb
    go_wp2_with fail
    refine (C20.out _ HO14.out).mono ?_
    rintro e w15 ⟨rfl, hb⟩
    have HO15 := Lib.hid (own_only HO14.out (Only.of_below hb Nob) (fun _ _ h => h)); have B15 := Lib.hid (B14.out.trans (hb.mono B14.out.size)); have P15 := Lib.hid (P14.out.below hb)
    clear hb
    go_wp2_with fail
    refine (C21.out _ HO15.out).mono ?_
    rintro e w16 ⟨rfl, hb⟩
    have B16 := Lib.hid (B15.out.trans (hb.mono B15.out.size)); have P16 := Lib.hid (P15.out.below hb)
    clear hb
    go_wp2_with fail
    refine (CLEN.out _ P16.out).mono ?_
    rintro e w17 ⟨rfl, rfl⟩
    go_wp2_with fail
    refine (fixed_nil0 none 0 0 true _).mono ?_
    rintro e w18 ⟨rfl, rfl⟩
    go_wp2_with fail
    refine (dynamic_nil0 none 0 0 true _).mono ?_
    rintro e w19 ⟨rfl, rfl⟩
    go_wp2_with fail
    refine (write_nil0 none 0 0 true _ _).mono ?_
    rintro e w20 ⟨rfl, rfl⟩
    go_wp2_with fail
    go_ret
    exact ⟨rfl, B16.out⟩

theorem byte_of_wf' {x : Int} (h : (Lit.int .u8 x).wf = true) : ∃ m : Nat, m < 256 ∧ x = m := by
  simp [Lit.wf, IntKind.min, IntKind.max, IntKind.signed, IntKind.bits] at h
  exact ⟨x.toNat, by omega, by omega⟩
theorem refuse_law' (A : Option Addr) (n c : Nat) (t : Tok) (ht : t.lit < 256) (mo : Int) (hmo : (Lit.int .u8 mo).wf = true) (w : World) (h : ∃ l : List Tok, l.length = n ∧ Seen w w.heap.size 3 A n c (tvs l) ∧ ∀ t ∈ l, t.lit < 256) :
    Calls Try.prog 5 #[.slice A n c, .agg #[.int .u8 t.lit, .int .i64 t.len, .int .i64 t.dist], .int .u8 mo] w fun e w' => e = .returned (.bool true) ∧ Below w.heap.size w w' := by
  obtain ⟨l, _, hs, hl⟩ := h
  obtain ⟨m, hm, rfl⟩ := byte_of_wf' hmo
  exact refuse_law A n c w.heap.size l hl t.lit ht t.len t.dist m hm w hs (Nat.le_refl _)
end Go.Proofs.Ytnnpiblnjflceaa

namespace Go.Proofs.Ytnnpiblnjflceaa
open Go.RowKit
set_option maxRecDepth 100000

theorem tokP_byte : ∀ (l : List Tok) (p : List Tok × List Nat), (∀ t ∈ l, t.lit < 256) → (∀ x ∈ p.2, x < 256) → ∀ x ∈ (tokP l p).2, x < 256
  | [], _, _, hp => hp
  | t :: l, _, hl, hp => tokP_byte l _ (fun u hu => hl u (List.mem_cons_of_mem _ hu)) (addT_lt (fixT_lit _ _ (hl t (List.mem_cons_self ..))) hp)
theorem put0 {w : World} {B g : Nat} {sv : Value} (h : WriterAt w B g sv []) (n : Nat) (hn : n ≤ 32) :
    Calls Try.prog 13 #[.pointer (some ⟨g, 0, none⟩), .int .u32 0, .int .i64 n] w fun e w' => e = .returned (.tuple #[]) ∧ PutPost w B g sv (bitsOf 0 n) w' :=
  (PutPost.put (PutPost.start h) 0 n (by omega) hn (by simp)).mono (fun _ _ h => ⟨h.1, by have := h.2.1; rwa [List.nil_append] at this⟩)
/-- The fewest bits after so many kinds. -/
def bst (s f d : Nat) : Nat → Nat
  | 0 => 0
  | 1 => s
  | 2 => min s f
  | _ => min (min s f) d

set_option maxHeartbeats 8000000 in
theorem least_law (A : Option Addr) (nt ct B : Nat) (l : List Tok) (hl : ∀ t ∈ l, t.lit < 256) (bi : Nat) (hbi : bi < 256) (w : World) (hs : Seen w B 3 A nt ct (tvs l)) (hB : B ≤ w.heap.size) :
    Calls Try.prog 4 #[.slice A nt ct, .int .u8 bi] w fun e w' => e = .returned (.bool true) ∧ Below w.heap.size w w' := by
  have hln : l.length = nt := by have := hs.1; rw [tvs_length] at this; omega
  have HS := Lib.hid hs; have HLN := Lib.hid hln; have HL := Lib.hid hl
  clear hs hln hl
  go_enter Try.func4, Try.ntmps4
  go_wp2_with fail
  refine (fixed_any w).mono ?_
  rintro e w1 ⟨rfl, hb1⟩
  have HS1 := Lib.hid (HS.out.below (hb1.mono hB)); have B1 := Lib.hid hb1
  clear hb1 HS
  by_cases hn40 : 40 < nt
  · have d40 : decide (40 < nt) = true := decide_eq_true hn40
    have d40' : decide ((40 : Int) < nt) = true := decide_eq_true (by omega)
    go_wp2_with fail
    go_ret
    exact ⟨rfl, B1.out⟩
  have d40 : decide (40 < nt) = false := decide_eq_false hn40
  have d40' : decide ((40 : Int) < nt) = false := decide_eq_false (by omega)
  have CT := Lib.hid (lawTokens_any A nt ct B l (by omega) w1 HS1.out (Nat.le_trans hB B1.out.size))
  go_wp2_with fail
  refine CT.out.mono ?_
  rintro e w2 ⟨vo, vb, rfl, ho, hbb, hb2⟩
  have hok := tokOk_take l (by rw [HLN.out]; omega) l.length (Nat.le_refl _)
  rw [List.take_length] at hok
  obtain ⟨k1, k2, k3, k4⟩ := hok
  have hlit := tokP_lit l ([], []) HL.out (fun _ h => by cases h)
  have hbyte := tokP_byte l ([], []) HL.out (fun _ h => by cases h)
  obtain ⟨P, hP⟩ : ∃ P, (tokP l ([], [])).1 = P := ⟨_, rfl⟩
  obtain ⟨bs, hbs⟩ : ∃ bs, (tokP l ([], [])).2 = bs := ⟨_, rfl⟩
  rw [hP] at ho k1 k2 hlit
  rw [hbs] at hbb k4 hbyte
  have hTks : Tks P := fun t ht => ⟨hlit t ht, List.all_eq_true.1 k2 t ht⟩
  rw [HLN.out] at ho k1 k4
  obtain ⟨nb, hnb⟩ : ∃ nb, bs.length = nb := ⟨_, rfl⟩
  rw [hnb] at hbb k4
  have hnb2 : nb ≤ 65535 := by omega
  obtain ⟨At, co, rfl, _⟩ := own_form ho
  obtain ⟨Ab, cb, rfl, _⟩ := own_form hbb
  have HO2 := Lib.hid (own_base ho B1.out.size); have HB2 := Lib.hid (own_base hbb B1.out.size)
  have B2 := Lib.hid (B1.out.trans (hb2.mono B1.out.size))
  have TKS := Lib.hid hTks; have HPL := Lib.hid k1; have HNB := Lib.hid hnb; have H256 := Lib.hid hbyte
  clear CT HS1 B1 ho hbb hb2 k1 k2 k3 hlit hbyte hP hbs hTks hnb HLN HL
  obtain ⟨n, hn⟩ : ∃ n, bi % 8 = n := ⟨_, rfl⟩
  have n8 : n < 8 := by omega
  have en1 : (bi : Int).tmod 8 = n := by rw [Int.tmod_eq_emod_of_nonneg (by omega)]; omega
  have en2 : (bi : Int) % 8 = n := by omega
  have wn1 : IntKind.u8.wrap (n : Int) = n := by simp [IntKind.wrap, IntKind.signed, IntKind.bits]; omega
  have wn2 : IntKind.i64.wrap (n : Int) = n := IntWalk.i64_in _ (by omega)
  obtain ⟨X, hX⟩ : ∃ X, bitsOf 0 n = X := ⟨_, rfl⟩
  have hXl : X.length = n := by rw [← hX]; simp
  have CP := Lib.hid (fun (W : World) (Bw g : Nat) (sv : Value) (h : WriterAt W Bw g sv []) => put0 h n (by omega))
  rw [hX] at CP
  obtain ⟨sS, hsS⟩ : ∃ s, n + stoS n nb = s := ⟨_, rfl⟩
  obtain ⟨sF, hsF⟩ : ∃ s, n + fixM P = s := ⟨_, rfl⟩
  obtain ⟨sD, hsD⟩ : ∃ s, n + dynM (cntL P cnt0) P = s := ⟨_, rfl⟩
  have CS := Lib.hid (fun W g sv (h : PenAt w At nt co P Ab nb cb bs W g sv X) => stored_any g g sv X (by omega) Ab nb cb bs HNB.out H256.out hnb2 false W h.wr h.bytes)
  have CX := Lib.hid (fun W g sv (h : PenAt w At nt co P Ab nb cb bs W g sv X) => fixed_T g g sv X (by omega) At nt co W.heap.size P TKS.out (by omega) HPL.out W h.wr (Seen.of_own h.o) (Nat.le_refl _) h.toks)
  have CD := Lib.hid (fun W g sv (h : PenAt w At nt co P Ab nb cb bs W g sv X) => dynamic_T g g sv X (by omega) At nt co W.heap.size P TKS.out (by omega) HPL.out W h.wr (Seen.of_own h.o) (Nat.le_refl _) h.toks)
  have CW := Lib.hid (fun W g sv (h : PenAt w At nt co P Ab nb cb bs W g sv X) => write_any g g sv X (by omega) At nt co W.heap.size P TKS.out (by omega) HPL.out Ab nb cb bs HNB.out H256.out hnb2 W h.wr (Seen.of_own h.o) (Nat.le_refl _) h.toks h.bytes)
  have HSL : Hid ((storedH X nb false ++ unpack bs).length = sS) := Lib.hid (by rw [stored_len _ _ _ HNB.out, hXl, hsS])
  rw [hXl, hsF] at CX
  rw [hXl, hsD] at CD
  rw [hXl, hsF, hsD] at CW
  have CLN := Lib.hid (fun (W : World) (g : Nat) (sv : Value) (Y : List Bool) (m : Nat) (hm : Y.length = m) (h : PenAt w At nt co P Ab nb cb bs W g sv Y) => (show Calls Try.prog 18 #[.pointer (some ⟨g, 0, none⟩)] W fun e w' => e = .returned (.int .i64 m) ∧ W = w' from by rw [← hm]; exact len_any g g sv Y W h.wr))
  clear hn hX hXl hsS hsF hsD TKS HPL HNB H256 k4
  go_wp2_with fail
  go_loopw [7, 8, 9, 23] (fun best _ _ i wr => ∃ k : Nat, k ≤ 3 ∧ i = .int .i64 k ∧ best = .int .i64 (bst sS sF sD k) ∧ Hid (wr.ownsRow w.heap.size 41 3 (.slice At nt co) nt (tvs P) ∧ wr.ownsRow w.heap.size 5 1 (.slice Ab nb cb) nb (bx bs) ∧ Below w.heap.size w wr)) (fun _ _ _ i _ => 4 - (intOf i).toNat)
  case atStart => exact ⟨0, by omega, rfl, rfl, Lib.hid ⟨HO2.out, HB2.out, B2.out⟩⟩
  case round =>
    obtain ⟨k, hk, rfl, rfl, h⟩ := hrel
    have hk4 : k = 0 ∨ k = 1 ∨ k = 2 ∨ k = 3 := by omega
    rcases hk4 with rfl | rfl | rfl | rfl
    · clear hk
      go_wp2_with fail
      refine (newWriter_any wr).mono ?_
      rintro e w3 ⟨rfl, hw3, hb3⟩
      obtain ⟨ho, hbb, hbel⟩ := h.out
      have hold : ∀ j, (Value.slice Ab nb cb).ownBlock = some j → j < wr.heap.size := fun j hj => (own_whole hbb hj).2.choose_spec.lt
      have HP3 : Hid (PenAt w At nt co P Ab nb cb bs w3 wr.heap.size (.slice none 0 0) []) := Lib.hid ⟨hw3, fun j hj => by simp [Value.ownBlock] at hj, own_only ho (Only.of_below hb3 Nob) (fun _ _ h => h), own_only hbb (Only.of_below hb3 Nob) (fun _ _ h => h), hold, hbel.size, hbel.trans (hb3.mono hbel.size)⟩
      obtain ⟨gw, hgw⟩ : ∃ gw, wr.heap.size = gw := ⟨_, rfl⟩
      rw [hgw] at HP3 ⊢
      clear hw3 hb3 ho hbb hbel hold hgw h
      go_wp2_with fail
      refine (CP.out _ _ _ _ HP3.out.wr).mono ?_
      rintro e w4 ⟨rfl, hp4⟩
      obtain ⟨sv4, hpen4⟩ := HP3.out.step hp4
      have HP4 := Lib.hid hpen4
      clear hp4 hpen4 HP3
      go_wp2_with fail
      refine (CS.out w4 gw sv4 HP4.out).mono ?_
      rintro e w5 ⟨rfl, hp5⟩
      obtain ⟨sv5, hpen5⟩ := HP4.out.step hp5
      have HP5 := Lib.hid hpen5
      clear hp5 hpen5 HP4
      go_wp2_with fail
      refine (CLN.out w5 gw sv5 _ sS HSL.out HP5.out).mono ?_
      rintro e wq ⟨rfl, rfl⟩
      go_wp2_with fail
      go_roundw
      case rel => exact ⟨1, by omega, by first | rfl | go_num, by first | rfl | (simp [bst]; omega), Lib.hid ⟨HP5.out.o, HP5.out.b, HP5.out.bel⟩⟩
      case measure => simp [intOf]
    · clear hk
      go_wp2_with fail
      refine (newWriter_any wr).mono ?_
      rintro e w3 ⟨rfl, hw3, hb3⟩
      obtain ⟨ho, hbb, hbel⟩ := h.out
      have hold : ∀ j, (Value.slice Ab nb cb).ownBlock = some j → j < wr.heap.size := fun j hj => (own_whole hbb hj).2.choose_spec.lt
      have HP3 : Hid (PenAt w At nt co P Ab nb cb bs w3 wr.heap.size (.slice none 0 0) []) := Lib.hid ⟨hw3, fun j hj => by simp [Value.ownBlock] at hj, own_only ho (Only.of_below hb3 Nob) (fun _ _ h => h), own_only hbb (Only.of_below hb3 Nob) (fun _ _ h => h), hold, hbel.size, hbel.trans (hb3.mono hbel.size)⟩
      obtain ⟨gw, hgw⟩ : ∃ gw, wr.heap.size = gw := ⟨_, rfl⟩
      rw [hgw] at HP3 ⊢
      clear hw3 hb3 ho hbb hbel hold hgw h
      go_wp2_with fail
      refine (CP.out _ _ _ _ HP3.out.wr).mono ?_
      rintro e w4 ⟨rfl, hp4⟩
      obtain ⟨sv4, hpen4⟩ := HP3.out.step hp4
      have HP4 := Lib.hid hpen4
      clear hp4 hpen4 HP3
      go_wp2_with fail
      refine (CX.out w4 gw sv4 HP4.out).mono ?_
      rintro e w5 ⟨rfl, Y, hp5, hY⟩
      obtain ⟨sv5, hpen5⟩ := HP4.out.step hp5
      have HP5 := Lib.hid hpen5; have HY := Lib.hid hY
      clear hp5 hpen5 HP4 hY
      have hbe : bst sS sF sD 1 = sS := rfl
      rw [hbe]
      obtain ⟨q, hq⟩ : ∃ q, sS = q := ⟨_, rfl⟩
      rw [hq]
      have HQ := Lib.hid hq
      clear hbe hq
      go_wp2_with fail
      refine (CLN.out w5 gw sv5 _ sF HY.out HP5.out).mono ?_
      rintro e wq ⟨rfl, rfl⟩
      by_cases hlt : sF < q
      · have dl : decide (sF < q) = true := decide_eq_true hlt
        have dl' : decide ((sF : Int) < q) = true := decide_eq_true (by omega)
        go_wp2_with fail
        refine (CLN.out w5 gw sv5 _ sF HY.out HP5.out).mono ?_
        rintro e wq ⟨rfl, rfl⟩
        go_wp2_with fail
        have hbn : bst sS sF sD 2 = sF := by have := HQ.out; simp only [bst]; omega
        go_roundw
        case rel => exact ⟨2, by omega, by first | rfl | go_num, by rw [hbn], Lib.hid ⟨HP5.out.o, HP5.out.b, HP5.out.bel⟩⟩
        case measure => simp [intOf]
      · have dl : decide (sF < q) = false := decide_eq_false hlt
        have dl' : decide ((sF : Int) < q) = false := decide_eq_false (by omega)
        go_wp2_with fail
        have hbn : bst sS sF sD 2 = q := by have := HQ.out; simp only [bst]; omega
        go_roundw
        case rel => exact ⟨2, by omega, by first | rfl | go_num, by rw [hbn], Lib.hid ⟨HP5.out.o, HP5.out.b, HP5.out.bel⟩⟩
        case measure => simp [intOf]
    · clear hk
      go_wp2_with fail
      refine (newWriter_any wr).mono ?_
      rintro e w3 ⟨rfl, hw3, hb3⟩
      obtain ⟨ho, hbb, hbel⟩ := h.out
      have hold : ∀ j, (Value.slice Ab nb cb).ownBlock = some j → j < wr.heap.size := fun j hj => (own_whole hbb hj).2.choose_spec.lt
      have HP3 : Hid (PenAt w At nt co P Ab nb cb bs w3 wr.heap.size (.slice none 0 0) []) := Lib.hid ⟨hw3, fun j hj => by simp [Value.ownBlock] at hj, own_only ho (Only.of_below hb3 Nob) (fun _ _ h => h), own_only hbb (Only.of_below hb3 Nob) (fun _ _ h => h), hold, hbel.size, hbel.trans (hb3.mono hbel.size)⟩
      obtain ⟨gw, hgw⟩ : ∃ gw, wr.heap.size = gw := ⟨_, rfl⟩
      rw [hgw] at HP3 ⊢
      clear hw3 hb3 ho hbb hbel hold hgw h
      go_wp2_with fail
      refine (CP.out _ _ _ _ HP3.out.wr).mono ?_
      rintro e w4 ⟨rfl, hp4⟩
      obtain ⟨sv4, hpen4⟩ := HP3.out.step hp4
      have HP4 := Lib.hid hpen4
      clear hp4 hpen4 HP3
      go_wp2_with fail
      refine (CD.out w4 gw sv4 HP4.out).mono ?_
      rintro e w5 ⟨rfl, Y, hp5, hY⟩
      obtain ⟨sv5, hpen5⟩ := HP4.out.step hp5
      have HP5 := Lib.hid hpen5; have HY := Lib.hid hY
      clear hp5 hpen5 HP4 hY
      have hbe : bst sS sF sD 2 = min sS sF := rfl
      rw [hbe]
      obtain ⟨q, hq⟩ : ∃ q, min sS sF = q := ⟨_, rfl⟩
      rw [hq]
      have HQ := Lib.hid hq
      clear hbe hq
      go_wp2_with fail
      refine (CLN.out w5 gw sv5 _ sD HY.out HP5.out).mono ?_
      rintro e wq ⟨rfl, rfl⟩
      by_cases hlt : sD < q
      · have dl : decide (sD < q) = true := decide_eq_true hlt
        have dl' : decide ((sD : Int) < q) = true := decide_eq_true (by omega)
        go_wp2_with fail
        refine (CLN.out w5 gw sv5 _ sD HY.out HP5.out).mono ?_
        rintro e wq ⟨rfl, rfl⟩
        go_wp2_with fail
        have hbn : bst sS sF sD 3 = sD := by have := HQ.out; simp only [bst]; omega
        go_roundw
        case rel => exact ⟨3, by omega, by first | rfl | go_num, by rw [hbn], Lib.hid ⟨HP5.out.o, HP5.out.b, HP5.out.bel⟩⟩
        case measure => simp [intOf]
      · have dl : decide (sD < q) = false := decide_eq_false hlt
        have dl' : decide ((sD : Int) < q) = false := decide_eq_false (by omega)
        go_wp2_with fail
        have hbn : bst sS sF sD 3 = q := by have := HQ.out; simp only [bst]; omega
        go_roundw
        case rel => exact ⟨3, by omega, by first | rfl | go_num, by rw [hbn], Lib.hid ⟨HP5.out.o, HP5.out.b, HP5.out.bel⟩⟩
        case measure => simp [intOf]
    · clear hk
      go_wp2_with fail
      refine (newWriter_any wr).mono ?_
      rintro e w3 ⟨rfl, hw3, hb3⟩
      obtain ⟨ho, hbb, hbel⟩ := h.out
      have hold : ∀ j, (Value.slice Ab nb cb).ownBlock = some j → j < wr.heap.size := fun j hj => (own_whole hbb hj).2.choose_spec.lt
      have HP3 : Hid (PenAt w At nt co P Ab nb cb bs w3 wr.heap.size (.slice none 0 0) []) := Lib.hid ⟨hw3, fun j hj => by simp [Value.ownBlock] at hj, own_only ho (Only.of_below hb3 Nob) (fun _ _ h => h), own_only hbb (Only.of_below hb3 Nob) (fun _ _ h => h), hold, hbel.size, hbel.trans (hb3.mono hbel.size)⟩
      obtain ⟨gw, hgw⟩ : ∃ gw, wr.heap.size = gw := ⟨_, rfl⟩
      rw [hgw] at HP3 ⊢
      clear hw3 hb3 ho hbb hbel hold hgw h
      go_wp2_with fail
      refine (CP.out _ _ _ _ HP3.out.wr).mono ?_
      rintro e w4 ⟨rfl, hp4⟩
      obtain ⟨sv4, hpen4⟩ := HP3.out.step hp4
      have HP4 := Lib.hid hpen4
      clear hp4 hpen4 HP3
      go_wp2_with fail
      refine (CW.out w4 gw sv4 HP4.out).mono ?_
      rintro e w5 ⟨rfl, Y, hp5, hY⟩
      obtain ⟨sv5, hpen5⟩ := HP4.out.step hp5
      have HP5 := Lib.hid hpen5
      have hY3 : Y.length = bst sS sF sD 3 := by rw [hY, HSL.out]; simp only [bst]; omega
      have HY := Lib.hid hY3
      obtain ⟨q, hq⟩ : ∃ q, bst sS sF sD 3 = q := ⟨_, rfl⟩
      rw [hq] at HY ⊢
      clear hp5 hpen5 HP4 hY hY3 hq
      go_wp2_with fail
      refine (CLN.out w5 gw sv5 _ q HY.out HP5.out).mono ?_
      rintro e wq ⟨rfl, rfl⟩
      go_wp2_with fail
      go_ret
      exact ⟨by simp, HP5.out.bel⟩

theorem least_law' (A : Option Addr) (n c : Nat) (mo : Int) (hmo : (Lit.int .u8 mo).wf = true) (w : World) (h : ∃ l : List Tok, l.length = n ∧ Seen w w.heap.size 3 A n c (tvs l) ∧ ∀ t ∈ l, t.lit < 256) :
    Calls Try.prog 4 #[.slice A n c, .int .u8 mo] w fun e w' => e = .returned (.bool true) ∧ Below w.heap.size w w' := by
  obtain ⟨l, _, hs, hl⟩ := h
  obtain ⟨m, hm, rfl⟩ := byte_of_wf' hmo
  exact least_law A n c w.heap.size l hl m hm w hs (Nat.le_refl _)
end Go.Proofs.Ytnnpiblnjflceaa

namespace Go.Proofs.Ytnnpiblnjflceaa.lawBlocksLeast
open Go.ChangeShapes Go.WideShapes Go.ChangeAt Go.RowKit
set_option linter.unusedVariables false

theorem own : ownKnob Try.prog.godebug = none := by kernel_rfl
theorem laidOut : laidOutB Try.prog = true := by kernel_rfl

set_option maxRecDepth 100000 in
theorem lifted (os : Os) (started : os.Started) (H : Type) (enc : TypeId × Value → H) :
    ReturnsInHanded {} Try.checked os 4 .any (Rows.blocksLeastSpec.pre6 enc Try.prog Try.f4 Rows.blocksLeastRow.domain false) (Rows.blocksLeastSpec.post enc Try.prog Try.f4 false true false false) := by
  refine returnsInHanded_of_change (C := Try.checked) own started (by kernel_rfl) Try.func4
    (ChangeSpec.witness6 (enc := enc) (C := Try.checked) false ⟨#[], #[.slice none 0 0, .int .u8 0], []⟩ 8 (by kernel_rfl) (by kernel_rfl) (by kernel_rfl) (by kernel_rfl)) ?_
  intro W base args ds gs before hval0 hW hcnd _
  have hval : ∀ (j : Nat) t v, Try.f4.params[j]? = some t → args[j]? = some v → Value.okWide Try.prog W .any base t v := hval0
  have hW' := hW
  obtain ⟨p, q, hA0, hV, rfl, hfz, hnd⟩ := hW
  have hA : DataW.TrodAll enc Try.prog W 0 (fun _ => true) true Try.f4.params.toList args.toList ds p := hA0
  rw [Try.params4] at hA hval
  obtain ⟨v0, vs0, d0, ds0, p0, q0, hargs, rfl, rfl, h0, r0⟩ := trodAll_cons hA
  obtain ⟨v1, vs1, d1, ds1, p1, q1, rfl, rfl, rfl, h1, r1⟩ := trodAll_cons r0
  obtain ⟨rfl, rfl, rfl⟩ := trodAll_nil r1
  obtain rfl : args = #[v0, v1] := by cases args; simp_all
  obtain ⟨rfl, rfl⟩ := trodVars_none hV
  obtain ⟨a0, len0, cap0, rfl⟩ := okWide_slice Try.underlying26 (hval 0 26 v0 rfl rfl)
  have k0 := h0
  have lt0 : ∀ x ∈ p0, x.block < W.heap.size := by obtain ⟨m, hm⟩ := k0; exact DataW.trod_lt m _ _ _ hm
  obtain ⟨hm0, hp0⟩ : len0 ≤ 9223372036854775807 ∧ ∃ l : List Tok, l.length = len0 ∧ Seen W W.heap.size 3 a0 len0 cap0 (tvs l) ∧ ∀ t ∈ l, t.lit < 256 := by
    obtain ⟨fuel, hf⟩ := h0
    exact toks_of hf
  obtain ⟨a1, rfl, rfl, rfl, w1⟩ := open_int Try.underlying5 (hval 1 5 v1 rfl rfl) h1
  clear hA0 hval0
  refine (least_law' a0 len0 cap0 a1 w1 W hp0).mono fun e W' ⟨he, bel⟩ => ?_
  subst he
  exact ⟨_, rfl, _, _, _, [], _, [], hW', trodAll_mk1 (shut_bool Try.underlying4 _), (trodAll_cons_mk (Below.trod laidOut (by kernel_rfl) (of_decide_eq_true (by kernel_rfl)) k0 bel lt0) (trodAll_cons_mk (shut_int Try.underlying5 w1) trodAll_mk0)), rfl, bel.frame _, fun h => by cases h⟩

theorem proved : Rows.BlocksLeastSaid :=
  OpenClaim.holds_of_wide 4 Try.f4 rfl rfl rfl rfl rfl rfl rfl ⟨rfl, rfl, rfl, rfl, rfl⟩ rfl rfl rfl rfl rfl (by kernel_rfl) Try.func4 (by kernel_rfl)
    (of_decide_eq_true (by kernel_rfl)) (by unfold Func.isWrapper; first | (rw [if_pos (by decide +kernel)]; kernel_rfl) | (rw [if_neg (by decide +kernel)]; exact ⟨rfl, rfl⟩))
    (fun os started H enc _ => lifted os started H enc)
#print axioms proved
end Go.Proofs.Ytnnpiblnjflceaa.lawBlocksLeast
