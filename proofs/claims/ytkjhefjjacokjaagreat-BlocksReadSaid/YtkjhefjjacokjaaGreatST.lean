/-
  Plain mathematics of bits: filling up, and what puts write. Conditions: none. Nothing of the program stands here.
  The contract of a writer's Align. Conditions: at most a million bits.
  The contract of Stored. Conditions: the bytes stay readable while bits are written.
-/
import Derived.Test.YtkjhefjjacokjaaGreatF
import Derived.Test.YtkjhefjjacokjaaGreatG4
import Derived.Test.YtkjhefjjacokjaaGreatTF
namespace Go.Proofs.YtkjhefjjacokjaaGreat
/-- Filled up to a whole byte. -/
def padTo (l : List Bool) : List Bool := l ++ List.replicate ((8 - l.length % 8) % 8) false
theorem num_zeros (n : Nat) : num (List.replicate n false) = 0 := by
  induction n with
  | zero => rfl
  | succ n ih => simp [List.replicate_succ, num, ih]
theorem pack_pad (l : List Bool) : pack (padTo l) = pack l := by
  unfold padTo
  by_cases h : l.length % 8 = 0
  · simp [h]
  · rw [pack_more l _ (by simp; omega) (by simp; omega), num_zeros, Nat.mul_zero, Nat.add_zero]
    have := pack_full l
    rw [if_neg h] at this
    exact this
theorem padTo_length (l : List Bool) : (padTo l).length = 8 * ((l.length + 7) / 8) := by
  simp [padTo]; omega
theorem padTo_le (l : List Bool) : (padTo l).length ≤ l.length + 7 := by
  simp [padTo]; omega
end Go.Proofs.YtkjhefjjacokjaaGreat

namespace Go.Proofs.YtkjhefjjacokjaaGreat
open Go.RowKit
set_option maxRecDepth 100000
theorem writerAlign_any (B g : Nat) (sv : Value) (l : List Bool) (w : World) (hw : WriterAt w B g sv l) (hl : l.length ≤ 1000000) :
    Calls Tryz.prog 22 #[.pointer (some ⟨g, 0, none⟩)] w fun e w' => e = .returned (.tuple #[]) ∧ WriterAt w' B g sv (padTo l) ∧ Only (fun k => k = g) w w' := by
  obtain ⟨hBg, hWh, hown⟩ := hw
  have hne := own_ne_whole hown hWh (by decide)
  have HN := Lib.hid hne; clear hne
  obtain ⟨A, c, rfl, hcm⟩ := own_form hown
  have c0 : w.cell? ⟨g, 0, none⟩ = some (.slice A ((l.length + 7) / 8) c) := by simpa using hWh.cell 0
  have c1 : w.cell? ⟨g, 1, none⟩ = some (.int .i64 l.length) := by simpa using hWh.cell 1
  have f1 := hWh.frozen 1
  obtain ⟨q, hq⟩ : ∃ q, (l.length + 7) / 8 = q := ⟨_, rfl⟩
  rw [hq] at c0 hWh hown HN
  have hq2 : q ≤ 1000000 := by omega
  have HQ := Lib.hid hq; clear hq
  go_enter Tryz.func22, Tryz.ntmps22
  go_wp2
  go_end0
  have hO := (Only.refl (fun k => k = g) w).setCell (p := ⟨g, 1, none⟩) (.inl rfl) (.int .i64 (8 * (q : Int)))
  have h8 : (padTo l).length = 8 * q := by rw [padTo_length, HQ.out]
  rw [HQ.out]
  refine ⟨rfl, ⟨hBg, ?_, ?_⟩, hO⟩
  · rw [h8]
    simpa using hWh.put 1 (.int .i64 (8 * (q : Int)))
  · rw [h8, show (8 * q + 7) / 8 = q by omega, pack_pad]
    exact own_only hown hO (fun k hk => HN.out k hk)
end Go.Proofs.YtkjhefjjacokjaaGreat

namespace Go.Proofs.YtkjhefjjacokjaaGreat
open Go.RowKit
set_option maxRecDepth 100000
theorem headB_length' (k : Nat) (b : Bool) : (headB k b).length = 3 := by simp [headB]
theorem xor_ones (n : Nat) (h : n < 4294967296) : 4294967295 ^^^ n = 4294967295 - n := by
  have e : BitVec.ofNat 32 n ^^^ BitVec.allOnes 32 = ~~~ (BitVec.ofNat 32 n) := BitVec.xor_allOnes
  have := congrArg BitVec.toNat e
  rw [BitVec.toNat_not, BitVec.toNat_xor, BitVec.toNat_allOnes, BitVec.toNat_ofNat, Nat.mod_eq_of_lt (by omega)] at this
  rw [Nat.xor_comm]
  simpa using this
theorem max_xor (n : Nat) (h : n < 4294967296) : bits BinOp.xor IntKind.u32 IntKind.u32.max (n : Int) = ((4294967295 - n : Nat) : Int) := by
  rw [show IntKind.u32.max = ((4294967295 : Nat) : Int) from rfl, u32_xor_nat _ _ (by omega) h, xor_ones n h]
/-- Bytes that stay readable while a writer writes. -/
def BytesIn (w : World) (g : Nat) (sv : Value) (A : Option Addr) (n c : Nat) (bs : List Nat) : Prop := ∀ W, Only (Foot g sv) w W → ∃ B, Seen W B 1 A n c (bx bs)
/-- What a stored block is ahead of its bytes. -/
def storedH (l : List Bool) (n : Nat) (last : Bool) : List Bool := padTo (l ++ headB 0 last) ++ bitsOf n 16 ++ bitsOf (4294967295 - n) 16
set_option maxHeartbeats 2000000 in
theorem stored_any (B g : Nat) (sv : Value) (l : List Bool) (hl : l.length ≤ 400000) (A : Option Addr) (n c : Nat) (bs : List Nat) (hbn : bs.length = n) (h256 : ∀ x ∈ bs, x < 256) (hn : n ≤ 65535) (last : Bool) (w : World) (hw : WriterAt w B g sv l) (hb : BytesIn w g sv A n c bs) :
    Calls Tryz.prog 7 #[.pointer (some ⟨g, 0, none⟩), .slice A n c, .bool last] w fun e w' => e = .returned (.int .i64 0) ∧ PutPost w B g sv (storedH l n last ++ unpack bs) w' := by
  have d : decide ((65535 : Int) < n) = false := decide_eq_false (by omega)
  have HW := Lib.hid hw; have HB := Lib.hid hb; have HN := Lib.hid hbn; have H256 := Lib.hid h256
  have CS := Lib.hid (start_any B g sv l 0 (by omega) last w hw (by omega))
  clear hw hb hbn h256
  go_enter Tryz.func7, Tryz.ntmps7
  go_wp2_with fail
  refine CS.out.mono ?_
  rintro e w1 ⟨rfl, sv1, p1, p2, p3⟩
  have P1 := Lib.hid p1; have P2 := Lib.hid p2; have P3 := Lib.hid p3
  clear p1 p2 p3
  go_wp2_with fail
  refine (writerAlign_any B g sv1 _ w1 P1.out (by rw [List.length_append, headB_length']; omega)).mono ?_
  rintro e w2 ⟨rfl, q1, q2⟩
  have Q1 := Lib.hid q1
  have Q2 := Lib.hid (P2.out.then q2 (fun i _ hi => .inl hi))
  clear q1 q2
  obtain ⟨X, hX⟩ : ∃ X, padTo (l ++ headB 0 last) = X := ⟨_, rfl⟩
  have hXl : X.length ≤ 400010 := by rw [← hX]; have := padTo_le (l ++ headB 0 last); rw [List.length_append, headB_length'] at this; omega
  have HX := Lib.hid hX
  rw [hX] at Q1
  clear hX
  go_wp2_with fail
  refine (put_yes n 16 B g sv1 X (by omega) (by omega) w2 Q1.out (by omega)).mono ?_
  rintro e w3 ⟨rfl, p⟩
  have p := PutPost.then Q2.out P3.out p
  obtain ⟨sv3, a1, a2, a3⟩ := p
  have R1 := Lib.hid a1; have R2 := Lib.hid a2; have R3 := Lib.hid a3
  clear a1 a2 a3
  have ex := max_xor n (by omega)
  obtain ⟨y, hy⟩ : ∃ y, 4294967295 - n = y := ⟨_, rfl⟩
  rw [hy] at ex
  have hy32 : y < 4294967296 := by omega
  have HY := Lib.hid hy
  clear hy
  go_wp2_with fail
  refine (put_yes y 16 B g sv3 _ hy32 (by omega) w3 R1.out (by simp; omega)).mono ?_
  rintro e w4 ⟨rfl, p⟩
  have p := PutPost.then R2.out R3.out p
  obtain ⟨sv4, a1, a2, a3⟩ := p
  have S1 : Hid (WriterAt w4 B g sv4 (storedH l n last)) := Lib.hid (by unfold storedH; rw [HX.out, HY.out]; exact a1)
  have S2 := Lib.hid a2; have S3 := Lib.hid a3
  have hHl : (storedH l n last).length ≤ 400100 := by unfold storedH; rw [HX.out]; simp; omega
  obtain ⟨H, hH⟩ : ∃ H, storedH l n last = H := ⟨_, rfl⟩
  rw [hH] at S1 hHl
  have HHH := Lib.hid hH
  clear a1 a2 a3 ex hH
  go_wp2_with fail
  go_loopw [9, 32] (fun _ i wr => ∃ k : Nat, k ≤ n ∧ i = .int .i64 k ∧ Hid (∃ sv', WriterAt wr B g sv' (H ++ unpack (bs.take k)) ∧ Only (Foot g sv) w wr ∧ ∀ j, sv'.ownBlock = some j → sv.ownBlock = some j ∨ w.heap.size ≤ j)) (fun _ i _ => n - (intOf i).toNat)
  case atStart => exact ⟨0, Nat.zero_le _, rfl, Lib.hid ⟨sv4, by simpa [unpack] using S1.out, S2.out, S3.out⟩⟩
  case round =>
    obtain ⟨k, hk, rfl, h⟩ := hrel
    by_cases hlt : k < n
    · obtain ⟨sv', b1, b2, b3⟩ := h.out
      obtain ⟨Bx, hsx⟩ := HB.out wr b2
      obtain ⟨b, o, rfl, _, c0⟩ := hsx.byte HN.out hlt
      have hkl : k < bs.length := by have := HN.out; omega
      have hx256 := H256.out _ (List.getElem_mem hkl)
      obtain ⟨x, hx⟩ : ∃ x, bs.getD k 0 = x := ⟨_, rfl⟩
      have hx2 : bs[k] = x := by rw [← hx]; simp [List.getD, hkl]
      rw [hx2] at hx256
      rw [hx] at c0
      have ET : Hid (H ++ unpack (bs.take (k + 1)) = H ++ unpack (bs.take k) ++ bitsOf x 8) := Lib.hid (by have e : bs.take (k + 1) = bs.take k ++ [bs[k]] := (List.take_append_getElem hkl).symm; rw [e, ← hx2]; unfold unpack; rw [List.flatMap_append, ← List.append_assoc]; simp only [List.flatMap_cons, List.flatMap_nil, List.append_nil])
      have hul : (H ++ unpack (bs.take k)).length ≤ 1000000 := by
        have : (unpack (bs.take k)).length = 8 * (bs.take k).length := unpack_length _
        rw [List.length_append, this, List.length_take]
        omega
      have BB1 := Lib.hid b1; have BB2 := Lib.hid b2; have BB3 := Lib.hid b3
      have k0 : (0 : Int) ≤ k := by omega
      clear b1 b2 b3 hsx hx hx2 h
      go_wp2_with fail
      refine (put_yes x 8 B g sv' _ (by omega) (by omega) wr BB1.out hul).mono ?_
      rintro e w6 ⟨rfl, p⟩
      have PP := Lib.hid (PutPost.then BB2.out BB3.out p); clear p
      go_wp2_with fail
      go_roundw
      case rel => exact ⟨k + 1, by omega, by go_num, Lib.hid (by
        obtain ⟨sv7, d1, d2, d3⟩ := PP.out
        exact ⟨sv7, by rw [ET.out]; exact d1, d2, d3⟩)⟩
      case measure => simp [intOf]; omega
    · obtain rfl : k = n := by omega
      go_wp2_with fail
      go_ret
      refine ⟨rfl, ?_⟩
      rw [HHH.out]
      obtain ⟨sv', b1, b2, b3⟩ := h.out
      rw [List.take_of_length_le (by rw [HN.out]; exact Nat.le_refl _)] at b1
      exact ⟨sv', b1, b2, b3⟩
end Go.Proofs.YtkjhefjjacokjaaGreat
