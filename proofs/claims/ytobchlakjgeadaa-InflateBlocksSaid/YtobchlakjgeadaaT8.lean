/-
  The contract of storedBlock. Conditions: the state stands as told (StAt), its things are where they should be (Cx.Good).
-/
import Derived.Test.YtobchlakjgeadaaT7
namespace Go.Proofs.Ytobchlakjgeadaa
open Go.RowKit
set_option maxRecDepth 100000

theorem xor16 (n : Nat) (h : n < 65536) : 65535 ^^^ n = 65535 - n := by
  have e : 65535 ^^^ n = (BitVec.allOnes 16 ^^^ BitVec.ofNat 16 n).toNat := by
    rw [BitVec.toNat_xor, BitVec.toNat_allOnes, BitVec.toNat_ofNat, Nat.mod_eq_of_lt (by omega)]
  rw [e, BitVec.allOnes_xor, BitVec.toNat_not, BitVec.toNat_ofNat, Nat.mod_eq_of_lt (by omega)]
theorem wrap16 (v : Nat) : IntKind.u16.wrap (v : Int) = ((v % 65536 : Nat) : Int) := by
  simp [IntKind.wrap, IntKind.signed, IntKind.bits]
theorem not16 (n : Nat) (h : n < 65536) : bits BinOp.xor IntKind.u16 IntKind.u16.max (n : Int) = ((65535 - n : Nat) : Int) := by
  have : IntKind.u16.max = ((65535 : Nat) : Int) := by decide
  rw [this, u16_xor_nat _ _ (by omega) h, xor16 n h]
theorem align_st {c : Cx} (hg : c.Good) (ov p q : Value) (a : Nat) (o : List Nat) (w : World) (h : StAt c w ov p q a o) :
    Calls Try.prog 49 #[.pointer (some ⟨c.gr, 0, none⟩)] w fun e w' => e = .returned (.tuple #[]) ∧ StAt c w' ov p q ((a + 7) / 8 * 8) o ∧ Fr c.B0 w w' := by
  have hp := h.place
  refine (readerAlign_any c.B0 c.gr c.rv c.bs a w h.rd (by have := hg.long; omega) h.place).mono ?_
  rintro e w' ⟨rfl, hr, ho⟩
  have := h.read hr ho (by omega)
  exact ⟨rfl, this⟩


/-- The two numbers of a stored block. -/
theorem stored_nums (v : Nat) (hv : v < 2 ^ 32) : ∃ cnt trn nc : Nat, v % 65536 = cnt ∧ v / 65536 = trn ∧ 65535 - cnt = nc ∧ cnt < 65536 ∧ trn < 65536 ∧ IntKind.u16.wrap (v : Int) = cnt ∧ (v : Int) / 65536 = trn ∧
    bits BinOp.xor IntKind.u16 IntKind.u16.max (cnt : Int) = nc ∧ bits BinOp.xor IntKind.u16 (if IntKind.u16.signed = true then -1 else IntKind.u16.max) (cnt : Int) = nc ∧ wrap64 (cnt : Int) = cnt ∧ IntKind.u16.wrap (trn : Int) = trn ∧ IntKind.i64.wrap (cnt : Int) = cnt := by
  have hv3 : v < 4294967296 := hv
  have hc : v % 65536 < 65536 := Nat.mod_lt _ (by omega)
  have ht : v / 65536 < 65536 := by omega
  exact ⟨_, _, _, rfl, rfl, rfl, hc, ht, wrap16 v, by omega, not16 _ hc, not16 _ hc, IntWalk.wrap64_in _ (by omega), IntWalk.u16_in _ (by omega), IntWalk.i64_in _ (by omega)⟩

theorem stored_er {L : List Bool} {most a a0 : Nat} {o : List Nat} {e : Nat} (h0 : (a + 7) / 8 * 8 = a0) (h : bitsAt L a0 32 = .er e) : storedAt L most a o = .er e := by
  subst h0
  simp [storedAt, h]
theorem stored_eq {L : List Bool} {most a a0 v cnt trn : Nat} {o : List Nat} (h0 : (a + 7) / 8 * 8 = a0) (h : bitsAt L a0 32 = .ok v) (hc : v % 65536 = cnt) (ht : v / 65536 = trn) :
    storedAt L most a o = if trn + cnt ≠ 65535 then .er 2 else if most < o.length + cnt then .er 3 else if L.length < a0 + 32 + 8 * cnt then .er 6 else .ok (a0 + 32 + 8 * cnt, o ++ pack ((L.drop (a0 + 32)).take (8 * cnt))) := by
  subst h0 hc ht
  simp only [storedAt, h]

/-- Bytes that were taken. -/
theorem take_st {c : Cx} (hg : c.Good) (ov p q : Value) (t : Nat) (o : List Nat) (n : Nat) (w : World) (h : StAt c w ov p q (8 * t) o) :
    Calls Try.prog 51 #[.pointer (some ⟨c.gr, 0, none⟩), .int .i64 n] w fun e w' => ∃ v er a' xs, e = .returned (.tuple #[v, .int .i64 (er : Nat)]) ∧ w'.ownsRow w.heap.size 5 1 v xs.length (bx xs) ∧ StAt c w' ov p q a' o ∧ Fr c.B0 w w' ∧
      ((er = 0 ∧ t + n ≤ c.bs.length ∧ a' = 8 * t + 8 * n ∧ xs = pack ((c.L.drop (8 * t)).take (8 * n)) ∧ xs.length = n) ∨ (er = 6 ∧ c.bs.length < t + n ∧ xs = [])) := by
  have hp := h.place
  have e8 : (8 * t + 7) / 8 = t := by omega
  by_cases hl : t + n ≤ c.bs.length
  · have hy := take_yes c.B0 c.gr c.rv c.bs (8 * t) n w h.rd (by have := hg.long; omega) (by omega)
    rw [e8] at hy
    refine hy.mono ?_
    rintro e w' ⟨v, rfl, hown, hr, ho⟩
    have hlen : ((c.bs.drop t).take n).length = n := by simp; omega
    have hpm := pack_mid c.bs t n hg.bytes hl
    rw [Nat.mul_comm t 8] at hpm hr
    refine ⟨v, 0, 8 * t + 8 * n, (c.bs.drop t).take n, rfl, by rw [hlen]; exact hown, ?_⟩
    have hrd := h.read hr ho (by omega)
    exact ⟨hrd.1, hrd.2, .inl ⟨rfl, hl, rfl, hpm.symm, hlen⟩⟩
  · have hy := take_end c.B0 c.gr c.rv c.bs (8 * t) n w h.rd (by have := hg.long; omega) h.place (by omega) (by omega)
    rw [e8] at hy
    refine hy.mono ?_
    rintro e w' ⟨rfl, hr, ho⟩
    have hrd := h.read hr ho (by omega)
    exact ⟨.slice none 0 0, 6, t * 8, [], rfl, World.ownsRow_nil _ _ _ _, hrd.1, hrd.2, .inr ⟨rfl, by omega, rfl⟩⟩

set_option maxHeartbeats 1000000 in
theorem storedBlock_any {c : Cx} (hg : c.Good) (ov p q : Value) (a : Nat) (o : List Nat) (w : World) (h : StAt c w ov p q a o) :
    Calls Try.prog 36 #[.pointer (some ⟨c.gs, 0, none⟩)] w (BlockRes c (storedAt c.L c.most a o) a w) := by
  obtain ⟨i0, hi0, hz0, hz1, hz2⟩ := info_parts byte_info
  have H := Lib.hid h
  have c0 := h.c0
  clear h
  obtain ⟨R, hR⟩ : ∃ R, storedAt c.L c.most a o = R := ⟨_, rfl⟩
  rw [hR]
  have HR := Lib.hid hR; clear hR
  unfold BlockRes
  go_enter Try.func36, Try.ntmps36
  go_wp2_with fail
  refine (align_st hg ov p q a o w H.out).mono ?_
  rintro e w1 ⟨rfl, hs1, hf1⟩
  have c01 := hs1.c0
  have S1 := Lib.hid hs1; have F1 := Lib.hid hf1; clear hs1 hf1 c0
  obtain ⟨a0, ha0⟩ : ∃ a0, (a + 7) / 8 * 8 = a0 := ⟨_, rfl⟩
  rw [ha0] at S1
  have HA0 := Lib.hid ha0
  have haa : a ≤ a0 := by omega
  obtain ⟨t0, ht0⟩ : ∃ t, a0 = 8 * t := ⟨(a + 7) / 8, by omega⟩
  clear ha0
  go_wp2_with fail
  refine (getBits_any hg ov p q a0 o 32 (by omega) _ S1.out).mono ?_
  rintro e w2 (⟨v, hv, hv2, rfl, hs2, hf2⟩ | ⟨hv, rfl, hs2, hf2⟩)
  · have c02 := hs2.c0
    have hrm := hs2.room
    have S2 := Lib.hid hs2; have F2 := Lib.hid (F1.out.trans hf2); have HV := Lib.hid hv
    clear hs2 hf2 hv c01
    obtain ⟨cnt, trn, nc, hcnt, htrn, hnc, hc16, ht16, w1', w2', w3', w4', w5', w6', w7'⟩ := stored_nums v hv2
    have hE := Lib.hid ((stored_eq (most := c.most) (o := o) HA0.out HV.out hcnt htrn).symm.trans HR.out)
    have W1 := Lib.hid w1'; have W2 := Lib.hid w2'; have W3 := Lib.hid w3'; have W4 := Lib.hid w4'; have W5 := Lib.hid w5'; have W6 := Lib.hid w6'; have W7 := Lib.hid w7'
    clear HV hv2 hcnt htrn w1' w2' w3' w4' w5' w6' w7'
    have hmo := hg.most
    by_cases hform : trn + cnt ≠ 65535
    · have hE2 := hE.out
      rw [if_pos hform] at hE2
      have HE2 := Lib.hid hE2; clear hE2 hE
      have dn : (trn != nc) = true := by simp; omega
      have dn2 : ((trn : Int) != nc) = true := by simp; omega
      have dn3 : (trn == nc) = false := by simp; omega
      have dn4 : ¬ (trn : Int) = nc := by omega
      have w1' := W1.out; have w2' := W2.out; have w3' := W3.out; have w4' := W4.out; have w5' := W5.out; have w6' := W6.out; have w7' := W7.out
      go_wp2_with fail
      go_ret
      exact .inr ⟨2, by omega, by omega, HE2.out.symm, rfl, F2.out⟩
    · have hnt : nc = trn := by omega
      subst hnt
      have hE2 := hE.out
      rw [if_neg hform] at hE2
      obtain ⟨m, hm⟩ : ∃ m, c.most - o.length = m := ⟨_, rfl⟩
      have CR := Lib.hid (fun W h => room_any hg ov p q (a0 + 32) o W h)
      rw [hm] at CR
      by_cases hlong : c.most < o.length + cnt
      · rw [if_pos hlong] at hE2
        have HE2 := Lib.hid hE2; clear hE2 hE
        have d2 : decide (m < cnt) = true := decide_eq_true (by omega)
        have w1' := W1.out; have w2' := W2.out; have w3' := W3.out; have w4' := W4.out; have w5' := W5.out; have w6' := W6.out; have w7' := W7.out
        go_wp2_with fail
        refine (CR.out _ S2.out).mono ?_; rintro e w4 ⟨rfl, rfl⟩
        go_wp2_with fail
        go_ret
        exact .inr ⟨3, by omega, by omega, HE2.out.symm, rfl, F2.out.drew⟩
      · rw [if_neg hlong] at hE2
        have HE2 := Lib.hid hE2; clear hE2 hE
        have d2 : decide (m < cnt) = false := decide_eq_false (by omega)
        have S2' : Hid (StAt c w2.drew ov p q (8 * (t0 + 4)) o) := Lib.hid (by rw [show 8 * (t0 + 4) = a0 + 32 by omega]; exact S2.out.drew)
        have c02' := S2'.out.c0
        have w1' := W1.out; have w2' := W2.out; have w3' := W3.out; have w4' := W4.out; have w5' := W5.out; have w6' := W6.out; have w7' := W7.out
        go_wp2_with fail
        refine (CR.out _ S2.out).mono ?_; rintro e w4 ⟨rfl, rfl⟩
        go_wp2_with fail
        clear w1' w2' w3' w4' w5' w6' w7'
        refine (take_st hg ov p q (t0 + 4) o cnt _ S2'.out).mono ?_
        rintro e w3 ⟨vt, er, a3, xs, rfl, hown, hs3, hf3, hcase⟩
        obtain ⟨At, ct, rfl, _, hseen⟩ := own_seen hown
        have SN := Lib.hid hseen
        have S3 := Lib.hid hs3
        have F3 := Lib.hid (F2.out.drew.trans hf3)
        have CS := Lib.hid hcase
        have c1 := hs3.c1
        have sz := hs3.size
        have hxl : xs.length ≤ 65535 := by
          rcases hcase with ⟨_, _, _, _, h⟩ | ⟨_, _, h⟩
          · omega
          · rw [h]; simp
        have hxm : o.length + xs.length ≤ c.most := by
          rcases hcase with ⟨_, _, _, _, h⟩ | ⟨_, _, h⟩
          · omega
          · rw [h]; simpa using hrm
        clear hown hseen hs3 hf3 hcase c02 c02'
        obtain ⟨Ao, co, rfl, _⟩ := own_form S3.out.out
        go_wp2_with (at_builtin; refine wpList_append_seen _ rfl (.tmp 52) (.tmp 53) _ rfl c.B1 5 i0 _ 1 1 Try.underlying22 hi0 hz0 hz1 hz2 rfl (by omega) (.slice Ao o.length co) o.length _ rfl S3.out.out _ At xs.length ct _ rfl SN.out (bytes_oneCell _) (by simp only [maxLen]; omega) (by omega) sz ?_; intro v1 w5 hown1 hg1 hat1; obtain ⟨A5, c5, rfl, _⟩ := own_form hown1; have hWh1 := S3.out.st.grown hg1 (fun e => own_ne_whole S3.out.out S3.out.st (by decide) c.gs e.symm rfl); have d1 : w5.cell? ⟨c.gs, 1, none⟩ = some (.slice Ao o.length co) := hWh1.cell 1; have z1 := hWh1.frozen 1; have HG := Lib.hid hg1; have HO := Lib.hid hown1; clear hg1 hown1 hWh1)
        go_ret
        have hl : (o ++ xs).length = o.length + xs.length := by simp
        have hP := S3.out.push hg (v1 := .slice A5 (o.length + xs.length) c5) (o' := o ++ xs) HG.out (by rw [hl]; simpa using HO.out) (by omega)
        rcases CS.out with ⟨rfl, k1, rfl, k3, k4⟩ | ⟨rfl, k1, k2⟩
        · refine .inl ⟨8 * (t0 + 4) + 8 * cnt, o ++ xs, ?_, by omega, rfl, ⟨_, p, q, hP.1⟩, F3.out.trans hP.2⟩
          rw [← HE2.out, if_neg (by simp; omega), k3, show 8 * (t0 + 4) = a0 + 32 by omega]
        · refine .inr ⟨6, by omega, by omega, ?_, rfl, F3.out.trans hP.2⟩
          rw [← HE2.out, if_pos (by simp; omega)]
  · have F2 := Lib.hid (F1.out.trans hf2); have HV := Lib.hid hv
    clear hs2 hf2 hv c01
    go_wp2_with fail
    go_ret
    exact .inr ⟨6, by omega, by omega, HR.out.symm.trans (stored_er HA0.out HV.out), rfl, F2.out⟩
end Go.Proofs.Ytobchlakjgeadaa
