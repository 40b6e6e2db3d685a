/-
  The document's fixed lengths; a stored block. Conditions: each theorem names its own.
  The document's signs of a block. Conditions: each theorem names its own.
-/
import Derived.Test.YtkjhefjjacokjaaGreatIE
namespace Go.Proofs.YtkjhefjjacokjaaGreat
open Go.RowKit
set_option maxRecDepth 100000
def RFix (w : World) (r : Ending) (w' : World) : Prop :=
  ∃ u v, r = .returned (.tuple #[u, v]) ∧ w'.ownsRow w.heap.size 3 1 u 288 (iv fixL) ∧ w'.ownsRow w.heap.size 3 1 v 32 (iv fixD) ∧ Below w.heap.size w w'
theorem fixL_take (k : Nat) (h : k < 288) : fixL.take (k + 1) = fixL.take k ++ [fl k] := by
  have hl : k < fixL.length := h
  rw [List.take_succ_eq_append_getElem hl]
  have := fl_fix k h
  simp [List.getD, hl] at this
  rw [this]
theorem fixD_take (k : Nat) (h : k < 32) : fixD.take (k + 1) = fixD.take k ++ [5] := by
  have hl : k < fixD.length := h
  rw [List.take_succ_eq_append_getElem hl]
  have := fd_fix k h
  simp [List.getD, hl] at this
  rw [← this]
set_option maxHeartbeats 1000000 in
theorem rfixed_any (w : World) : Calls Tryz.prog 27 #[] w (RFix w) := by
  obtain ⟨i0, hi0, hz0, hz1, hz2⟩ := info_parts int_info
  have HI0 := Lib.hid hi0; clear hi0
  unfold RFix
  go_enter Tryz.func27, Tryz.ntmps27
  go_wp2_with fail
  go_loopw [2, 4] (fun s i wr => ∃ k : Nat, k ≤ 288 ∧ i = .int .i64 k ∧ wr.ownsRow w.heap.size 3 1 s k (iv (fixL.take k)) ∧ Below w.heap.size w wr) (fun _ i _ => 288 - (intOf i).toNat)
  case atStart => exact ⟨0, by omega, rfl, World.ownsRow_nil _ _ _ _, Below.refl _ _⟩
  case round =>
    obtain ⟨k, hk, rfl, hown, hbel⟩ := hrel
    obtain ⟨A, cp, rfl, _⟩ := own_form hown
    have hsz := hbel.size
    by_cases hlt : k < 288
    · have HT := Lib.hid (fixL_take k hlt)
      have HO : Hid (∀ x : Int, (wr.alloc (.cells #[.int .i64 x] 3)).ownsRow w.heap.size 3 1 (.slice A k cp) k (iv (fixL.take k))) := Lib.hid (fun x => own_only hown (Only.of_below ((Below.refl _ _).alloc (Nat.le_refl _) _) Nob) (fun _ _ h => h))
      have HLT := Lib.hid hown.lt
      have HB := Lib.hid hbel
      clear hown hbel
      have d0 : decide ((k : Int) < 288) = true := decide_eq_true (by omega)
      by_cases h1 : k < 144
      · have E := Lib.hid (show fl k = 8 by unfold fl; rw [if_pos (by omega)])
        go_wp2_with (at_builtin; refine wpList_append_seen _ rfl (.tmp 20) (.tmp 21) _ rfl w.heap.size 3 i0 _ 1 8 Tryz.underlying54 HI0.out hz0 hz1 hz2 rfl (by omega) (.slice A k cp) k _ rfl (HO.out 8) _ _ 1 1 _ rfl (seen_one _ _ _) (by simp [Value.oneCell']) (by simp only [maxLen]; omega) (by omega) (by simp only [World.size_alloc]; omega) ?_; intro v1 w1 hown1 hg1 hat1)
        go_roundw
        case rel => exact ⟨k + 1, by omega, by go_num, by rw [HT.out, E.out, iv, List.map_append]; exact hown1, (HB.out.alloc hsz _).grown hg1 (by simp; omega) (fun j hj => (HLT.out j hj).1)⟩
        case measure => simp [intOf]; omega
      · by_cases h2 : 279 < k
        · have E := Lib.hid (show fl k = 8 by unfold fl; rw [if_neg (by omega), if_neg (by omega), if_neg (by omega)])
          have d1 : decide ((k : Int) < 144) = false := decide_eq_false (by omega)
          have d2 : decide (279 < (k : Int)) = true := decide_eq_true (by omega)
          go_wp2_with (at_builtin; refine wpList_append_seen _ rfl (.tmp 20) (.tmp 21) _ rfl w.heap.size 3 i0 _ 1 8 Tryz.underlying54 HI0.out hz0 hz1 hz2 rfl (by omega) (.slice A k cp) k _ rfl (HO.out 8) _ _ 1 1 _ rfl (seen_one _ _ _) (by simp [Value.oneCell']) (by simp only [maxLen]; omega) (by omega) (by simp only [World.size_alloc]; omega) ?_; intro v1 w1 hown1 hg1 hat1)
          go_roundw
          case rel => exact ⟨k + 1, by omega, by go_num, by rw [HT.out, E.out, iv, List.map_append]; exact hown1, (HB.out.alloc hsz _).grown hg1 (by simp; omega) (fun j hj => (HLT.out j hj).1)⟩
          case measure => simp [intOf]; omega
        · have d1 : decide ((k : Int) < 144) = false := decide_eq_false (by omega)
          have d2 : decide (279 < (k : Int)) = false := decide_eq_false (by omega)
          by_cases h3 : k < 256
          · have E := Lib.hid (show fl k = 9 by unfold fl; rw [if_neg (by omega), if_pos (by omega)])
            have d3 : decide ((k : Int) < 256) = true := decide_eq_true (by omega)
            go_wp2_with (at_builtin; refine wpList_append_seen _ rfl (.tmp 26) (.tmp 27) _ rfl w.heap.size 3 i0 _ 1 8 Tryz.underlying54 HI0.out hz0 hz1 hz2 rfl (by omega) (.slice A k cp) k _ rfl (HO.out 9) _ _ 1 1 _ rfl (seen_one _ _ _) (by simp [Value.oneCell']) (by simp only [maxLen]; omega) (by omega) (by simp only [World.size_alloc]; omega) ?_; intro v1 w1 hown1 hg1 hat1)
            go_roundw
            case rel => exact ⟨k + 1, by omega, by go_num, by rw [HT.out, E.out, iv, List.map_append]; exact hown1, (HB.out.alloc hsz _).grown hg1 (by simp; omega) (fun j hj => (HLT.out j hj).1)⟩
            case measure => simp [intOf]; omega
          · have E := Lib.hid (show fl k = 7 by unfold fl; rw [if_neg (by omega), if_neg (by omega), if_pos (by omega)])
            have d3 : decide ((k : Int) < 256) = false := decide_eq_false (by omega)
            go_wp2_with (at_builtin; refine wpList_append_seen _ rfl (.tmp 10) (.tmp 11) _ rfl w.heap.size 3 i0 _ 1 8 Tryz.underlying54 HI0.out hz0 hz1 hz2 rfl (by omega) (.slice A k cp) k _ rfl (HO.out 7) _ _ 1 1 _ rfl (seen_one _ _ _) (by simp [Value.oneCell']) (by simp only [maxLen]; omega) (by omega) (by simp only [World.size_alloc]; omega) ?_; intro v1 w1 hown1 hg1 hat1)
            go_roundw
            case rel => exact ⟨k + 1, by omega, by go_num, by rw [HT.out, E.out, iv, List.map_append]; exact hown1, (HB.out.alloc hsz _).grown hg1 (by simp; omega) (fun j hj => (HLT.out j hj).1)⟩
            case measure => simp [intOf]; omega
    · have hk288 : k = 288 := by omega
      have hown' : wr.ownsRow w.heap.size 3 1 (.slice A k cp) k (iv fixL) := by
        rw [List.take_of_length_le (by show 288 ≤ k; omega)] at hown
        exact hown
      have HK := Lib.hid hk288
      have d0 : decide ((k : Int) < 288) = false := decide_eq_false (by omega)
      clear hk288
      have HOX := Lib.hid hown'
      have HB := Lib.hid hbel
      clear hown hown' hbel
      obtain ⟨w5, hw5⟩ : ∃ w5, w5 = wr := ⟨_, rfl⟩
      subst hw5
      go_wp2_with fail
      go_loopw [3, 5] (fun s i wq => ∃ k : Nat, k ≤ 32 ∧ i = .int .i64 k ∧ wq.ownsRow w5.heap.size 3 1 s k (iv (fixD.take k)) ∧ Below w5.heap.size w5 wq) (fun _ i _ => 32 - (intOf i).toNat)
      case atStart => exact ⟨0, by omega, rfl, World.ownsRow_nil _ _ _ _, Below.refl _ _⟩
      case round =>
        obtain ⟨t, ht, rfl, hown, hbel⟩ := hrel
        obtain ⟨A2, cp2, rfl, _⟩ := own_form hown
        have hsz2 := hbel.size
        by_cases hlt : t < 32
        · have HT := Lib.hid (fixD_take t hlt)
          have HO : Hid ((wr.alloc (.cells #[.int .i64 5] 3)).ownsRow w5.heap.size 3 1 (.slice A2 t cp2) t (iv (fixD.take t))) := Lib.hid (own_only hown (Only.of_below ((Below.refl _ _).alloc (Nat.le_refl _) _) Nob) (fun _ _ h => h))
          have HLT := Lib.hid hown.lt
          have HB2 := Lib.hid hbel
          clear hown hbel
          have d0 : decide ((t : Int) < 32) = true := decide_eq_true (by omega)
          go_wp2_with (at_builtin; refine wpList_append_seen _ rfl (.tmp 33) (.tmp 34) _ rfl w5.heap.size 3 i0 _ 1 8 Tryz.underlying54 HI0.out hz0 hz1 hz2 rfl (by omega) (.slice A2 t cp2) t _ rfl HO.out _ _ 1 1 _ rfl (seen_one _ _ _) (by simp [Value.oneCell']) (by simp only [maxLen]; omega) (by omega) (by simp only [World.size_alloc]; omega) ?_; intro v1 w1 hown1 hg1 hat1)
          go_roundw
          case rel => exact ⟨t + 1, by omega, by go_num, by rw [HT.out, iv, List.map_append]; exact hown1, (HB2.out.alloc hsz2 _).grown hg1 (by simp; omega) (fun j hj => (HLT.out j hj).1)⟩
          case measure => simp [intOf]; omega
        · obtain rfl : t = 32 := by omega
          have hown' : wr.ownsRow w5.heap.size 3 1 (.slice A2 32 cp2) 32 (iv fixD) := by
            rw [List.take_of_length_le (by decide)] at hown
            exact hown
          have HO2 := Lib.hid hown'
          have HB2 := Lib.hid hbel
          clear hown hown' hbel
          go_wp2_with fail
          go_ret2
          have hox := HOX.out
          rw [HK.out] at hox ⊢
          exact ⟨_, _, rfl, own_only hox (Only.of_below HB2.out Nob) (fun _ _ h => h), own_base HO2.out HB.out.size, HB.out.trans (HB2.out.mono HB.out.size)⟩
theorem bits_two {L : List Bool} {a p q v1 v2 : Nat} (h1 : bitsAt L a p = .ok v1) (h2 : bitsAt L (a + p) q = .ok v2) : bitsAt L a (p + q) = .ok (v1 + 2 ^ p * v2) := by
  unfold bitsAt at h1 h2 ⊢
  split at h1
  · split at h2
    · injection h1 with h1
      injection h2 with h2
      rename_i g1 g2
      rw [if_pos (by omega), num_part _ _ _ (by simp; omega), List.drop_drop, h1, h2]
    · cases h2
  · cases h1
theorem bits_two_er1 {L : List Bool} {a p q : Nat} (h1 : bitsAt L a p = .er 6) : bitsAt L a (p + q) = .er 6 := by
  unfold bitsAt at h1 ⊢
  split at h1
  · cases h1
  · rw [if_neg (by omega)]
theorem bits_two_er2 {L : List Bool} {a p q : Nat} (h2 : bitsAt L (a + p) q = .er 6) : bitsAt L a (p + q) = .er 6 := by
  unfold bitsAt at h2 ⊢
  split at h2
  · cases h2
  · rw [if_neg (by omega)]
theorem ralign_any {c : Rx} (hg : c.Good) (ov : Value) (a : Nat) (o : List Nat) (e : Nat) (w : World) (h : RSt c w ov a o e) :
    Calls Tryz.prog 66 #[.pointer (some ⟨c.gr, 0, none⟩)] w fun r w' => r = .returned (.tuple #[]) ∧ RSt c w' ov ((a + 7) / 8 * 8) o e ∧ Fq c.B0 w w' := by
  have hp := h.place
  have hl := hg.long
  refine (refAlign_any c.B0 c.gr c.rv c.L a w h.rd (by omega)).mono ?_
  rintro r w' ⟨rfl, hr, ho⟩
  exact ⟨rfl, h.read hr ho (by omega)⟩
theorem rtake_any {c : Rx} (hg : c.Good) (ov : Value) (t : Nat) (o : List Nat) (n : Nat) (w : World) (h : RSt c w ov (8 * t) o 0) :
    Calls Tryz.prog 67 #[.pointer (some ⟨c.gr, 0, none⟩), .int .i64 n] w fun r w' => ∃ v er a' xs, r = .returned (.tuple #[v, .int .i64 (er : Nat)]) ∧ w'.ownsRow w.heap.size 5 1 v xs.length (bx xs) ∧ RSt c w' ov a' o 0 ∧ Fq c.B0 w w' ∧
      ((er = 0 ∧ t + n ≤ c.bs.length ∧ a' = 8 * t + 8 * n ∧ xs = pack ((c.L.drop (8 * t)).take (8 * n)) ∧ xs.length = n) ∨ (er = 6 ∧ c.bs.length < t + n ∧ xs = [])) := by
  have hp := h.place
  have hlg := hg.long
  have e8 : (8 * t + 7) / 8 * 8 = 8 * t := by omega
  by_cases hl : t + n ≤ c.bs.length
  · have hy := refTake_yes c.B0 c.gr c.rv c.L (8 * t) n w h.rd (by simp; omega) (by rw [e8]; simp; omega)
    rw [e8] at hy
    refine hy.mono ?_
    rintro r w' ⟨v, rfl, hown, hr, ho⟩
    have hlen : (pack ((c.L.drop (8 * t)).take (8 * n))).length = n := by simp; omega
    have hrd := h.read hr ho (by omega)
    exact ⟨v, 0, 8 * t + 8 * n, _, rfl, by rw [hlen]; exact hown, hrd.1, hrd.2, .inl ⟨rfl, hl, rfl, rfl, hlen⟩⟩
  · have hy := refTake_end c.B0 c.gr c.rv c.L (8 * t) n w h.rd (by simp; omega) (by rw [e8]; simp; omega) (by omega) (by rw [e8]; simp; omega)
    rw [e8] at hy
    refine hy.mono ?_
    rintro r w' ⟨rfl, hr, ho⟩
    have hrd := h.read hr ho (by omega)
    exact ⟨.slice none 0 0, 6, 8 * t, [], rfl, World.ownsRow_nil _ _ _ _, hrd.1, hrd.2, .inr ⟨rfl, by omega, rfl⟩⟩
/-- fail, told finer: only the state's block may have changed. -/
theorem rfail_only {c : Rx} (hg : c.Good) (ov : Value) (a : Nat) (o : List Nat) (e er : Nat) (w : World) (h : RSt c w ov a o e) :
    Calls Tryz.prog 42 #[.pointer (some ⟨c.gs, 0, none⟩), .int .i64 er] w fun r w' => r = .returned (.tuple #[]) ∧ RSt c w' ov a o (if e = 0 then er else e) ∧ Fq c.B0 w w' ∧ Only (fun k => k = c.gs) w w' := by
  have c3 := h.c3
  have z3 := h.st.frozen 3
  have HE := Lib.hid (h.err hg er)
  have H := Lib.hid h; clear h
  by_cases h0 : e = 0
  · subst h0
    rw [if_pos rfl]
    go_enter Tryz.func42, Tryz.ntmps42
    go_wp2
    go_end0
    exact ⟨rfl, HE.out.1, HE.out.2, (Only.refl (fun k => k = c.gs) _).setCell (p := ⟨c.gs, 3, none⟩) (.inl rfl) _⟩
  · rw [if_neg h0]
    have d0 : (e == 0) = false := by simpa using h0
    have d1 : ((e : Int) == 0) = false := by simp; omega
    go_enter Tryz.func42, Tryz.ntmps42
    go_wp2
    go_end0
    exact ⟨rfl, H.out, Fq.refl _ _, Only.refl _ _⟩
set_option maxHeartbeats 2000000 in
theorem rstored_any {c : Rx} (hg : c.Good) (ov : Value) (a : Nat) (o : List Nat) (w : World) (h : RSt c w ov a o 0) :
    Calls Tryz.prog 39 #[.pointer (some ⟨c.gs, 0, none⟩)] w (RRes c (storedAt c.L c.most a o) w) := by
  obtain ⟨i0, hi0, hz0, hz1, hz2⟩ := info_parts byte_info
  obtain ⟨Ao, co, rfl, _⟩ := own_form h.out
  have hrm := h.room
  have hmo := hg.most
  obtain ⟨m, hm⟩ : ∃ m, c.most - o.length = m := ⟨_, rfl⟩
  have wm : (c.most : Int) - o.length = m := by omega
  have wm2 : IntKind.i64.wrap (m : Int) = m := IntWalk.i64_in _ (by omega)
  have c0 := h.c0
  have H := Lib.hid h; clear h
  obtain ⟨R, hR⟩ : ∃ R, storedAt c.L c.most a o = R := ⟨_, rfl⟩
  rw [hR]
  have HR := Lib.hid hR; clear hR
  go_enter Tryz.func39, Tryz.ntmps39
  go_wp2_with fail
  refine (ralign_any hg _ a o 0 w H.out).mono ?_
  rintro r w1 ⟨rfl, hs1, hf1⟩
  obtain ⟨a0, ha0⟩ : ∃ a0, (a + 7) / 8 * 8 = a0 := ⟨_, rfl⟩
  rw [ha0] at hs1
  obtain ⟨t0, ht0⟩ : ∃ t, a0 = 8 * t := ⟨(a + 7) / 8, by omega⟩
  have HA0 := Lib.hid ha0
  have S1 := Lib.hid hs1; have F1 := Lib.hid hf1; clear hs1 hf1 c0 ha0
  go_wp2_with fail
  refine (rget_any hg _ a0 o 16 (by omega) _ S1.out).mono ?_
  rintro r w2 ⟨v1, er, a1, rfl, hs2, hf2, hc2⟩
  have S2 := Lib.hid hs2; have F2 := Lib.hid (F1.out.trans hf2); clear hs2 hf2
  rcases hc2 with ⟨rfl, hb1, hv1, rfl⟩ | ⟨rfl, rfl, hb1⟩
  · have hv16 : v1 < 65536 := hv1
    clear hv1
    have HB1 := Lib.hid hb1; clear hb1
    go_wp2_with fail
    refine (rget_any hg _ (a0 + 16) o 16 (by omega) _ S2.out).mono ?_
    rintro r w3 ⟨v2, er, a2, rfl, hs3, hf3, hc3⟩
    have S3 := Lib.hid hs3; have F3 := Lib.hid (F2.out.trans hf3); clear hs3 hf3
    have c3 := S3.out.c3
    have c1 := S3.out.c1
    have c2 := S3.out.c2
    rcases hc3 with ⟨rfl, hb2, hv2, rfl⟩ | ⟨rfl, rfl, hb2⟩
    · have hv26 : v2 < 65536 := hv2
      clear hv2
      have hb32 := bits_two HB1.out hb2
      have e1 : (v1 + 2 ^ 16 * v2) % 65536 = v1 := by show (v1 + 65536 * v2) % 65536 = v1; omega
      have e2 : (v1 + 2 ^ 16 * v2) / 65536 = v2 := by show (v1 + 65536 * v2) / 65536 = v2; omega
      have hE := Lib.hid ((stored_eq (most := c.most) (o := o) HA0.out hb32 e1 e2).symm.trans HR.out)
      clear hb32 e1 e2 hb2
      obtain ⟨sm, hsm⟩ : ∃ sm, v1 + v2 = sm := ⟨_, rfl⟩
      have wsm : (v1 : Int) + v2 = sm := by omega
      by_cases hform : v2 + v1 ≠ 65535
      · have hE2 := hE.out
        rw [if_pos hform] at hE2
        have HRR := Lib.hid hE2; clear hE2 hE
        have ds : ((sm : Int) == 65535) = false := by simp; omega
        have ds2 : ¬ (sm : Int) = 65535 := by omega
        have ds3 : ((sm : Int) != 65535) = true := by simp; omega
        go_wp2_with fail
        refine (rfail_any hg _ (a0 + 16 + 16) o 0 2 _ S3.out).mono ?_
        rintro r w4 ⟨rfl, hs4, hf4⟩
        rw [if_pos rfl] at hs4
        have S4 := Lib.hid hs4; have F4 := Lib.hid (F3.out.trans hf4); clear hs4 hf4 c1 c2 c3
        have hene : 2 ≠ 0 := by omega
        have c1 := S4.out.c1
        have c2 := S4.out.c2
        have c3 := S4.out.c3
        by_cases hl1 : m < v1
        · have dl : decide (m < v1) = true := decide_eq_true hl1
          go_wp2_with fail
          go_still (by kernel_rfl)
          go_wp2_with fail
          refine (rfail_any hg _ (a0 + 16 + 16) o 2 3 _ S4.out.drew).mono ?_
          rintro r wz ⟨rfl, hsz, hfz⟩
          rw [if_neg hene] at hsz
          have SZ := Lib.hid hsz; have FZ := Lib.hid (F4.out.drew.trans hfz)
          clear hsz hfz c1 c2 c3
          have c3 := SZ.out.c3
          go_wp2_with fail
          go_end0
          exact ⟨rfl, FZ.out, .inr ⟨2, _, o, _, by omega, by omega, HRR.out.symm, SZ.out⟩⟩
        · have dl : decide (m < v1) = false := decide_eq_false hl1
          have SZ := Lib.hid S4.out.drew; have FZ := Lib.hid F4.out.drew
          go_wp2_with fail
          go_still (by kernel_rfl)
          go_wp2_with fail
          go_end0
          exact ⟨rfl, FZ.out, .inr ⟨2, _, o, _, by omega, by omega, HRR.out.symm, SZ.out⟩⟩
      · have hE2 := hE.out
        rw [if_neg hform] at hE2
        have hsm2 : sm = 65535 := by omega
        have ds2 : (sm : Int) = 65535 := by omega
        by_cases hlong : c.most < o.length + v1
        · rw [if_pos hlong] at hE2
          have HRR := Lib.hid hE2; clear hE2 hE
          have dl : decide (m < v1) = true := decide_eq_true (by omega)
          go_wp2_with fail
          go_still (by kernel_rfl)
          go_wp2_with fail
          refine (rfail_any hg _ (a0 + 16 + 16) o 0 3 _ S3.out.drew).mono ?_
          rintro r w4 ⟨rfl, hs4, hf4⟩
          rw [if_pos rfl] at hs4
          have S4 := Lib.hid hs4; have F4 := Lib.hid (F3.out.drew.trans hf4); clear hs4 hf4 c1 c2 c3
          have c3 := S4.out.c3
          go_wp2_with fail
          go_end0
          exact ⟨rfl, F4.out, .inr ⟨3, _, o, _, by omega, by omega, HRR.out.symm, S4.out⟩⟩
        · rw [if_neg hlong] at hE2
          have HE2 := Lib.hid hE2; clear hE2 hE
          have dl : decide (m < v1) = false := decide_eq_false (by omega)
          have S3' : Hid (RSt c w3.drew (.slice Ao o.length co) (8 * (t0 + 4)) o 0) := Lib.hid (by rw [show 8 * (t0 + 4) = a0 + 16 + 16 by omega]; exact S3.out.drew)
          have c03 := S3'.out.c0
          go_wp2_with fail
          go_still (by kernel_rfl)
          go_wp2_with fail
          refine (rtake_any hg _ (t0 + 4) o v1 _ S3'.out).mono ?_
          rintro r w4 ⟨vt, er, a3, xs, rfl, hown, hs4, hf4, hcase⟩
          obtain ⟨At, ct, rfl, _, hseen⟩ := own_seen hown
          have OW := Lib.hid hown
          have S4 := Lib.hid hs4
          have F4 := Lib.hid (F3.out.drew.trans hf4)
          have CS := Lib.hid hcase
          have hxl : xs.length ≤ 65535 := by
            rcases hcase with ⟨_, _, _, _, h⟩ | ⟨_, _, h⟩
            · omega
            · rw [h]; simp
          have hxm : o.length + xs.length ≤ c.most := by
            rcases hcase with ⟨_, _, _, _, h⟩ | ⟨_, _, h⟩
            · omega
            · rw [h]; simpa using hrm
          have her : er < 100 := by
            rcases hcase with ⟨h, _⟩ | ⟨h, _⟩ <;> omega
          clear hown hseen hs4 hf4 hcase c03 c1 c2 c3
          go_wp2_with fail
          refine (rfail_only hg _ a3 o 0 er _ S4.out).mono ?_
          rintro r w5 ⟨rfl, hs5, hf5, ho5⟩
          rw [if_pos rfl] at hs5
          have S5 := Lib.hid hs5; have F5 := Lib.hid (F4.out.trans hf5)
          have SN5 := Lib.hid (Seen.of_own (own_only OW.out ho5 (fun k hk => own_ne_whole OW.out S4.out.st (by decide) k hk)))
          have c1 := hs5.c1
          have sz := hs5.size
          clear hs5 hf5 ho5
          go_wp2_with (at_builtin; refine wpList_append_seen _ rfl (.tmp 63) (.tmp 64) _ rfl c.B1 5 i0 _ 1 1 Tryz.underlying23 hi0 hz0 hz1 hz2 rfl (by omega) (.slice Ao o.length co) o.length _ rfl S5.out.out _ At xs.length ct _ rfl SN5.out (bytes_oneCell _) (by simp only [maxLen]; omega) (by omega) sz ?_; intro v6 w6 hown6 hg6 hat6; obtain ⟨A6, c6, rfl, _⟩ := own_form hown6; have hWh6 := S5.out.st.grown hg6 (fun e => own_ne_whole S5.out.out S5.out.st (by decide) c.gs e.symm rfl); have d1 : w6.cell? ⟨c.gs, 1, none⟩ = some (.slice Ao o.length co) := hWh6.cell 1; have z1 := hWh6.frozen 1; have HG := Lib.hid hg6; have HO := Lib.hid hown6; clear hg6 hown6 hWh6)
          go_end0
          have hl : (o ++ xs).length = o.length + xs.length := by simp
          have hP := S5.out.push hg (v1 := .slice A6 (o.length + xs.length) c6) (o' := o ++ xs) HG.out (by rw [hl]; simpa using HO.out) (by omega)
          refine ⟨rfl, F5.out.trans hP.2, ?_⟩
          rcases CS.out with ⟨rfl, k1, rfl, k3, k4⟩ | ⟨rfl, k1, k2⟩
          · refine .inl ⟨8 * (t0 + 4) + 8 * v1, o ++ xs, _, ?_, hP.1⟩
            rw [← HE2.out, if_neg (by simp; omega), k3, show 8 * (t0 + 4) = a0 + 32 by omega]
          · refine .inr ⟨6, a3, o ++ xs, _, by omega, by omega, ?_, hP.1⟩
            rw [← HE2.out, if_pos (by simp; omega)]
    · have HRR := Lib.hid ((stored_er (most := c.most) (o := o) HA0.out (bits_two_er2 (p := 16) (q := 16) hb2)).symm.trans HR.out)
      clear hb2 c1 c2 c3
      have hene : 6 ≠ 0 := by omega
      have c1 := S3.out.c1
      have c2 := S3.out.c2
      have c3 := S3.out.c3
      by_cases hl1 : m < v1
      · have dl : decide (m < v1) = true := decide_eq_true hl1
        go_wp2_with fail
        go_still (by kernel_rfl)
        go_wp2_with fail
        refine (rfail_any hg _ a2 o 6 3 _ S3.out.drew).mono ?_
        rintro r wz ⟨rfl, hsz, hfz⟩
        rw [if_neg hene] at hsz
        have SZ := Lib.hid hsz; have FZ := Lib.hid (F3.out.drew.trans hfz)
        clear hsz hfz c1 c2 c3
        have c3 := SZ.out.c3
        go_wp2_with fail
        go_end0
        exact ⟨rfl, FZ.out, .inr ⟨6, _, o, _, by omega, by omega, HRR.out.symm, SZ.out⟩⟩
      · have dl : decide (m < v1) = false := decide_eq_false hl1
        have SZ := Lib.hid S3.out.drew; have FZ := Lib.hid F3.out.drew
        go_wp2_with fail
        go_still (by kernel_rfl)
        go_wp2_with fail
        go_end0
        exact ⟨rfl, FZ.out, .inr ⟨6, _, o, _, by omega, by omega, HRR.out.symm, SZ.out⟩⟩
  · have HRR := Lib.hid ((stored_er (most := c.most) (o := o) HA0.out (bits_two_er1 (p := 16) (q := 16) hb1)).symm.trans HR.out)
    clear hb1
    go_wp2_with fail
    refine ((rget_no _ a1 o 6 16 (by omega) _ S2.out).mono (fun _ _ h => (⟨h.1, h.2.symm⟩ : _ ∧ w2 = _))).mono ?_
    rintro r w3 ⟨rfl, rfl⟩
    have hene : 6 ≠ 0 := by omega
    have c1 := S2.out.c1
    have c2 := S2.out.c2
    have c3 := S2.out.c3
    have dl : decide ((m : Int) < 0) = false := decide_eq_false (by omega)
    have SZ := Lib.hid S2.out.drew; have FZ := Lib.hid F2.out.drew
    go_wp2_with fail
    go_still (by kernel_rfl)
    go_wp2_with fail
    go_end0
    exact ⟨rfl, FZ.out, .inr ⟨6, _, o, _, by omega, by omega, HRR.out.symm, SZ.out⟩⟩
end Go.Proofs.YtkjhefjjacokjaaGreat

namespace Go.Proofs.YtkjhefjjacokjaaGreat
open Go.RowKit
set_option maxRecDepth 100000
theorem rsigns_no {c : Rx} (ov : Value) (a : Nat) (o : List Nat) (e : Nat) (he : e ≠ 0) (U V : Value) (w : World) (h : RSt c w ov a o e) :
    Calls Tryz.prog 40 #[.pointer (some ⟨c.gs, 0, none⟩), U, V] w fun r w' => r = .returned (.tuple #[]) ∧ w = w' := by
  have c3 := h.c3
  clear h
  have d0 : (e == 0) = false := by simpa using he
  have d1 : ((e : Int) == 0) = false := by simp; omega
  have d2 : ¬ (e : Int) = 0 := by omega
  go_enter Tryz.func40, Tryz.ntmps40
  go_wp2
  refine bodyPost_ret (results_none rfl _ _ _) rfl ?_
  exact ⟨rfl, rfl⟩
/-- How far the signs may go on. -/
def meas (n b e : Nat) : Nat := if e = 0 then n - b + 1 else 0
/-- Within the signs. -/
def RSIn (c : Rx) (x y : List Int) (a : Nat) (o : List Nat) (w : World) (b : Nat) (u : List Nat) (ov : Value) (e : Nat) (wr : World) : Prop :=
  RSt c wr ov b u e ∧ Fq c.B0 w wr ∧ (e = 0 → ∀ r, Runs (signStep x y c.L c.most) (b, u) r → Runs (signStep x y c.L c.most) (a, o) r) ∧ (e ≠ 0 → e < 100 ∧ Runs (signStep x y c.L c.most) (a, o) (.er e))
set_option maxHeartbeats 2000000 in
theorem rsigns_good {c : Rx} (hg : c.Good) (ov : Value) (a : Nat) (o : List Nat) (x y : List Int) (n m : Nat) (hn : x.length = n) (hm : y.length = m) (hl : n ≤ 1000) (hl2 : m ≤ 1000) (h257 : 256 < n) (hr : kindOf x ≠ 0) (hr2 : kindOf y ≠ 0) (hx0 : x.getD 256 0 ≠ 0) (A1 A2 : Option Addr) (c1 c2 : Nat) (w : World)
    (hs1 : Seen w w.heap.size 1 A1 n c1 (iv x)) (hs2 : Seen w w.heap.size 1 A2 m c2 (iv y)) (h : RSt c w ov a o 0) :
    Calls Tryz.prog 40 #[.pointer (some ⟨c.gs, 0, none⟩), .slice A1 n c1, .slice A2 m c2] w (RRes c (runF (signStep x y c.L c.most) (a, o)) w) := by
  obtain ⟨i0, hi0, hz0, hz1, hz2⟩ := info_parts byte_info
  have HI0 := Lib.hid hi0; clear hi0
  have hmo := hg.most
  have q3 := h.c3
  have H := Lib.hid h; clear h
  have HS1 := Lib.hid hs1; clear hs1
  have HS2 := Lib.hid hs2; clear hs2
  have HN := Lib.hid hn; clear hn
  have HM := Lib.hid hm; clear hm
  have HR := Lib.hid hr; clear hr
  have HR2 := Lib.hid hr2; clear hr2
  have hxl : 256 < x.length := by rw [HN.out]; exact h257
  obtain ⟨y0, hy0⟩ : ∃ y0, x[256] = y0 := ⟨_, rfl⟩
  have hyn : y0 ≠ 0 := by
    rw [← hy0]
    simpa [List.getD, hxl] using hx0
  have HY0 := Lib.hid hy0; clear hy0 hx0
  obtain ⟨R, hR⟩ : ∃ R, runF (signStep x y c.L c.most) (a, o) = R := ⟨_, rfl⟩
  rw [hR]
  have HRF := Lib.hid hR; clear hR
  go_enter Tryz.func40, Tryz.ntmps40
  go_wp2_with fail
  refine (refWords_any A1 n c1 w.heap.size x HN.out hl HR.out w HS1.out (Nat.le_refl _)).mono ?_
  rintro r w1 ⟨v1, rfl, hw1, hb1⟩
  obtain ⟨Aw, cw, rfl, _⟩ := own_form hw1
  have W1 := Lib.hid hw1; have B1 := Lib.hid hb1
  clear hw1 hb1
  go_wp2_with fail
  refine (refWords_any A2 m c2 w.heap.size y HM.out hl2 HR2.out w1 (HS2.out.below B1.out) B1.out.size).mono ?_
  rintro r w2 ⟨v2, rfl, hw2, hb2⟩
  obtain ⟨Av, cv, rfl, _⟩ := own_form hw2
  have W2 := Lib.hid hw2
  have W12 := Lib.hid (own_only W1.out (Only.of_below hb2 Nob) (fun _ _ h => h))
  have B2 := Lib.hid (B1.out.trans (hb2.mono B1.out.size))
  clear hw2 hb2 q3 B1 W1
  obtain ⟨b, of, rfl, _, cy⟩ := (HS1.out.below B2.out).int HN.out h257
  rw [HY0.out] at cy
  have n256 : (256 : Int) < n := by omega
  have y1 : (y0 == 0) = false := by simpa using hyn
  have S2 := Lib.hid (H.out.below B2.out)
  have H0 : Hid (∃ ov', RSIn c x y a o w a o ov' 0 w2) := Lib.hid ⟨_, S2.out, Fq.of_below B2.out _, fun _ r h => h, fun h => absurd rfl h⟩
  go_wp2_with fail
  go_loopg [10] (8 * c.bs.length - a + 1) (fun k _ wr => ∃ (b : Nat) (u : List Nat) (ov' : Value) (e : Nat), k = meas (8 * c.bs.length) b e ∧ Fq c.B0 w2 wr ∧ RSIn c x y a o w b u ov' e wr)
  case atStart =>
    obtain ⟨ov', h0⟩ := H0.out
    exact ⟨a, o, ov', 0, rfl, Fq.refl _ _, h0⟩
  case round =>
    obtain ⟨b, u, ov', e, rfl, hf2, hin⟩ := hrel
    have q3 := hin.1.c3
    have HIn := Lib.hid hin
    have HF2 := Lib.hid hf2
    have hpl := hin.1.place
    have hrm := hin.1.room
    clear hin hf2
    by_cases he : e = 0
    · subst he
      have HK := Lib.hid (HIn.out.2.2.1 rfl)
      go_wp2_with fail
      refine (rsign_any hg ov' b u x n HN.out hl HR.out Aw cw w.heap.size wr (HF2.out.own W12.out (by decide) (by decide) (by decide)) HIn.out.1).mono ?_
      rintro r w3 ⟨j, er, b', rfl, hs3, hf3, hc3⟩
      have S3 := Lib.hid hs3
      have F3 := Lib.hid (HIn.out.2.1.trans hf3)
      have G3 := Lib.hid (HF2.out.trans hf3)
      have p3 := hs3.c3
      clear hs3 hf3 q3
      rcases hc3 with ⟨rfl, hsig, hj, hbb, hb9⟩ | ⟨e0, e1, rfl, hsig⟩
      · have HSG := Lib.hid hsig; clear hsig
        by_cases h256 : j = 256
        · subst h256
          go_wp2_with fail
          refine bodyPost_ret (results_none rfl _ _ _) rfl ?_
          exact ⟨rfl, F3.out, .inl ⟨b', u, _, HRF.out.symm.trans (runF_eq (HK.out _ (.fin (step_fin HSG.out)))), S3.out⟩⟩
        · have d1 : (j == 256) = false := by simpa using h256
          have d2 : ((j : Int) == 256) = false := by simp; omega
          have d3 : ¬ (j : Int) = 256 := by omega
          by_cases hlt : j < 256
          · have wj : IntKind.u8.wrap (j : Int) = j := IntWalk.u8_in _ (by omega)
            have q1 := S3.out.c1
            have q2 := S3.out.c2
            obtain ⟨Ao, co, rfl, _⟩ := own_form S3.out.out
            by_cases hroom : u.length = c.most
            · have dr : (u.length == c.most) = true := by simpa using hroom
              go_wp2_with fail
              go_still (by kernel_rfl)
              go_wp2_with fail
              refine (rfail_any hg _ b' u 0 3 _ S3.out.drew).mono ?_
              rintro r w4 ⟨rfl, hs4, hf4⟩
              rw [if_pos rfl] at hs4
              have S4 := Lib.hid hs4; have F4 := Lib.hid (F3.out.drew.trans hf4); clear hs4 hf4
              go_wp2_with fail
              refine bodyPost_ret (results_none rfl _ _ _) rfl ?_
              exact ⟨rfl, F4.out, .inr ⟨3, b', u, _, by omega, by omega, HRF.out.symm.trans (runF_eq (HK.out _ (.er (step_long HSG.out hlt (by omega))))), S4.out⟩⟩
            · have dr : (u.length == c.most) = false := by simpa using hroom
              have dr2 : ((u.length : Int) == c.most) = false := by simp; omega
              have hur : u.length < c.most := by omega
              have HD := Lib.hid S3.out.drew
              have HA := Lib.hid (HD.out.below ((Below.refl _ _).alloc (Nat.le_refl _) (.cells #[.int .u8 (j : Int)] 5)))
              have sz := S3.out.size
              go_wp2_with fail
              go_still (by kernel_rfl)
              go_wp2_with (at_builtin; refine wpList_append_seen _ rfl (.tmp 75) (.tmp 78) _ rfl c.B1 5 i0 _ 1 1 Tryz.underlying23 HI0.out hz0 hz1 hz2 rfl (by omega) (.slice Ao u.length co) u.length _ rfl HA.out.out _ _ 1 1 _ rfl (seen_one _ _ _) (by simp [Value.oneCell']) (by simp only [maxLen]; omega) (by omega) (by simp only [World.size_alloc, World.size_drew]; omega) ?_; intro v6 w6 hown6 hg6 hat6; obtain ⟨A6, c6, rfl, _⟩ := own_form hown6; have hWh6 := HA.out.st.grown hg6 (fun e => own_ne_whole HA.out.out HA.out.st (by decide) c.gs e.symm rfl); have t1 : w6.cell? ⟨c.gs, 1, none⟩ = some (.slice Ao u.length co) := hWh6.cell 1; have z1 := hWh6.frozen 1; have HG := Lib.hid hg6; have HO := Lib.hid hown6; clear hg6 hown6 hWh6)
              have hP := Lib.hid (HA.out.push hg (v1 := .slice A6 (u.length + 1) c6) (o' := u ++ [j]) HG.out (by simpa using HO.out) (by simp; omega))
              have FA := Lib.hid ((Fq.of_below ((Below.refl _ w3.drew).alloc (Nat.le_refl _) (.cells #[.int .u8 (j : Int)] 5)) c.B0).trans hP.out.2)
              go_roundg (meas (8 * c.bs.length) b' 0)
              case rel => exact ⟨b', u ++ [j], _, 0, rfl, G3.out.drew.trans FA.out, hP.out.1, F3.out.drew.trans FA.out, fun _ r h => HK.out r (.go (step_lone HSG.out hlt hur) h), fun h => absurd rfl h⟩
              case measure => unfold meas; rw [if_pos rfl, if_pos rfl]; omega
          · have d4 : decide (j < 256) = false := decide_eq_false hlt
            have d5 : decide ((j : Int) < 256) = false := decide_eq_false (by omega)
            go_wp2_with fail
            refine (rcopy_any hg ov' b' u y m HM.out hl2 HR2.out Av cv w1.heap.size j _ (G3.out.own W2.out (by decide) (by decide) (by decide)) S3.out).mono ?_
            rintro r w4 ⟨rfl, hf4, hc4⟩
            have F4 := Lib.hid (F3.out.trans hf4)
            have G4 := Lib.hid (G3.out.trans hf4)
            clear hf4 p3
            rcases hc4 with ⟨b2, u2, ov2, hcp, hs4⟩ | ⟨er, b2, u2, ov2, e0, e1, hcp, hs4⟩
            · have hbk := (copy_ok hcp).1
              have S4 := Lib.hid hs4
              have HCP := Lib.hid hcp
              have pl4 := hs4.place
              clear hs4 hcp
              go_wp2_with fail
              go_roundg (meas (8 * c.bs.length) b2 0)
              case rel => exact ⟨b2, u2, ov2, 0, rfl, G4.out, S4.out, F4.out, fun _ r h => HK.out r (.go (step_copy HSG.out (by omega) HCP.out) h), fun h => absurd rfl h⟩
              case measure => unfold meas; rw [if_pos rfl, if_pos rfl]; omega
            · have S4 := Lib.hid hs4
              have HCP := Lib.hid hcp
              clear hs4 hcp
              go_wp2_with fail
              go_roundg (meas (8 * c.bs.length) b2 er)
              case rel => exact ⟨b2, u2, ov2, er, rfl, G4.out, S4.out, F4.out, fun h => by omega, fun _ => ⟨e1, HK.out _ (.er (step_copy_er HSG.out (by omega) HCP.out))⟩⟩
              case measure => unfold meas; rw [if_neg (by omega), if_pos rfl]; omega
      · have HSG := Lib.hid hsig; clear hsig
        have e2 : ((er : Int) == 0) = false := by simp; omega
        have e3 : ¬ (er : Int) = 0 := by omega
        have e4 : (er == 0) = false := by simp; omega
        go_wp2_with fail
        refine bodyPost_ret (results_none rfl _ _ _) rfl ?_
        exact ⟨rfl, F3.out, .inr ⟨er, b', u, _, e0, e1, HRF.out.symm.trans (runF_eq (HK.out _ (.er (step_er HSG.out)))), S3.out⟩⟩
    · obtain ⟨e1, hrun⟩ := HIn.out.2.2.2 he
      have HRun := Lib.hid hrun; clear hrun
      have e2 : ((e : Int) == 0) = false := by simp; omega
      have e3 : ¬ (e : Int) = 0 := by omega
      have e4 : (e == 0) = false := by simpa using he
      go_wp2_with fail
      go_end0
      exact ⟨rfl, HIn.out.2.1, .inr ⟨e, b, u, _, by omega, e1, HRF.out.symm.trans (runF_eq HRun.out), HIn.out.1⟩⟩
/-- What Words answers: a row, or none. -/
def WordsAns (w : World) (x : List Int) (n : Nat) (r : Ending) (w' : World) : Prop :=
  ∃ v, r = .returned (.tuple #[v, .bool (decide (kindOf x ≠ 0))]) ∧ (∃ A c, v = .slice A (if kindOf x = 0 then 0 else n) c) ∧ Below w.heap.size w w'
theorem words_ans (A : Option Addr) (n c B : Nat) (x : List Int) (hn : x.length = n) (hl : n ≤ 1000) (w : World) (hs : Seen w B 1 A n c (iv x)) (hB : B ≤ w.heap.size) :
    Calls Tryz.prog 68 #[.slice A n c] w (WordsAns w x n) := by
  by_cases hk : kindOf x = 0
  · refine (refWords_bad A n c B x hn hl hk w hs hB).mono ?_
    rintro r w' ⟨rfl, hb⟩
    exact ⟨.slice none 0 0, by simp [hk], ⟨none, 0, by simp [hk]⟩, hb⟩
  · refine (refWords_any A n c B x hn hl hk w hs hB).mono ?_
    rintro r w' ⟨v, rfl, hw, hb⟩
    obtain ⟨A', c', rfl, _⟩ := own_form hw
    exact ⟨.slice A' n c', by simp [hk], ⟨A', c', by simp [hk]⟩, hb⟩
set_option maxHeartbeats 2000000 in
theorem rsigns_bad {c : Rx} (hg : c.Good) (ov : Value) (a : Nat) (o : List Nat) (x y : List Int) (n m : Nat) (hn : x.length = n) (hm : y.length = m) (hl : n ≤ 1000) (hl2 : m ≤ 1000) (h257 : 256 < n) (hbad : x.getD 256 0 = 0 ∨ kindOf x = 0 ∨ kindOf y = 0) (A1 A2 : Option Addr) (c1 c2 : Nat) (w : World)
    (hs1 : Seen w w.heap.size 1 A1 n c1 (iv x)) (hs2 : Seen w w.heap.size 1 A2 m c2 (iv y)) (h : RSt c w ov a o 0) :
    Calls Tryz.prog 40 #[.pointer (some ⟨c.gs, 0, none⟩), .slice A1 n c1, .slice A2 m c2] w (RRes c (.er 12) w) := by
  have q3 := h.c3
  have H := Lib.hid h; clear h
  have HS1 := Lib.hid hs1; clear hs1
  have HS2 := Lib.hid hs2; clear hs2
  have HN := Lib.hid hn; clear hn
  have HM := Lib.hid hm; clear hm
  have hxl : 256 < x.length := by rw [HN.out]; exact h257
  obtain ⟨y0, hy0⟩ : ∃ y0, x[256] = y0 := ⟨_, rfl⟩
  have hyn : x.getD 256 0 = y0 := by simp [List.getD, hxl, hy0]
  rw [hyn] at hbad
  have HY0 := Lib.hid hy0; clear hy0 hyn
  have CW1 := Lib.hid (words_ans A1 n c1 w.heap.size x HN.out hl w HS1.out (Nat.le_refl _))
  have CW2 := Lib.hid (fun W (hB : Below w.heap.size w W) => words_ans A2 m c2 w.heap.size y HM.out hl2 W (HS2.out.below hB) hB.size)
  unfold WordsAns at CW1 CW2
  obtain ⟨kx, hkx⟩ : ∃ kx : Bool, decide (kindOf x ≠ 0) = kx := ⟨_, rfl⟩
  obtain ⟨ky, hky⟩ : ∃ ky : Bool, decide (kindOf y ≠ 0) = ky := ⟨_, rfl⟩
  obtain ⟨nx, hnx⟩ : ∃ nx : Nat, (if kindOf x = 0 then 0 else n) = nx := ⟨_, rfl⟩
  obtain ⟨ny, hny⟩ : ∃ ny : Nat, (if kindOf y = 0 then 0 else m) = ny := ⟨_, rfl⟩
  rw [hkx, hnx] at CW1
  rw [hky, hny] at CW2
  have hb2 : y0 = 0 ∨ kx = false ∨ ky = false := by
    rcases hbad with h | h | h
    · exact .inl h
    · exact .inr (.inl (by rw [← hkx]; simp [h]))
    · exact .inr (.inr (by rw [← hky]; simp [h]))
  have HB2 := Lib.hid hb2
  clear hkx hky hnx hny hbad hb2
  go_enter Tryz.func40, Tryz.ntmps40
  go_wp2_with fail
  refine CW1.out.mono ?_
  rintro r w1 ⟨v1, rfl, ⟨Aw, cw, rfl⟩, hb1⟩
  have B1 := Lib.hid hb1; clear hb1
  go_wp2_with fail
  refine (CW2.out w1 B1.out).mono ?_
  rintro r w2 ⟨v2, rfl, ⟨Av, cv, rfl⟩, hb2⟩
  have B2 := Lib.hid (B1.out.trans (hb2.mono B1.out.size))
  clear hb2 q3 B1
  obtain ⟨b, of, rfl, _, cy⟩ := (HS1.out.below B2.out).int HN.out h257
  rw [HY0.out] at cy
  have n256 : (256 : Int) < n := by omega
  have S2 := Lib.hid (H.out.below B2.out)
  have F2 := Lib.hid (Fq.of_below B2.out c.B0)
  have CF := Lib.hid (rfail_any hg ov a o 0 12 w2 S2.out)
  have hcase := HB2.out
  cases kx with
  | false =>
    go_wp2_with fail
    refine CF.out.mono ?_
    rintro r w3 ⟨rfl, hs3, hf3⟩
    first | rw [if_pos rfl] at hs3 | rw [if_pos trivial] at hs3
    have S3 := Lib.hid hs3; have F3 := Lib.hid (F2.out.trans hf3)
    have p3 := hs3.c3
    clear hs3 hf3 hcase
    go_wp2_with fail
    go_loop [10] (fun _ => True) (fun _ => 0)
    case atStart => trivial
    case round =>
      go_wp2_with fail
      go_end0
      exact ⟨rfl, F3.out, .inr ⟨12, a, o, _, by omega, by omega, rfl, S3.out⟩⟩
  | true =>
    cases ky with
    | false =>
      go_wp2_with fail
      refine CF.out.mono ?_
      rintro r w3 ⟨rfl, hs3, hf3⟩
      first | rw [if_pos rfl] at hs3 | rw [if_pos trivial] at hs3
      have S3 := Lib.hid hs3; have F3 := Lib.hid (F2.out.trans hf3)
      have p3 := hs3.c3
      clear hs3 hf3 hcase
      go_wp2_with fail
      go_loop [10] (fun _ => True) (fun _ => 0)
      case atStart => trivial
      case round =>
        go_wp2_with fail
        go_end0
        exact ⟨rfl, F3.out, .inr ⟨12, a, o, _, by omega, by omega, rfl, S3.out⟩⟩
    | true =>
      have hy00 : y0 = 0 := by simpa using hcase
      subst hy00
      clear hcase
      go_wp2_with fail
      refine CF.out.mono ?_
      rintro r w3 ⟨rfl, hs3, hf3⟩
      first | rw [if_pos rfl] at hs3 | rw [if_pos trivial] at hs3
      have S3 := Lib.hid hs3; have F3 := Lib.hid (F2.out.trans hf3)
      have p3 := hs3.c3
      clear hs3 hf3
      go_wp2_with fail
      go_loop [10] (fun _ => True) (fun _ => 0)
      case atStart => trivial
      case round =>
        go_wp2_with fail
        go_end0
        exact ⟨rfl, F3.out, .inr ⟨12, a, o, _, by omega, by omega, rfl, S3.out⟩⟩
/-- Both ways together. -/
theorem rsigns_any {c : Rx} (hg : c.Good) (ov : Value) (a : Nat) (o : List Nat) (x y : List Int) (n m : Nat) (hn : x.length = n) (hm : y.length = m) (hl : n ≤ 1000) (hl2 : m ≤ 1000) (h257 : 256 < n) (A1 A2 : Option Addr) (c1 c2 : Nat) (w : World)
    (hs1 : Seen w w.heap.size 1 A1 n c1 (iv x)) (hs2 : Seen w w.heap.size 1 A2 m c2 (iv y)) (h : RSt c w ov a o 0) :
    Calls Tryz.prog 40 #[.pointer (some ⟨c.gs, 0, none⟩), .slice A1 n c1, .slice A2 m c2] w (RRes c (if x.getD 256 0 = 0 ∨ kindOf x = 0 ∨ kindOf y = 0 then .er 12 else runF (signStep x y c.L c.most) (a, o)) w) := by
  by_cases hb : x.getD 256 0 = 0 ∨ kindOf x = 0 ∨ kindOf y = 0
  · rw [if_pos hb]
    exact rsigns_bad hg ov a o x y n m hn hm hl hl2 h257 hb A1 A2 c1 c2 w hs1 hs2 h
  · rw [if_neg hb]
    simp only [not_or] at hb
    exact rsigns_good hg ov a o x y n m hn hm hl hl2 h257 hb.2.1 hb.2.2 hb.1 A1 A2 c1 c2 w hs1 hs2 h
end Go.Proofs.YtkjhefjjacokjaaGreat
