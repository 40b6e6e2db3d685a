/-
  The document's stored block. Conditions: its state stands as told (RSt), its things are where they should be (Rx.Good).
-/
import Derived.Test.YtobchlakjgeadaaRC
import Derived.Test.YtobchlakjgeadaaT8
namespace Go.Proofs.Ytobchlakjgeadaa
open Go.RowKit
set_option maxRecDepth 100000

theorem bits_two {L : List Bool} {a p q v1 v2 : Nat} (h1 : bitsAt L a p = .ok v1) (h2 : bitsAt L (a + p) q = .ok v2) : bitsAt L a (p + q) = .ok (v1 + 2 ^ p * v2) := by
  unfold bitsAt at h1 h2 ⊢
  split at h1
  · split at h2
    · injection h1 with h1
      injection h2 with h2
      rename_i g1 g2
      rw [if_pos (by omega), num_part _ _ _ (by simp; omega), List.drop_drop, h1, h2]
    · cases h2
  · cases h1
theorem bits_two_er1 {L : List Bool} {a p q : Nat} (h1 : bitsAt L a p = .er 6) : bitsAt L a (p + q) = .er 6 := by
  unfold bitsAt at h1 ⊢
  split at h1
  · cases h1
  · rw [if_neg (by omega)]
theorem bits_two_er2 {L : List Bool} {a p q : Nat} (h2 : bitsAt L (a + p) q = .er 6) : bitsAt L a (p + q) = .er 6 := by
  unfold bitsAt at h2 ⊢
  split at h2
  · cases h2
  · rw [if_neg (by omega)]

theorem ralign_any {c : Rx} (hg : c.Good) (ov : Value) (a : Nat) (o : List Nat) (e : Nat) (w : World) (h : RSt c w ov a o e) :
    Calls Try.prog 40 #[.pointer (some ⟨c.gr, 0, none⟩)] w fun r w' => r = .returned (.tuple #[]) ∧ RSt c w' ov ((a + 7) / 8 * 8) o e ∧ Fq c.B0 w w' := by
  have hp := h.place
  have hl := hg.long
  refine (refAlign_any c.B0 c.gr c.rv c.L a w h.rd (by omega)).mono ?_
  rintro r w' ⟨rfl, hr, ho⟩
  exact ⟨rfl, h.read hr ho (by omega)⟩

theorem rtake_any {c : Rx} (hg : c.Good) (ov : Value) (t : Nat) (o : List Nat) (n : Nat) (w : World) (h : RSt c w ov (8 * t) o 0) :
    Calls Try.prog 41 #[.pointer (some ⟨c.gr, 0, none⟩), .int .i64 n] w fun r w' => ∃ v er a' xs, r = .returned (.tuple #[v, .int .i64 (er : Nat)]) ∧ w'.ownsRow w.heap.size 5 1 v xs.length (bx xs) ∧ RSt c w' ov a' o 0 ∧ Fq c.B0 w w' ∧
      ((er = 0 ∧ t + n ≤ c.bs.length ∧ a' = 8 * t + 8 * n ∧ xs = pack ((c.L.drop (8 * t)).take (8 * n)) ∧ xs.length = n) ∨ (er = 6 ∧ c.bs.length < t + n ∧ xs = [])) := by
  have hp := h.place
  have hlg := hg.long
  have e8 : (8 * t + 7) / 8 * 8 = 8 * t := by omega
  by_cases hl : t + n ≤ c.bs.length
  · have hy := refTake_yes c.B0 c.gr c.rv c.L (8 * t) n w h.rd (by simp; omega) (by rw [e8]; simp; omega)
    rw [e8] at hy
    refine hy.mono ?_
    rintro r w' ⟨v, rfl, hown, hr, ho⟩
    have hlen : (pack ((c.L.drop (8 * t)).take (8 * n))).length = n := by simp; omega
    have hrd := h.read hr ho (by omega)
    exact ⟨v, 0, 8 * t + 8 * n, _, rfl, by rw [hlen]; exact hown, hrd.1, hrd.2, .inl ⟨rfl, hl, rfl, rfl, hlen⟩⟩
  · have hy := refTake_end c.B0 c.gr c.rv c.L (8 * t) n w h.rd (by simp; omega) (by rw [e8]; simp; omega) (by omega) (by rw [e8]; simp; omega)
    rw [e8] at hy
    refine hy.mono ?_
    rintro r w' ⟨rfl, hr, ho⟩
    have hrd := h.read hr ho (by omega)
    exact ⟨.slice none 0 0, 6, 8 * t, [], rfl, World.ownsRow_nil _ _ _ _, hrd.1, hrd.2, .inr ⟨rfl, by omega, rfl⟩⟩

/-- fail, told finer: only the state's block may have changed. -/
theorem rfail_only {c : Rx} (hg : c.Good) (ov : Value) (a : Nat) (o : List Nat) (e er : Nat) (w : World) (h : RSt c w ov a o e) :
    Calls Try.prog 27 #[.pointer (some ⟨c.gs, 0, none⟩), .int .i64 er] w fun r w' => r = .returned (.tuple #[]) ∧ RSt c w' ov a o (if e = 0 then er else e) ∧ Fq c.B0 w w' ∧ Only (fun k => k = c.gs) w w' := by
  have c3 := h.c3
  have z3 := h.st.frozen 3
  have HE := Lib.hid (h.err hg er)
  have H := Lib.hid h; clear h
  by_cases h0 : e = 0
  · subst h0
    rw [if_pos rfl]
    go_enter Try.func27, Try.ntmps27
    go_wp2
    go_end0
    exact ⟨rfl, HE.out.1, HE.out.2, (Only.refl (fun k => k = c.gs) _).setCell (p := ⟨c.gs, 3, none⟩) (.inl rfl) _⟩
  · rw [if_neg h0]
    have d0 : (e == 0) = false := by simpa using h0
    have d1 : ((e : Int) == 0) = false := by simp; omega
    go_enter Try.func27, Try.ntmps27
    go_wp2
    go_end0
    exact ⟨rfl, H.out, Fq.refl _ _, Only.refl _ _⟩

set_option maxHeartbeats 2000000 in
theorem rstored_any {c : Rx} (hg : c.Good) (ov : Value) (a : Nat) (o : List Nat) (w : World) (h : RSt c w ov a o 0) :
    Calls Try.prog 23 #[.pointer (some ⟨c.gs, 0, none⟩)] w (RRes c (storedAt c.L c.most a o) w) := by
  obtain ⟨i0, hi0, hz0, hz1, hz2⟩ := info_parts byte_info
  obtain ⟨Ao, co, rfl, _⟩ := own_form h.out
  have hrm := h.room
  have hmo := hg.most
  obtain ⟨m, hm⟩ : ∃ m, c.most - o.length = m := ⟨_, rfl⟩
  have wm : (c.most : Int) - o.length = m := by omega
  have wm2 : IntKind.i64.wrap (m : Int) = m := IntWalk.i64_in _ (by omega)
  have c0 := h.c0
  have H := Lib.hid h; clear h
  obtain ⟨R, hR⟩ : ∃ R, storedAt c.L c.most a o = R := ⟨_, rfl⟩
  rw [hR]
  have HR := Lib.hid hR; clear hR
  go_enter Try.func23, Try.ntmps23
  go_wp2_with fail
  refine (ralign_any hg _ a o 0 w H.out).mono ?_
  rintro r w1 ⟨rfl, hs1, hf1⟩
  obtain ⟨a0, ha0⟩ : ∃ a0, (a + 7) / 8 * 8 = a0 := ⟨_, rfl⟩
  rw [ha0] at hs1
  obtain ⟨t0, ht0⟩ : ∃ t, a0 = 8 * t := ⟨(a + 7) / 8, by omega⟩
  have HA0 := Lib.hid ha0
  have S1 := Lib.hid hs1; have F1 := Lib.hid hf1; clear hs1 hf1 c0 ha0
  go_wp2_with fail
  refine (rget_any hg _ a0 o 16 (by omega) _ S1.out).mono ?_
  rintro r w2 ⟨v1, er, a1, rfl, hs2, hf2, hc2⟩
  have S2 := Lib.hid hs2; have F2 := Lib.hid (F1.out.trans hf2); clear hs2 hf2
  rcases hc2 with ⟨rfl, hb1, hv1, rfl⟩ | ⟨rfl, rfl, hb1⟩
  · have hv16 : v1 < 65536 := hv1
    clear hv1
    have HB1 := Lib.hid hb1; clear hb1
    go_wp2_with fail
    refine (rget_any hg _ (a0 + 16) o 16 (by omega) _ S2.out).mono ?_
    rintro r w3 ⟨v2, er, a2, rfl, hs3, hf3, hc3⟩
    have S3 := Lib.hid hs3; have F3 := Lib.hid (F2.out.trans hf3); clear hs3 hf3
    have c3 := S3.out.c3
    have c1 := S3.out.c1
    have c2 := S3.out.c2
    rcases hc3 with ⟨rfl, hb2, hv2, rfl⟩ | ⟨rfl, rfl, hb2⟩
    · have hv26 : v2 < 65536 := hv2
      clear hv2
      have hb32 := bits_two HB1.out hb2
      have e1 : (v1 + 2 ^ 16 * v2) % 65536 = v1 := by show (v1 + 65536 * v2) % 65536 = v1; omega
      have e2 : (v1 + 2 ^ 16 * v2) / 65536 = v2 := by show (v1 + 65536 * v2) / 65536 = v2; omega
      have hE := Lib.hid ((stored_eq (most := c.most) (o := o) HA0.out hb32 e1 e2).symm.trans HR.out)
      clear hb32 e1 e2 hb2
      obtain ⟨sm, hsm⟩ : ∃ sm, v1 + v2 = sm := ⟨_, rfl⟩
      have wsm : (v1 : Int) + v2 = sm := by omega
      by_cases hform : v2 + v1 ≠ 65535
      · have hE2 := hE.out
        rw [if_pos hform] at hE2
        have HRR := Lib.hid hE2; clear hE2 hE
        have ds : ((sm : Int) == 65535) = false := by simp; omega
        have ds2 : ¬ (sm : Int) = 65535 := by omega
        have ds3 : ((sm : Int) != 65535) = true := by simp; omega
        go_wp2_with fail
        refine (rfail_any hg _ (a0 + 16 + 16) o 0 2 _ S3.out).mono ?_
        rintro r w4 ⟨rfl, hs4, hf4⟩
        rw [if_pos rfl] at hs4
        have S4 := Lib.hid hs4; have F4 := Lib.hid (F3.out.trans hf4); clear hs4 hf4 c1 c2 c3
        have hene : 2 ≠ 0 := by omega
        have c1 := S4.out.c1
        have c2 := S4.out.c2
        have c3 := S4.out.c3
        by_cases hl1 : m < v1
        · have dl : decide (m < v1) = true := decide_eq_true hl1
          go_wp2_with fail
          go_still (by kernel_rfl)
          go_wp2_with fail
          refine (rfail_any hg _ (a0 + 16 + 16) o 2 3 _ S4.out.drew).mono ?_
          rintro r wz ⟨rfl, hsz, hfz⟩
          rw [if_neg hene] at hsz
          have SZ := Lib.hid hsz; have FZ := Lib.hid (F4.out.drew.trans hfz)
          clear hsz hfz c1 c2 c3
          have c3 := SZ.out.c3
          go_wp2_with fail
          go_end0
          exact ⟨rfl, FZ.out, .inr ⟨2, _, o, _, by omega, by omega, HRR.out.symm, SZ.out⟩⟩
        · have dl : decide (m < v1) = false := decide_eq_false hl1
          have SZ := Lib.hid S4.out.drew; have FZ := Lib.hid F4.out.drew
          go_wp2_with fail
          go_still (by kernel_rfl)
          go_wp2_with fail
          go_end0
          exact ⟨rfl, FZ.out, .inr ⟨2, _, o, _, by omega, by omega, HRR.out.symm, SZ.out⟩⟩
      · have hE2 := hE.out
        rw [if_neg hform] at hE2
        have hsm2 : sm = 65535 := by omega
        have ds2 : (sm : Int) = 65535 := by omega
        by_cases hlong : c.most < o.length + v1
        · rw [if_pos hlong] at hE2
          have HRR := Lib.hid hE2; clear hE2 hE
          have dl : decide (m < v1) = true := decide_eq_true (by omega)
          go_wp2_with fail
          go_still (by kernel_rfl)
          go_wp2_with fail
          refine (rfail_any hg _ (a0 + 16 + 16) o 0 3 _ S3.out.drew).mono ?_
          rintro r w4 ⟨rfl, hs4, hf4⟩
          rw [if_pos rfl] at hs4
          have S4 := Lib.hid hs4; have F4 := Lib.hid (F3.out.drew.trans hf4); clear hs4 hf4 c1 c2 c3
          have c3 := S4.out.c3
          go_wp2_with fail
          go_end0
          exact ⟨rfl, F4.out, .inr ⟨3, _, o, _, by omega, by omega, HRR.out.symm, S4.out⟩⟩
        · rw [if_neg hlong] at hE2
          have HE2 := Lib.hid hE2; clear hE2 hE
          have dl : decide (m < v1) = false := decide_eq_false (by omega)
          have S3' : Hid (RSt c w3.drew (.slice Ao o.length co) (8 * (t0 + 4)) o 0) := Lib.hid (by rw [show 8 * (t0 + 4) = a0 + 16 + 16 by omega]; exact S3.out.drew)
          have c03 := S3'.out.c0
          go_wp2_with fail
          go_still (by kernel_rfl)
          go_wp2_with fail
          refine (rtake_any hg _ (t0 + 4) o v1 _ S3'.out).mono ?_
          rintro r w4 ⟨vt, er, a3, xs, rfl, hown, hs4, hf4, hcase⟩
          obtain ⟨At, ct, rfl, _, hseen⟩ := own_seen hown
          have OW := Lib.hid hown
          have S4 := Lib.hid hs4
          have F4 := Lib.hid (F3.out.drew.trans hf4)
          have CS := Lib.hid hcase
          have hxl : xs.length ≤ 65535 := by
            rcases hcase with ⟨_, _, _, _, h⟩ | ⟨_, _, h⟩
            · omega
            · rw [h]; simp
          have hxm : o.length + xs.length ≤ c.most := by
            rcases hcase with ⟨_, _, _, _, h⟩ | ⟨_, _, h⟩
            · omega
            · rw [h]; simpa using hrm
          have her : er < 100 := by
            rcases hcase with ⟨h, _⟩ | ⟨h, _⟩ <;> omega
          clear hown hseen hs4 hf4 hcase c03 c1 c2 c3
          go_wp2_with fail
          refine (rfail_only hg _ a3 o 0 er _ S4.out).mono ?_
          rintro r w5 ⟨rfl, hs5, hf5, ho5⟩
          rw [if_pos rfl] at hs5
          have S5 := Lib.hid hs5; have F5 := Lib.hid (F4.out.trans hf5)
          have SN5 := Lib.hid (Seen.of_own (own_only OW.out ho5 (fun k hk => own_ne_whole OW.out S4.out.st (by decide) k hk)))
          have c1 := hs5.c1
          have sz := hs5.size
          clear hs5 hf5 ho5
          go_wp2_with (at_builtin; refine wpList_append_seen _ rfl (.tmp 63) (.tmp 64) _ rfl c.B1 5 i0 _ 1 1 Try.underlying22 hi0 hz0 hz1 hz2 rfl (by omega) (.slice Ao o.length co) o.length _ rfl S5.out.out _ At xs.length ct _ rfl SN5.out (bytes_oneCell _) (by simp only [maxLen]; omega) (by omega) sz ?_; intro v6 w6 hown6 hg6 hat6; obtain ⟨A6, c6, rfl, _⟩ := own_form hown6; have hWh6 := S5.out.st.grown hg6 (fun e => own_ne_whole S5.out.out S5.out.st (by decide) c.gs e.symm rfl); have d1 : w6.cell? ⟨c.gs, 1, none⟩ = some (.slice Ao o.length co) := hWh6.cell 1; have z1 := hWh6.frozen 1; have HG := Lib.hid hg6; have HO := Lib.hid hown6; clear hg6 hown6 hWh6)
          go_end0
          have hl : (o ++ xs).length = o.length + xs.length := by simp
          have hP := S5.out.push hg (v1 := .slice A6 (o.length + xs.length) c6) (o' := o ++ xs) HG.out (by rw [hl]; simpa using HO.out) (by omega)
          refine ⟨rfl, F5.out.trans hP.2, ?_⟩
          rcases CS.out with ⟨rfl, k1, rfl, k3, k4⟩ | ⟨rfl, k1, k2⟩
          · refine .inl ⟨8 * (t0 + 4) + 8 * v1, o ++ xs, _, ?_, hP.1⟩
            rw [← HE2.out, if_neg (by simp; omega), k3, show 8 * (t0 + 4) = a0 + 32 by omega]
          · refine .inr ⟨6, a3, o ++ xs, _, by omega, by omega, ?_, hP.1⟩
            rw [← HE2.out, if_pos (by simp; omega)]
    · have HRR := Lib.hid ((stored_er (most := c.most) (o := o) HA0.out (bits_two_er2 (p := 16) (q := 16) hb2)).symm.trans HR.out)
      clear hb2 c1 c2 c3
      have hene : 6 ≠ 0 := by omega
      have c1 := S3.out.c1
      have c2 := S3.out.c2
      have c3 := S3.out.c3
      by_cases hl1 : m < v1
      · have dl : decide (m < v1) = true := decide_eq_true hl1
        go_wp2_with fail
        go_still (by kernel_rfl)
        go_wp2_with fail
        refine (rfail_any hg _ a2 o 6 3 _ S3.out.drew).mono ?_
        rintro r wz ⟨rfl, hsz, hfz⟩
        rw [if_neg hene] at hsz
        have SZ := Lib.hid hsz; have FZ := Lib.hid (F3.out.drew.trans hfz)
        clear hsz hfz c1 c2 c3
        have c3 := SZ.out.c3
        go_wp2_with fail
        go_end0
        exact ⟨rfl, FZ.out, .inr ⟨6, _, o, _, by omega, by omega, HRR.out.symm, SZ.out⟩⟩
      · have dl : decide (m < v1) = false := decide_eq_false hl1
        have SZ := Lib.hid S3.out.drew; have FZ := Lib.hid F3.out.drew
        go_wp2_with fail
        go_still (by kernel_rfl)
        go_wp2_with fail
        go_end0
        exact ⟨rfl, FZ.out, .inr ⟨6, _, o, _, by omega, by omega, HRR.out.symm, SZ.out⟩⟩
  · have HRR := Lib.hid ((stored_er (most := c.most) (o := o) HA0.out (bits_two_er1 (p := 16) (q := 16) hb1)).symm.trans HR.out)
    clear hb1
    go_wp2_with fail
    refine ((rget_no _ a1 o 6 16 (by omega) _ S2.out).mono (fun _ _ h => (⟨h.1, h.2.symm⟩ : _ ∧ w2 = _))).mono ?_
    rintro r w3 ⟨rfl, rfl⟩
    have hene : 6 ≠ 0 := by omega
    have c1 := S2.out.c1
    have c2 := S2.out.c2
    have c3 := S2.out.c3
    have dl : decide ((m : Int) < 0) = false := decide_eq_false (by omega)
    have SZ := Lib.hid S2.out.drew; have FZ := Lib.hid F2.out.drew
    go_wp2_with fail
    go_still (by kernel_rfl)
    go_wp2_with fail
    go_end0
    exact ⟨rfl, FZ.out, .inr ⟨6, _, o, _, by omega, by omega, HRR.out.symm, SZ.out⟩⟩
end Go.Proofs.Ytobchlakjgeadaa
