/-
  The document's copy. Conditions: each theorem names its own.
-/
import Derived.Test.YtkjhefjjacokjaaGreatID
namespace Go.Proofs.YtkjhefjjacokjaaGreat
open Go.RowKit
set_option maxRecDepth 100000
/-- What a call on the document's state makes, that stands without an error: r is what it should. -/
def RRes (c : Rx) (R : Rs (Nat × List Nat)) (w : World) (r : Ending) (w' : World) : Prop :=
  r = .returned (.tuple #[]) ∧ Fq c.B0 w w' ∧ ((∃ a o ov, R = .ok (a, o) ∧ RSt c w' ov a o 0) ∨ (∃ er a o ov, 0 < er ∧ er < 100 ∧ R = .er er ∧ RSt c w' ov a o er))
theorem rlen_call (s : Nat) (w : World) : Calls Tryz.prog 29 #[.int .i64 s] w fun e w' => e = .returned (optV (lenOf s)) ∧ w = w' := by
  have := (refLength_any s w).mono (fun _ _ h => (⟨h.1, h.2.symm⟩ : _ ∧ w = _))
  rwa [if_neg (by omega)] at this
theorem rdst_zero (w : World) : Calls Tryz.prog 31 #[.int .i64 0] w fun e w' => e = .returned (.tuple #[.int .i64 1, .int .i64 0, .bool true]) ∧ w = w' := (refDistance_any 0 w).mono (fun _ _ h => ⟨h.1, h.2.symm⟩)
theorem rget_no0 {c : Rx} (ov : Value) (a : Nat) (o : List Nat) (e : Nat) (he : e ≠ 0) (w : World) (h : RSt c w ov a o e) :
    Calls Tryz.prog 38 #[.pointer (some ⟨c.gs, 0, none⟩), .int .i64 0] w fun r w' => r = .returned (.int .i64 0) ∧ w = w' := (rget_no ov a o e 0 he w h).mono (fun _ _ h => ⟨h.1, h.2.symm⟩)
theorem rsign_no0 {c : Rx} (ov : Value) (a : Nat) (o : List Nat) (e : Nat) (he : e ≠ 0) (W : Value) (w : World) (h : RSt c w ov a o e) :
    Calls Tryz.prog 69 #[.pointer (some ⟨c.gs, 0, none⟩), W] w fun r w' => r = .returned (.int .i64 0) ∧ w = w' := (rsign_no ov a o e he W w h).mono (fun _ _ h => ⟨h.1, h.2.symm⟩)
theorem rdst_call (s : Nat) (w : World) : Calls Tryz.prog 31 #[.int .i64 s] w fun e w' => e = .returned (optV (dstOf s)) ∧ w = w' := by
  have := (refDistance_any s w).mono (fun _ _ h => (⟨h.1, h.2.symm⟩ : _ ∧ w = _))
  rwa [if_neg (by omega)] at this
set_option maxHeartbeats 4000000 in
theorem rcopy_any {c : Rx} (hg : c.Good) (ov : Value) (a : Nat) (o : List Nat) (y : List Int) (n : Nat) (hn : y.length = n) (hl : n ≤ 1000) (hr : kindOf y ≠ 0) (A : Option Addr) (cp lo : Nat) (s : Nat) (w : World) (hw : w.ownsRow lo 9 1 (.slice A n cp) n (twords y n)) (h : RSt c w ov a o 0) :
    Calls Tryz.prog 70 #[.pointer (some ⟨c.gs, 0, none⟩), .int .i64 s, .slice A n cp] w (RRes c (copyAt y c.L c.most s a o) w) := by
  obtain ⟨Ao, co, rfl, _⟩ := own_form h.out
  have hrm := h.room
  have hmo := hg.most
  obtain ⟨m, hm⟩ : ∃ m, c.most - o.length = m := ⟨_, rfl⟩
  have wm : (c.most : Int) - o.length = m := by omega
  have wm2 : IntKind.i64.wrap (m : Int) = m := IntWalk.i64_in _ (by omega)
  have H := Lib.hid h; clear h
  have HW := Lib.hid hw; clear hw
  have HN := Lib.hid hn; clear hn
  have HR := Lib.hid hr; clear hr
  have CL := Lib.hid (fun W => rlen_call s W)
  obtain ⟨R, hR⟩ : ∃ R, copyAt y c.L c.most s a o = R := ⟨_, rfl⟩
  rw [hR]
  unfold copyAt at hR
  cases hL : lenOf s with
  | none =>
    rw [hL] at hR CL
    simp only [addAt] at hR
    simp only [optV] at CL
    have HRR := Lib.hid hR; clear hR hL
    go_enter Tryz.func70, Tryz.ntmps70
    go_wp2_with fail
    refine (CL.out _).mono ?_; rintro r w1 ⟨rfl, rfl⟩
    go_wp2_with fail
    refine (rfail_any hg _ a o 0 5 _ H.out).mono ?_
    rintro r w2 ⟨rfl, hs2, hf2⟩
    have S2 := Lib.hid hs2; have F2 := Lib.hid hf2; clear hs2 hf2
    go_wp2_with fail
    refine bodyPost_ret (results_none rfl _ _ _) rfl ?_
    exact ⟨rfl, F2.out, .inr ⟨5, a, o, _, by omega, by omega, HRR.out.symm, S2.out⟩⟩
  | some bn =>
    obtain ⟨b, nb⟩ := bn
    rw [hL] at hR CL
    simp only [optV] at CL
    obtain ⟨hb5, hb258⟩ := lenOf_bits s b nb hL
    have HR0 := Lib.hid hR; clear hR hL
    go_enter Tryz.func70, Tryz.ntmps70
    go_wp2_with fail
    refine (CL.out _).mono ?_; rintro r w1 ⟨rfl, rfl⟩
    go_wp2_with fail
    refine (rget_any hg _ a o nb (by omega) _ H.out).mono ?_
    rintro r w2 ⟨v, er, a1, rfl, hs2, hf2, hc2⟩
    have S2 := Lib.hid hs2; have F2 := Lib.hid hf2
    clear hs2 hf2
    have hv32 : v < 32 := by
      rcases hc2 with ⟨_, _, h3, _⟩ | ⟨_, h2, _⟩
      · have := Nat.pow_le_pow_right (n := 2) (by omega) hb5
        omega
      · omega
    obtain ⟨long, hlong⟩ : ∃ t, b + v = t := ⟨_, rfl⟩
    have wlong : (b : Int) + v = long := by omega
    rcases hc2 with ⟨rfl, hbits, _, rfl⟩ | ⟨rfl, rfl, hbits⟩
    · have hA : addAt (some (b, nb)) c.L a = .ok (long, a + nb) := by simp only [addAt, hbits]; rw [hlong]
      have hRR := HR0.out
      rw [hA] at hRR
      simp only at hRR
      have HR1 := Lib.hid hRR
      clear hRR hA hbits HR0 hlong
      go_wp2_with fail
      refine (rsign_any hg _ (a + nb) o y n HN.out hl HR.out A cp lo _ (F2.out.own HW.out (by decide) (by decide) (by decide)) S2.out).mono ?_
      rintro r w3 ⟨j, er, a2, rfl, hs3, hf3, hc3⟩
      have S3 := Lib.hid hs3; have F3 := Lib.hid (F2.out.trans hf3)
      clear hs3 hf3
      have CD := Lib.hid (fun W => rdst_call j W)
      rcases hc3 with ⟨rfl, hsig, hj, haa, hae⟩ | ⟨he0, he1, rfl, hsig⟩
      · have hRR := HR1.out
        rw [hsig] at hRR
        simp only at hRR
        have HR2 := Lib.hid hRR
        clear hRR hsig HR1
        cases hD : dstOf j with
        | none =>
          rw [hD] at CD
          simp only [optV] at CD
          have hRR := HR2.out
          rw [hD] at hRR
          simp only [addAt] at hRR
          have HRR := Lib.hid hRR; clear hRR HR2 hD
          go_wp2_with fail
          refine (CD.out _).mono ?_; rintro r w4 ⟨rfl, rfl⟩
          go_wp2_with fail
          refine (rfail_any hg _ a2 o 0 5 _ S3.out).mono ?_
          rintro r w4 ⟨rfl, hs4, hf4⟩
          have S4 := Lib.hid hs4; have F4 := Lib.hid (F3.out.trans hf4); clear hs4 hf4
          go_wp2_with fail
          refine bodyPost_ret (results_none rfl _ _ _) rfl ?_
          exact ⟨rfl, F4.out, .inr ⟨5, a2, o, _, by omega, by omega, HRR.out.symm, S4.out⟩⟩
        | some dn =>
          obtain ⟨d, nd⟩ := dn
          rw [hD] at CD
          simp only [optV] at CD
          obtain ⟨hd5, hd258, hd1⟩ := dstOf_bits j d nd hD
          have hRR := HR2.out
          rw [hD] at hRR
          have HR3 := Lib.hid hRR; clear hRR HR2 hD
          go_wp2_with fail
          refine (CD.out _).mono ?_; rintro r w4 ⟨rfl, rfl⟩
          go_wp2_with fail
          refine (rget_any hg _ a2 o nd (by omega) _ S3.out).mono ?_
          rintro r w4 ⟨u, er, a3, rfl, hs4, hf4, hc4⟩
          have S4 := Lib.hid hs4; have F4 := Lib.hid (F3.out.trans hf4)
          clear hs4 hf4
          have hu : u < 8192 := by
            rcases hc4 with ⟨_, _, h3, _⟩ | ⟨_, h2, _⟩
            · have := Nat.pow_le_pow_right (n := 2) (by omega) hd5
              omega
            · omega
          obtain ⟨k, hk⟩ : ∃ t, d + u = t := ⟨_, rfl⟩
          have wk : (d : Int) + u = k := by omega
          rcases hc4 with ⟨rfl, hbits, _, rfl⟩ | ⟨rfl, rfl, hbits⟩
          · have hA : addAt (some (d, nd)) c.L a2 = .ok (k, a2 + nd) := by simp only [addAt, hbits]; rw [hk]
            have hRR := HR3.out
            rw [hA] at hRR
            simp only at hRR
            have HR4 := Lib.hid hRR
            clear hRR hA hbits HR3
            obtain ⟨a4, ha4⟩ : ∃ t, a2 + nd = t := ⟨_, rfl⟩
            rw [ha4] at S4 HR4
            by_cases hback : o.length < k
            · have hRR := HR4.out
              rw [if_pos hback] at hRR
              have HRR := Lib.hid hRR; clear hRR HR4
              have c1 := S4.out.c1
              have db : decide (o.length < k) = true := decide_eq_true hback
              go_wp2_with fail
              refine (rfail_any hg _ a4 o 0 13 _ S4.out).mono ?_
              rintro r wy ⟨rfl, hsy, hfy⟩
              rw [if_pos rfl] at hsy
              have SY := Lib.hid hsy; have FY := Lib.hid (F4.out.trans hfy)
              clear hsy hfy c1
              have c1 := SY.out.c1
              have c2 := SY.out.c2
              have hene : 13 ≠ 0 := by omega
              go_wp2_with fail
              by_cases hl1 : m < long
              · have dl : decide (m < long) = true := decide_eq_true hl1
                go_still (by kernel_rfl)
                go_wp2_with fail
                refine (rfail_any hg _ a4 o 13 3 _ SY.out.drew).mono ?_
                rintro r wz ⟨rfl, hsz, hfz⟩
                rw [if_neg hene] at hsz
                have SZ := Lib.hid hsz; have FZ := Lib.hid (FY.out.drew.trans hfz)
                clear hsz hfz c1 c2
                go_wp2_with fail
                have c3 := SZ.out.c3
                go_loop [13] (fun i => i = .int .i64 0) (fun _ => 0)
                case atStart => rfl
                case round =>
                  subst hrel
                  go_wp2_with fail
                  all_goals
                    go_end0
                    exact ⟨rfl, FZ.out, .inr ⟨13, a4, o, _, by omega, by omega, HRR.out.symm, SZ.out⟩⟩
              · have dl : decide (m < long) = false := decide_eq_false hl1
                have SZ := Lib.hid SY.out.drew; have FZ := Lib.hid FY.out.drew
                go_still (by kernel_rfl)
                go_wp2_with fail
                have c3 := SZ.out.c3
                go_loop [13] (fun i => i = .int .i64 0) (fun _ => 0)
                case atStart => rfl
                case round =>
                  subst hrel
                  go_wp2_with fail
                  all_goals
                    go_end0
                    exact ⟨rfl, FZ.out, .inr ⟨13, a4, o, _, by omega, by omega, HRR.out.symm, SZ.out⟩⟩
            · have hRR := HR4.out
              rw [if_neg hback] at hRR
              have db : decide (o.length < k) = false := decide_eq_false hback
              have c1 := S4.out.c1
              have c2 := S4.out.c2
              by_cases hlg : c.most < o.length + long
              · rw [if_pos hlg] at hRR
                have HRR := Lib.hid hRR; clear hRR HR4
                have dl : decide (m < long) = true := decide_eq_true (by omega)
                go_wp2_with fail
                go_still (by kernel_rfl)
                go_wp2_with fail
                refine (rfail_any hg _ a4 o 0 3 _ S4.out.drew).mono ?_
                rintro r wz ⟨rfl, hsz, hfz⟩
                rw [if_pos rfl] at hsz
                have SZ := Lib.hid hsz; have FZ := Lib.hid (F4.out.drew.trans hfz)
                clear hsz hfz c1 c2
                go_wp2_with fail
                have c3 := SZ.out.c3
                go_loop [13] (fun i => i = .int .i64 0) (fun _ => 0)
                case atStart => rfl
                case round =>
                  subst hrel
                  go_wp2_with fail
                  all_goals
                    go_end0
                    exact ⟨rfl, FZ.out, .inr ⟨3, a4, o, _, by omega, by omega, HRR.out.symm, SZ.out⟩⟩
              · rw [if_neg hlg] at hRR
                have HRR := Lib.hid hRR; clear hRR HR4
                have dl : decide (m < long) = false := decide_eq_false (by omega)
                have H0 : Hid (∃ ov', RSt c w4.drew ov' a4 (copyM k 0 o) 0) := Lib.hid ⟨_, S4.out.drew⟩
                have F0 := Lib.hid F4.out.drew
                go_wp2_with fail
                go_still (by kernel_rfl)
                go_wp2_with fail
                clear c1 c2
                go_loopw [13] (fun i wr => ∃ t : Nat, t ≤ long ∧ i = .int .i64 t ∧ (∃ ov', RSt c wr ov' a4 (copyM k t o) 0) ∧ Fq c.B0 w wr) (fun i _ => long - (intOf i).toNat)
                case atStart => exact ⟨0, by omega, rfl, H0.out, F0.out⟩
                case round =>
                  obtain ⟨t, ht, rfl, ⟨ov', hs5⟩, hf5⟩ := hrel
                  have c3 := hs5.c3
                  by_cases htv : t < long
                  · have dt : decide (t < long) = true := decide_eq_true htv
                    have hcl := copyM_length k t o
                    have HCS := Lib.hid (copyM_succ k t o)
                    obtain ⟨O, hO⟩ : ∃ O, copyM k t o = O := ⟨_, rfl⟩
                    rw [hO] at hs5 hcl HCS
                    obtain ⟨x, hx⟩ : ∃ x, O.getD (O.length - k) 0 = x := ⟨_, rfl⟩
                    rw [hx] at HCS
                    obtain ⟨r, cap, rfl, hcap, hcapm⟩ := own_pos hs5.out (by omega)
                    obtain ⟨qi, hqi⟩ : ∃ qi, O.length - k = qi := ⟨_, rfl⟩
                    have hXQ : (bx O)[qi]? = some (.int .u8 (x : Nat)) := by
                      rw [hqi] at hx
                      have : qi < O.length := by omega
                      simp [List.getD, this] at hx
                      simp [this, hx]
                    have cq : wr.cell? ⟨r, qi, none⟩ = some (.int .u8 (x : Nat)) := (own_cell hs5.out hXQ).1
                    have c1 := hs5.c1
                    have HS4 := Lib.hid hs5
                    have HF4 := Lib.hid hf5
                    have wq : (O.length : Int) - k = qi := by omega
                    have wq2 : IntKind.i64.wrap (qi : Int) = qi := IntWalk.i64_in _ (by omega)
                    have q0 : (0 : Int) ≤ qi := by omega
                    have q1 : (qi : Int) < O.length := by omega
                    obtain ⟨i0, hi0, hz0, hz1, hz2⟩ := info_parts byte_info
                    have HXQ : Hid ((bx O)[qi]? = some (.int .u8 (x : Nat))) := Lib.hid hXQ
                    have HA : Hid (RSt c ((wr.alloc (.cells #[.int .u8 (x : Int)] 5)).drew) (.slice (some ⟨r, 0, none⟩) O.length cap) a4 O 0) := Lib.hid ((HS4.out.below ((Below.refl _ _).alloc (Nat.le_refl _) _)).drew)
                    have HSN := Lib.hid (seen_one wr 5 (.int .u8 (x : Int)))
                    have HSZ : Hid (c.B1 ≤ (wr.alloc (.cells #[.int .u8 (x : Int)] 5)).drew.heap.size) := Lib.hid HA.out.size
                    have HK1 : Hid ((wr.alloc (.cells #[.int .u8 (x : Int)] 5)).drew.cell? ⟨c.gs, 1, none⟩ = some (.slice (some ⟨r, 0, none⟩) O.length cap) ∧ (wr.alloc (.cells #[.int .u8 (x : Int)] 5)).drew.cell? ⟨r, qi, none⟩ = some (.int .u8 (x : Nat))) := Lib.hid ⟨HA.out.c1, own_cell HA.out.out HXQ.out |>.1⟩
                    have hOL : O.length + 1 ≤ c.most := by omega
                    have hO1 : 0 < O.length := by omega
                    have HCL := Lib.hid hcl
                    clear hs5 hf5 hO hx hqi hXQ hcl
                    go_wp2_with fail
                    refine wp_region_heldTail (S := (fun W => W.cell? ⟨c.gs, 1, none⟩ = some (.slice (some ⟨r, 0, none⟩) O.length cap) ∧ W.cell? ⟨r, qi, none⟩ = some (.int .u8 (x : Nat)))) 20 3 (by kernel_rfl) (by rfl) ⟨c1, cq⟩ (fun hHeld => ?_)
                    refine wpAnyT_take (i := 0) (oi := ⟨some 81, _, _, _, _, _⟩) (v := ?v0) rfl (by kernel_rfl) (by kernel_rfl) (by kernel_rfl) (by kernel_rfl) (fun _ _ _ h => h) (Or.inl ⟨by rfl, ?hy0⟩) (by assumption) ?rest0
                    case hy0 => intro W hSW; go_simp; try rfl
                    try simp only [Act.put, List.setIfInBounds_toArray, List.set_cons_zero, List.set_cons_succ]
                    refine wpAnyT_take (i := 1) (oi := ⟨some 82, _, _, _, _, _⟩) (v := ?v1) rfl (by kernel_rfl) (by kernel_rfl) (by kernel_rfl) (by kernel_rfl) (fun _ _ _ h => h) (Or.inl ⟨by rfl, ?hy1⟩) (by assumption) ?rest1
                    case hy1 => intro W hSW; go_simp; try rfl
                    try simp only [Act.put, List.setIfInBounds_toArray, List.set_cons_zero, List.set_cons_succ]
                    refine wpAnyT_take (i := 2) (oi := ⟨some 83, _, _, _, _, _⟩) (v := ?v2) rfl (by kernel_rfl) (by kernel_rfl) (by kernel_rfl) (by kernel_rfl) (fun _ _ _ h => h) (Or.inl ⟨by rfl, ?hy2⟩) (by assumption) ?rest2
                    case hy2 => intro W hSW; go_simp; try rfl
                    try simp only [Act.put, List.setIfInBounds_toArray, List.set_cons_zero, List.set_cons_succ]
                    refine wpAnyT_take (i := 3) (oi := ⟨some 84, _, _, _, _, _⟩) (v := ?v3) rfl (by kernel_rfl) (by kernel_rfl) (by kernel_rfl) (by kernel_rfl) (fun _ _ _ h => h) (Or.inl ⟨by rfl, ?hy3⟩) (by assumption) ?rest3
                    case hy3 => intro W hSW; go_simp; try rfl
                    try simp only [Act.put, List.setIfInBounds_toArray, List.set_cons_zero, List.set_cons_succ]
                    refine wpAnyT_take (i := 4) (oi := ⟨some 85, _, _, _, _, _⟩) (v := ?v4) rfl (by kernel_rfl) (by kernel_rfl) (by kernel_rfl) (by kernel_rfl) (fun _ _ _ h => h) (Or.inl ⟨by rfl, ?hy4⟩) (by assumption) ?rest4
                    case hy4 => intro W hSW; have s1 := hSW.1; have s2 := hSW.2; go_simp; try rfl
                    try simp only [Act.put, List.setIfInBounds_toArray, List.set_cons_zero, List.set_cons_succ]
                    refine wpAnyT_take (i := 5) (oi := ⟨some 86, _, _, _, _, _⟩) (v := ?v5) rfl (by kernel_rfl) (by kernel_rfl) (by kernel_rfl) (by kernel_rfl) (fun _ _ _ h => h) (Or.inl ⟨by rfl, ?hy5⟩) (by assumption) ?rest5
                    case hy5 => intro W hSW; go_simp; try rfl
                    try simp only [Act.put, List.setIfInBounds_toArray, List.set_cons_zero, List.set_cons_succ]
                    refine wpAnyT_take (i := 6) (oi := ⟨some 87, _, _, _, _, _⟩) (v := ?v6) rfl (by kernel_rfl) (by kernel_rfl) (by kernel_rfl) (by kernel_rfl) (fun _ _ _ h => h) (Or.inl ⟨by rfl, ?hy6⟩) (by assumption) ?rest6
                    case hy6 => intro W hSW; go_simp; try rfl
                    try simp only [Act.put, List.setIfInBounds_toArray, List.set_cons_zero, List.set_cons_succ]
                    refine wpAnyT_take (i := 7) (oi := ⟨some 88, _, _, _, _, _⟩) (v := ?v7) rfl (by kernel_rfl) (by kernel_rfl) (by kernel_rfl) (by kernel_rfl) (fun _ _ _ h => h) (Or.inl ⟨by rfl, ?hy7⟩) (by assumption) ?rest7
                    case hy7 => intro W hSW; go_simp; try rfl
                    try simp only [Act.put, List.setIfInBounds_toArray, List.set_cons_zero, List.set_cons_succ]
                    refine wpAnyT_take (i := 8) (oi := ⟨some 89, _, _, _, _, _⟩) (v := ?v8) rfl (by kernel_rfl) (by kernel_rfl) (by kernel_rfl) (by kernel_rfl) (fun _ _ _ h => h) (Or.inl ⟨by rfl, ?hy8⟩) (by assumption) ?rest8
                    case hy8 => intro W hSW; have s1 := hSW.1; have s2 := hSW.2; go_simp; try rfl
                    try simp only [Act.put, List.setIfInBounds_toArray, List.set_cons_zero, List.set_cons_succ]
                    refine wpAnyT_take (i := 9) (oi := ⟨some 90, _, _, _, _, _⟩) (v := ?v9) rfl (by kernel_rfl) (by kernel_rfl) (by kernel_rfl) (by kernel_rfl) (fun _ _ _ h => h) (Or.inl ⟨by rfl, ?hy9⟩) (by assumption) ?rest9
                    case hy9 => intro W hSW; go_simp; try rfl
                    try simp only [Act.put, List.setIfInBounds_toArray, List.set_cons_zero, List.set_cons_succ]
                    refine wpAnyT_take (i := 10) (oi := ⟨some 91, _, _, _, _, _⟩) (v := ?v10) rfl (by kernel_rfl) (by kernel_rfl) (by kernel_rfl) (by kernel_rfl) (fun _ _ _ h => h) (Or.inl ⟨by rfl, ?hy10⟩) (by assumption) ?rest10
                    case hy10 => intro W hSW; go_simp; try rfl
                    try simp only [Act.put, List.setIfInBounds_toArray, List.set_cons_zero, List.set_cons_succ]
                    refine wpAnyT_take (i := 11) (oi := ⟨some 92, _, _, _, _, _⟩) (v := ?v11) rfl (by kernel_rfl) (by kernel_rfl) (by kernel_rfl) (by kernel_rfl) (fun _ _ _ h => h) (Or.inl ⟨by rfl, ?hy11⟩) (by assumption) ?rest11
                    case hy11 => intro W hSW; go_simp; try rfl
                    try simp only [Act.put, List.setIfInBounds_toArray, List.set_cons_zero, List.set_cons_succ]
                    refine wpAnyT_take (i := 12) (oi := ⟨some 93, _, _, _, _, _⟩) (v := ?v12) rfl (by kernel_rfl) (by kernel_rfl) (by kernel_rfl) (by kernel_rfl) (fun _ _ _ h => h) (Or.inl ⟨by rfl, ?hy12⟩) (by assumption) ?rest12
                    case hy12 => intro W hSW; have s1 := hSW.1; have s2 := hSW.2; go_simp; try rfl
                    try simp only [Act.put, List.setIfInBounds_toArray, List.set_cons_zero, List.set_cons_succ]
                    refine wpAnyT_take (i := 13) (oi := ⟨some 94, _, _, _, _, _⟩) (v := ?v13) rfl (by kernel_rfl) (by kernel_rfl) (by kernel_rfl) (by kernel_rfl) (fun _ _ _ h => h) (Or.inl ⟨by rfl, ?hy13⟩) (by assumption) ?rest13
                    case hy13 => intro W hSW; go_simp; try rfl
                    try simp only [Act.put, List.setIfInBounds_toArray, List.set_cons_zero, List.set_cons_succ]
                    refine wpAnyT_take (i := 14) (oi := ⟨some 95, _, _, _, _, _⟩) (v := ?v14) rfl (by kernel_rfl) (by kernel_rfl) (by kernel_rfl) (by kernel_rfl) (fun _ _ _ h => h) (Or.inl ⟨by rfl, ?hy14⟩) (by assumption) ?rest14
                    case hy14 => intro W hSW; go_simp; try rfl
                    try simp only [Act.put, List.setIfInBounds_toArray, List.set_cons_zero, List.set_cons_succ]
                    refine wpAnyT_take (i := 15) (oi := ⟨some 96, _, _, _, _, _⟩) (v := ?v15) rfl (by kernel_rfl) (by kernel_rfl) (by kernel_rfl) (by kernel_rfl) (fun _ _ _ h => h) (Or.inl ⟨by rfl, ?hy15⟩) (by assumption) ?rest15
                    case hy15 => intro W hSW; go_simp; try rfl
                    try simp only [Act.put, List.setIfInBounds_toArray, List.set_cons_zero, List.set_cons_succ]
                    refine wpAnyT_take (i := 16) (oi := ⟨some 97, _, _, _, _, _⟩) (v := ?v16) rfl (by kernel_rfl) (by kernel_rfl) (by kernel_rfl) (by kernel_rfl) (fun _ _ _ h => h) (Or.inl ⟨by rfl, ?hy16⟩) (by assumption) ?rest16
                    case hy16 => intro W hSW; go_simp; try rfl
                    try simp only [Act.put, List.setIfInBounds_toArray, List.set_cons_zero, List.set_cons_succ]
                    refine wpAnyT_take (i := 17) (oi := ⟨some 98, _, _, _, _, _⟩) (v := ?v17) rfl (by kernel_rfl) (by kernel_rfl) (by kernel_rfl) (by kernel_rfl) (fun _ _ _ h => h) (Or.inl ⟨by rfl, ?hy17⟩) (by assumption) ?rest17
                    case hy17 => intro W hSW; have s1 := hSW.1; have s2 := hSW.2; go_simp; try rfl
                    try simp only [Act.put, List.setIfInBounds_toArray, List.set_cons_zero, List.set_cons_succ]
                    refine wpAnyT_run (i := 18) (o := ⟨some 99, _, _, _, _, _⟩) (by kernel_rfl) rfl (fun K hK => ?_)
                    go_simp
                    refine hK.out _ _ ?_ (fun hHeld2 => ?_)
                    · exact HK1.out
                    clear hK K hHeld
                    have hHeld := hHeld2; clear hHeld2
                    try simp only [Act.put, List.setIfInBounds_toArray, List.set_cons_zero, List.set_cons_succ]
                    refine wpAnyT_run (i := 19) (o := ⟨some 100, _, _, _, _, _⟩) (by kernel_rfl) rfl (fun K hK => ?_)
                    refine step_append_keep _ (by rfl) _ _ _ (by rfl) c.B1 5 i0 _ 1 Tryz.underlying23 hi0 hz0 hz1 hz2 rfl r cap O.length (bx O) (by rfl) HA.out.out _ _ 1 1 _ (by rfl) (HSN.out) (by omega) (by simp [Value.oneCell']) (by simp only [maxLen]; omega) (by omega) (HSZ.out) ?_
                    intro v1 wb hown1 hg1 hk1
                    have hWh1 := HA.out.st.grown hg1 (fun e => own_ne_whole HA.out.out HA.out.st (by decide) c.gs e.symm rfl)
                    have d1 : wb.cell? ⟨c.gs, 1, none⟩ = some (.slice (some ⟨r, 0, none⟩) O.length cap) := hWh1.cell 1
                    have z1 := hWh1.frozen 1
                    obtain ⟨r1, cap1, rfl, _, _⟩ := own_pos hown1 (by omega)
                    have HG := Lib.hid hg1; have HOW := Lib.hid hown1; have HKC := Lib.hid hk1; clear hg1 hown1 hk1 hWh1
                    refine hK.out _ _ ?_ (fun hHeld2 => ?_)
                    · exact ⟨d1, HKC.out qi _ HXQ.out⟩
                    clear hK K hHeld
                    have hHeld := hHeld2; clear hHeld2
                    try simp only [Act.put, List.setIfInBounds_toArray, List.set_cons_zero, List.set_cons_succ]
                    refine wpAnyT_done (by kernel_rfl) ?_
                    simp only [List.drop_succ_cons, List.drop_zero]
                    go_wp2_with fail
                    have hP := Lib.hid (HA.out.push hg (v1 := .slice (some ⟨r1, 0, none⟩) (O.length + 1) cap1) (o' := O ++ [x]) HG.out (by simpa using HOW.out) (by simp; omega))
                    go_roundw
                    case rel =>
                      refine ⟨t + 1, by omega, by go_num, ⟨.slice (some ⟨r1, 0, none⟩) (O.length + 1) cap1, ?_⟩, ?_⟩
                      · rw [HCS.out]; exact hP.out.1
                      · exact HF4.out.trans ((Fq.of_below ((Below.refl _ _).alloc (Nat.le_refl _) _).drew _).trans hP.out.2)
                    case measure => simp [intOf]; omega
                  · obtain rfl : t = long := by omega
                    have dt : decide (t < t) = false := decide_eq_false (by omega)
                    have HS4 := Lib.hid hs5
                    have HF4 := Lib.hid hf5
                    clear hs5 hf5
                    go_wp2_with fail
                    go_end0
                    exact ⟨rfl, HF4.out, .inl ⟨a4, copyM k t o, _, HRR.out.symm, HS4.out⟩⟩
          · have hA : addAt (some (d, nd)) c.L a2 = .er 6 := by simp only [addAt, hbits]
            have hRR := HR3.out
            rw [hA] at hRR
            simp only at hRR
            have HRR := Lib.hid hRR
            clear hRR hA hbits HR3
            have hene : 6 ≠ 0 := by omega
            have hzi : ((6 : Int) == 0) = false := by simp
            have c1 := S4.out.c1
            have c2 := S4.out.c2
            by_cases hb1 : o.length < k
            · have db : decide (o.length < k) = true := decide_eq_true hb1
              go_wp2_with fail
              refine (rfail_any hg _ a3 o 6 13 _ S4.out).mono ?_
              rintro r wy ⟨rfl, hsy, hfy⟩
              rw [if_neg hene] at hsy
              have SY := Lib.hid hsy; have FY := Lib.hid (F4.out.trans hfy)
              clear hsy hfy c1 c2
              have c1 := SY.out.c1
              have c2 := SY.out.c2
              go_wp2_with fail
              by_cases hl1 : m < long
              · have dl : decide (m < long) = true := decide_eq_true hl1
                go_still (by kernel_rfl)
                go_wp2_with fail
                refine (rfail_any hg _ a3 o 6 3 _ SY.out.drew).mono ?_
                rintro r wz ⟨rfl, hsz, hfz⟩
                rw [if_neg hene] at hsz
                have SZ := Lib.hid hsz; have FZ := Lib.hid (FY.out.drew.trans hfz)
                clear hsz hfz c1 c2
                go_wp2_with fail
                have c3 := SZ.out.c3
                go_loop [13] (fun i => i = .int .i64 0) (fun _ => 0)
                case atStart => rfl
                case round =>
                  subst hrel
                  go_wp2_with fail
                  all_goals
                    go_end0
                    exact ⟨rfl, FZ.out, .inr ⟨6, a3, o, _, by omega, by omega, HRR.out.symm, SZ.out⟩⟩
              · have dl : decide (m < long) = false := decide_eq_false hl1
                have SZ := Lib.hid SY.out.drew; have FZ := Lib.hid FY.out.drew
                go_still (by kernel_rfl)
                go_wp2_with fail
                have c3 := SZ.out.c3
                go_loop [13] (fun i => i = .int .i64 0) (fun _ => 0)
                case atStart => rfl
                case round =>
                  subst hrel
                  go_wp2_with fail
                  all_goals
                    go_end0
                    exact ⟨rfl, FZ.out, .inr ⟨6, a3, o, _, by omega, by omega, HRR.out.symm, SZ.out⟩⟩
            · have db : decide (o.length < k) = false := decide_eq_false hb1
              go_wp2_with fail
              by_cases hl1 : m < long
              · have dl : decide (m < long) = true := decide_eq_true hl1
                go_still (by kernel_rfl)
                go_wp2_with fail
                refine (rfail_any hg _ a3 o 6 3 _ S4.out.drew).mono ?_
                rintro r wz ⟨rfl, hsz, hfz⟩
                rw [if_neg hene] at hsz
                have SZ := Lib.hid hsz; have FZ := Lib.hid (F4.out.drew.trans hfz)
                clear hsz hfz c1 c2
                go_wp2_with fail
                have c3 := SZ.out.c3
                go_loop [13] (fun i => i = .int .i64 0) (fun _ => 0)
                case atStart => rfl
                case round =>
                  subst hrel
                  go_wp2_with fail
                  all_goals
                    go_end0
                    exact ⟨rfl, FZ.out, .inr ⟨6, a3, o, _, by omega, by omega, HRR.out.symm, SZ.out⟩⟩
              · have dl : decide (m < long) = false := decide_eq_false hl1
                have SZ := Lib.hid S4.out.drew; have FZ := Lib.hid F4.out.drew
                go_still (by kernel_rfl)
                go_wp2_with fail
                have c3 := SZ.out.c3
                go_loop [13] (fun i => i = .int .i64 0) (fun _ => 0)
                case atStart => rfl
                case round =>
                  subst hrel
                  go_wp2_with fail
                  all_goals
                    go_end0
                    exact ⟨rfl, FZ.out, .inr ⟨6, a3, o, _, by omega, by omega, HRR.out.symm, SZ.out⟩⟩
      · have hRR := HR1.out
        rw [hsig] at hRR
        simp only at hRR
        have HRR := Lib.hid hRR
        clear hRR hsig HR1
        have CD0 := Lib.hid (fun W => rdst_zero W)
        have z2 : ((er : Int) == 0) = false := by simp; omega
        have z3 : ¬ (er : Int) = 0 := by omega
        have z4 : (er == 0) = false := by simp; omega
        go_wp2_with fail
        refine (CD0.out _).mono ?_; rintro r w4 ⟨rfl, rfl⟩
        go_wp2_with fail
        refine (rget_no0 _ a2 o er (by omega) _ S3.out).mono ?_; rintro r w4 ⟨rfl, rfl⟩
        have hene : er ≠ 0 := by omega
        have hzi : ((er : Int) == 0) = false := by simp; omega
        have c1 := S3.out.c1
        have c2 := S3.out.c2
        by_cases hb1 : o.length < 1
        · have db : decide (o.length < 1) = true := decide_eq_true hb1
          go_wp2_with fail
          refine (rfail_any hg _ a2 o er 13 _ S3.out).mono ?_
          rintro r wy ⟨rfl, hsy, hfy⟩
          rw [if_neg hene] at hsy
          have SY := Lib.hid hsy; have FY := Lib.hid (F3.out.trans hfy)
          clear hsy hfy c1 c2
          have c1 := SY.out.c1
          have c2 := SY.out.c2
          go_wp2_with fail
          by_cases hl1 : m < long
          · have dl : decide (m < long) = true := decide_eq_true hl1
            go_still (by kernel_rfl)
            go_wp2_with fail
            refine (rfail_any hg _ a2 o er 3 _ SY.out.drew).mono ?_
            rintro r wz ⟨rfl, hsz, hfz⟩
            rw [if_neg hene] at hsz
            have SZ := Lib.hid hsz; have FZ := Lib.hid (FY.out.drew.trans hfz)
            clear hsz hfz c1 c2
            go_wp2_with fail
            have c3 := SZ.out.c3
            go_loop [13] (fun i => i = .int .i64 0) (fun _ => 0)
            case atStart => rfl
            case round =>
              subst hrel
              go_wp2_with fail
              all_goals
                go_end0
                exact ⟨rfl, FZ.out, .inr ⟨er, a2, o, _, he0, he1, HRR.out.symm, SZ.out⟩⟩
          · have dl : decide (m < long) = false := decide_eq_false hl1
            have SZ := Lib.hid SY.out.drew; have FZ := Lib.hid FY.out.drew
            go_still (by kernel_rfl)
            go_wp2_with fail
            have c3 := SZ.out.c3
            go_loop [13] (fun i => i = .int .i64 0) (fun _ => 0)
            case atStart => rfl
            case round =>
              subst hrel
              go_wp2_with fail
              all_goals
                go_end0
                exact ⟨rfl, FZ.out, .inr ⟨er, a2, o, _, he0, he1, HRR.out.symm, SZ.out⟩⟩
        · have db : decide (o.length < 1) = false := decide_eq_false hb1
          go_wp2_with fail
          by_cases hl1 : m < long
          · have dl : decide (m < long) = true := decide_eq_true hl1
            go_still (by kernel_rfl)
            go_wp2_with fail
            refine (rfail_any hg _ a2 o er 3 _ S3.out.drew).mono ?_
            rintro r wz ⟨rfl, hsz, hfz⟩
            rw [if_neg hene] at hsz
            have SZ := Lib.hid hsz; have FZ := Lib.hid (F3.out.drew.trans hfz)
            clear hsz hfz c1 c2
            go_wp2_with fail
            have c3 := SZ.out.c3
            go_loop [13] (fun i => i = .int .i64 0) (fun _ => 0)
            case atStart => rfl
            case round =>
              subst hrel
              go_wp2_with fail
              all_goals
                go_end0
                exact ⟨rfl, FZ.out, .inr ⟨er, a2, o, _, he0, he1, HRR.out.symm, SZ.out⟩⟩
          · have dl : decide (m < long) = false := decide_eq_false hl1
            have SZ := Lib.hid S3.out.drew; have FZ := Lib.hid F3.out.drew
            go_still (by kernel_rfl)
            go_wp2_with fail
            have c3 := SZ.out.c3
            go_loop [13] (fun i => i = .int .i64 0) (fun _ => 0)
            case atStart => rfl
            case round =>
              subst hrel
              go_wp2_with fail
              all_goals
                go_end0
                exact ⟨rfl, FZ.out, .inr ⟨er, a2, o, _, he0, he1, HRR.out.symm, SZ.out⟩⟩
    · have hA : addAt (some (b, nb)) c.L a = .er 6 := by simp only [addAt, hbits]
      have hRR := HR0.out
      rw [hA] at hRR
      simp only at hRR
      have HRR := Lib.hid hRR
      clear hRR hA hbits HR0
      have CD0 := Lib.hid (fun W => rdst_zero W)
      go_wp2_with fail
      refine (rsign_no0 _ a1 o 6 (by omega) _ _ S2.out).mono ?_; rintro r w3 ⟨rfl, rfl⟩
      go_wp2_with fail
      refine (CD0.out _).mono ?_; rintro r w4 ⟨rfl, rfl⟩
      go_wp2_with fail
      refine (rget_no0 _ a1 o 6 (by omega) _ S2.out).mono ?_; rintro r w4 ⟨rfl, rfl⟩
      have hene : 6 ≠ 0 := by omega
      have hzi : ((6 : Int) == 0) = false := by simp
      have c1 := S2.out.c1
      have c2 := S2.out.c2
      by_cases hb1 : o.length < 1
      · have db : decide (o.length < 1) = true := decide_eq_true hb1
        go_wp2_with fail
        refine (rfail_any hg _ a1 o 6 13 _ S2.out).mono ?_
        rintro r wy ⟨rfl, hsy, hfy⟩
        rw [if_neg hene] at hsy
        have SY := Lib.hid hsy; have FY := Lib.hid (F2.out.trans hfy)
        clear hsy hfy c1 c2
        have c1 := SY.out.c1
        have c2 := SY.out.c2
        go_wp2_with fail
        by_cases hl1 : m < long
        · have dl : decide (m < long) = true := decide_eq_true hl1
          go_still (by kernel_rfl)
          go_wp2_with fail
          refine (rfail_any hg _ a1 o 6 3 _ SY.out.drew).mono ?_
          rintro r wz ⟨rfl, hsz, hfz⟩
          rw [if_neg hene] at hsz
          have SZ := Lib.hid hsz; have FZ := Lib.hid (FY.out.drew.trans hfz)
          clear hsz hfz c1 c2
          go_wp2_with fail
          have c3 := SZ.out.c3
          go_loop [13] (fun i => i = .int .i64 0) (fun _ => 0)
          case atStart => rfl
          case round =>
            subst hrel
            go_wp2_with fail
            all_goals
              go_end0
              exact ⟨rfl, FZ.out, .inr ⟨6, a1, o, _, by omega, by omega, HRR.out.symm, SZ.out⟩⟩
        · have dl : decide (m < long) = false := decide_eq_false hl1
          have SZ := Lib.hid SY.out.drew; have FZ := Lib.hid FY.out.drew
          go_still (by kernel_rfl)
          go_wp2_with fail
          have c3 := SZ.out.c3
          go_loop [13] (fun i => i = .int .i64 0) (fun _ => 0)
          case atStart => rfl
          case round =>
            subst hrel
            go_wp2_with fail
            all_goals
              go_end0
              exact ⟨rfl, FZ.out, .inr ⟨6, a1, o, _, by omega, by omega, HRR.out.symm, SZ.out⟩⟩
      · have db : decide (o.length < 1) = false := decide_eq_false hb1
        go_wp2_with fail
        by_cases hl1 : m < long
        · have dl : decide (m < long) = true := decide_eq_true hl1
          go_still (by kernel_rfl)
          go_wp2_with fail
          refine (rfail_any hg _ a1 o 6 3 _ S2.out.drew).mono ?_
          rintro r wz ⟨rfl, hsz, hfz⟩
          rw [if_neg hene] at hsz
          have SZ := Lib.hid hsz; have FZ := Lib.hid (F2.out.drew.trans hfz)
          clear hsz hfz c1 c2
          go_wp2_with fail
          have c3 := SZ.out.c3
          go_loop [13] (fun i => i = .int .i64 0) (fun _ => 0)
          case atStart => rfl
          case round =>
            subst hrel
            go_wp2_with fail
            all_goals
              go_end0
              exact ⟨rfl, FZ.out, .inr ⟨6, a1, o, _, by omega, by omega, HRR.out.symm, SZ.out⟩⟩
        · have dl : decide (m < long) = false := decide_eq_false hl1
          have SZ := Lib.hid S2.out.drew; have FZ := Lib.hid F2.out.drew
          go_still (by kernel_rfl)
          go_wp2_with fail
          have c3 := SZ.out.c3
          go_loop [13] (fun i => i = .int .i64 0) (fun _ => 0)
          case atStart => rfl
          case round =>
            subst hrel
            go_wp2_with fail
            all_goals
              go_end0
              exact ⟨rfl, FZ.out, .inr ⟨6, a1, o, _, by omega, by omega, HRR.out.symm, SZ.out⟩⟩
end Go.Proofs.YtkjhefjjacokjaaGreat
