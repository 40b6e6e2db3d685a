/-
  The contract of copied: what stands behind a copy's sign is read, and copied. Conditions: the state stands as told (StAt), its things are where they should be (Cx.Good), the code of distances is right.
-/
import Derived.Test.YtobchlakjgeadaaT2
import Derived.Test.YtobchlakjgeadaaV
namespace Go.Proofs.Ytobchlakjgeadaa
open Go.RowKit
set_option maxRecDepth 100000

def Copied (c : Cx) (y : List Int) (s a : Nat) (o : List Nat) (p q : Value) (w : World) (e : Ending) (w' : World) : Prop :=
  (∃ a' o', copyAt y c.L c.most s a o = .ok (a', o') ∧ a ≤ a' ∧ e = .returned (.int .i64 0) ∧ (∃ ov', StAt c w' ov' p q a' o') ∧ Fr c.B0 w w') ∨
  (∃ er : Nat, 0 < er ∧ er < 100 ∧ copyAt y c.L c.most s a o = .er er ∧ e = .returned (.int .i64 er) ∧ Fr c.B0 w w')

theorem len_call (s : Nat) (w : World) : Calls Try.prog 12 #[.int .i64 s] w fun e w' => e = .returned (optV (lenOf s)) ∧ w = w' := by
  have := length_any s w
  rwa [if_neg (by omega)] at this
theorem dst_call (s : Nat) (w : World) : Calls Try.prog 14 #[.int .i64 s] w fun e w' => e = .returned (optV (dstOf s)) ∧ w = w' := by
  have := distance_any s w
  rwa [if_neg (by omega)] at this

set_option maxHeartbeats 2000000 in
theorem copied_any {c : Cx} (hg : c.Good) (ov p q : Value) (a : Nat) (o : List Nat) (lo g : Nat) (y : List Int) (n : Nat) (hn : y.length = n) (hl : n ≤ 1000) (hr : kindOf y ≠ 0) (s : Nat) (w : World) (hc : CodeOwn w lo g y n) (h : StAt c w ov p q a o) :
    Calls Try.prog 63 #[.pointer (some ⟨c.gs, 0, none⟩), .int .i64 s, .pointer (some ⟨g, 0, none⟩)] w (Copied c y s a o p q w) := by
  have H := Lib.hid h; clear h
  have HC := Lib.hid hc; clear hc
  have HN := Lib.hid hn; clear hn
  have HR := Lib.hid hr; clear hr
  have CL := Lib.hid (fun W => len_call s W)
  obtain ⟨R, hR⟩ : ∃ R, copyAt y c.L c.most s a o = R := ⟨_, rfl⟩
  have ER := Lib.hid hR
  unfold copyAt at hR
  unfold Copied
  cases hL : lenOf s with
  | none =>
    rw [hL] at hR CL
    simp only [addAt] at hR
    simp only [optV] at CL
    have HRR := Lib.hid hR; clear hR hL
    go_enter Try.func63, Try.ntmps63
    go_wp2_with fail
    refine (CL.out _).mono ?_; rintro e w1 ⟨rfl, rfl⟩
    go_wp2_with fail
    refine (added_none (c := c) _ 0 0).mono ?_; rintro e w2 ⟨rfl, rfl⟩
    go_wp2_with fail
    go_ret
    exact .inr ⟨5, by omega, by omega, ER.out.trans HRR.out.symm, rfl, Fr.refl _ _⟩
  | some bn =>
    obtain ⟨b, nb⟩ := bn
    rw [hL] at hR CL
    simp only [optV] at CL
    obtain ⟨hb5, hb258⟩ := lenOf_bits s b nb hL
    have HRR := Lib.hid hR; clear hR hL
    go_enter Try.func63, Try.ntmps63
    go_wp2_with fail
    refine (CL.out _).mono ?_; rintro e w1 ⟨rfl, rfl⟩
    go_wp2_with fail
    refine (added_any hg ov p q a o b nb (by omega) (by omega) _ H.out).mono ?_
    rintro e w1 (⟨v, a1, hv, hv2, ha1, rfl, hs, hf⟩ | ⟨er, er0, er1, hv, ⟨v, rfl⟩, hs, hf⟩)
    · have hRR := HRR.out
      rw [hv] at hRR
      simp only at hRR
      have HRR1 := Lib.hid hRR
      have HS := Lib.hid hs
      have HF := Lib.hid hf
      have c0 := hs.c0
      clear hRR hs hf hv HRR
      go_wp2_with fail
      refine (getSign_any hg ov p q a1 o lo g y n HN.out hl HR.out _ (HF.out.code HC.out) HS.out).mono ?_
      rintro e w2 (⟨j, a2, hj, hj1, ha2, ha3, rfl, hs2, hf2⟩ | ⟨er, er0, er1, hj, rfl, hs2, hf2⟩)
      · have hRR := HRR1.out
        rw [hj] at hRR
        simp only at hRR
        have HRR2 := Lib.hid hRR
        have HS2 := Lib.hid hs2
        have HF2 := Lib.hid (HF.out.trans hf2)
        clear hRR hs2 hf2 hj HRR1 HS HF c0
        have CD := Lib.hid (fun W => dst_call j W)
        cases hD : dstOf j with
        | none =>
          have hRR := HRR2.out
          rw [hD] at hRR CD
          simp only [addAt] at hRR
          simp only [optV] at CD
          have HRR3 := Lib.hid hRR; clear hRR hD HRR2
          go_wp2_with fail
          refine (CD.out _).mono ?_; rintro e w3 ⟨rfl, rfl⟩
          go_wp2_with fail
          refine (added_none (c := c) _ 0 0).mono ?_; rintro e w3 ⟨rfl, rfl⟩
          go_wp2_with fail
          go_ret
          exact .inr ⟨5, by omega, by omega, ER.out.trans HRR3.out.symm, rfl, HF2.out⟩
        | some dn =>
          obtain ⟨d, nd⟩ := dn
          have hRR := HRR2.out
          rw [hD] at hRR CD
          simp only [optV] at CD
          obtain ⟨hd5, hd258, hd1⟩ := dstOf_bits j d nd hD
          have HRR3 := Lib.hid hRR; clear hRR hD HRR2
          go_wp2_with fail
          refine (CD.out _).mono ?_; rintro e w3 ⟨rfl, rfl⟩
          go_wp2_with fail
          refine (added_any hg ov p q a2 o d nd (by omega) (by omega) _ HS2.out).mono ?_
          rintro e w3 (⟨k, a4, hk, hk2, ha4, rfl, hs3, hf3⟩ | ⟨er, er0, er1, hk, ⟨k, rfl⟩, hs3, hf3⟩)
          · have hRR := HRR3.out
            rw [hk] at hRR
            simp only at hRR
            have HRR4 := Lib.hid hRR
            have HS3 := Lib.hid hs3
            have HF3 := Lib.hid (HF2.out.trans hf3)
            have c1 := hs3.c1
            have hrm := hs3.room
            clear hRR hs3 hf3 hk HRR3 HS2 HF2
            obtain ⟨Ao, co, rfl, _⟩ := own_form HS3.out.out
            have hm := hg.most
            by_cases hback : o.length < k
            · have hRR := HRR4.out
              rw [if_pos hback] at hRR
              have HRR5 := Lib.hid hRR; clear hRR HRR4
              have d1 : decide (o.length < k) = true := decide_eq_true (by omega)
              go_wp2_with fail
              go_ret
              exact .inr ⟨13, by omega, by omega, ER.out.trans HRR5.out.symm, rfl, HF3.out⟩
            · have hRR := HRR4.out
              rw [if_neg hback] at hRR
              have d1 : decide (o.length < k) = false := decide_eq_false (by omega)
              obtain ⟨m, hmo⟩ : ∃ m, c.most - o.length = m := ⟨_, rfl⟩
              have CR := Lib.hid (fun W h => room_any hg (.slice Ao o.length co) p q a4 o W h)
              rw [hmo] at CR
              by_cases hlong : c.most < o.length + v
              · rw [if_pos hlong] at hRR
                have HRR5 := Lib.hid hRR; clear hRR HRR4
                have d2 : decide (m < v) = true := decide_eq_true (by omega)
                go_wp2_with fail
                refine (CR.out _ HS3.out).mono ?_; rintro e w4 ⟨rfl, rfl⟩
                go_wp2_with fail
                go_ret
                exact .inr ⟨3, by omega, by omega, ER.out.trans HRR5.out.symm, rfl, HF3.out.drew⟩
              · rw [if_neg hlong] at hRR
                have HRR5 := Lib.hid hRR; clear hRR HRR4
                have d2 : decide (m < v) = false := decide_eq_false (by omega)
                have H0 : Hid (∃ ov', StAt c w3.drew ov' p q a4 (copyN k 0 o)) := Lib.hid ⟨_, HS3.out.drew⟩
                have F0 := Lib.hid HF3.out.drew
                go_wp2_with fail
                refine (CR.out _ HS3.out).mono ?_; rintro e w4 ⟨rfl, rfl⟩
                go_wp2_with fail
                clear c1
                go_loopw [60] (fun i wr => ∃ t : Nat, t ≤ v ∧ i = .int .i64 t ∧ (∃ ov', StAt c wr ov' p q a4 (copyN k t o)) ∧ Fr c.B0 w wr) (fun i _ => v - (intOf i).toNat)
                case atStart => exact ⟨0, by omega, rfl, H0.out, F0.out⟩
                case round =>
                  obtain ⟨t, ht, rfl, ⟨ov', hs4⟩, hf4⟩ := hrel
                  by_cases htv : t < v
                  · have hcl := copyN_length k t o
                    have HCS := Lib.hid (copyN_succ k t o)
                    obtain ⟨O, hO⟩ : ∃ O, copyN k t o = O := ⟨_, rfl⟩
                    rw [hO] at hs4 hcl HCS
                    obtain ⟨x, hx⟩ : ∃ x, O.getD (O.length - k) 0 = x := ⟨_, rfl⟩
                    rw [hx] at HCS
                    obtain ⟨r, cap, rfl, hcap, hcapm⟩ := own_pos hs4.out (by omega)
                    obtain ⟨qi, hqi⟩ : ∃ qi, O.length - k = qi := ⟨_, rfl⟩
                    have hXQ : (bx O)[qi]? = some (.int .u8 (x : Nat)) := by
                      rw [hqi] at hx
                      have : qi < O.length := by omega
                      simp [List.getD, this] at hx
                      simp [this, hx]
                    have cq : wr.cell? ⟨r, qi, none⟩ = some (.int .u8 (x : Nat)) := (own_cell hs4.out hXQ).1
                    have c1 := hs4.c1
                    have HS4 := Lib.hid hs4
                    have HF4 := Lib.hid hf4
                    have HO := Lib.hid hO
                    have wq : (O.length : Int) - k = qi := by omega
                    have wq2 : IntKind.i64.wrap (qi : Int) = qi := IntWalk.i64_in _ (by omega)
                    have q0 : (0 : Int) ≤ qi := by omega
                    have q1 : (qi : Int) < O.length := by omega
                    obtain ⟨i0, hi0, hz0, hz1, hz2⟩ := info_parts byte_info
                    have HXQ : Hid ((bx O)[qi]? = some (.int .u8 (x : Nat))) := Lib.hid hXQ
                    have HA : Hid (StAt c ((wr.alloc (.cells #[.int .u8 (x : Int)] 5)).drew) (.slice (some ⟨r, 0, none⟩) O.length cap) p q a4 O) := Lib.hid ((HS4.out.below ((Below.refl _ _).alloc (Nat.le_refl _) _)).drew)
                    have HSN := Lib.hid (seen_one wr 5 (.int .u8 (x : Int)))
                    have HSZ : Hid (c.B1 ≤ (wr.alloc (.cells #[.int .u8 (x : Int)] 5)).drew.heap.size) := Lib.hid HA.out.size
                    have HK1 : Hid ((wr.alloc (.cells #[.int .u8 (x : Int)] 5)).drew.cell? ⟨c.gs, 1, none⟩ = some (.slice (some ⟨r, 0, none⟩) O.length cap) ∧ (wr.alloc (.cells #[.int .u8 (x : Int)] 5)).drew.cell? ⟨r, qi, none⟩ = some (.int .u8 (x : Nat))) := Lib.hid ⟨HA.out.c1, own_cell HA.out.out HXQ.out |>.1⟩
                    have hOL : O.length + 1 ≤ c.most := by omega
                    have hO1 : 0 < O.length := by omega
                    have HCL := Lib.hid hcl
                    clear hs4 hf4 hO hx hqi hXQ hcl
                    go_wp2_with fail
                    refine wp_region_heldTail (S := (fun W => W.cell? ⟨c.gs, 1, none⟩ = some (.slice (some ⟨r, 0, none⟩) O.length cap) ∧ W.cell? ⟨r, qi, none⟩ = some (.int .u8 (x : Nat)))) 20 3 (by kernel_rfl) (by rfl) ⟨c1, cq⟩ (fun hHeld => ?_)
                    refine wpAnyT_take (i := 0) (oi := ⟨some 62, _, _, _, _, _⟩) (v := ?v0) rfl (by kernel_rfl) (by kernel_rfl) (by kernel_rfl) (by kernel_rfl) (fun _ _ _ h => h) (Or.inl ⟨by rfl, ?hy0⟩) (by assumption) ?rest0
                    case hy0 => intro W hSW; go_simp; try rfl
                    try simp only [Act.put, List.setIfInBounds_toArray, List.set_cons_zero, List.set_cons_succ]
                    refine wpAnyT_take (i := 1) (oi := ⟨some 63, _, _, _, _, _⟩) (v := ?v1) rfl (by kernel_rfl) (by kernel_rfl) (by kernel_rfl) (by kernel_rfl) (fun _ _ _ h => h) (Or.inl ⟨by rfl, ?hy1⟩) (by assumption) ?rest1
                    case hy1 => intro W hSW; go_simp; try rfl
                    try simp only [Act.put, List.setIfInBounds_toArray, List.set_cons_zero, List.set_cons_succ]
                    refine wpAnyT_take (i := 2) (oi := ⟨some 64, _, _, _, _, _⟩) (v := ?v2) rfl (by kernel_rfl) (by kernel_rfl) (by kernel_rfl) (by kernel_rfl) (fun _ _ _ h => h) (Or.inl ⟨by rfl, ?hy2⟩) (by assumption) ?rest2
                    case hy2 => intro W hSW; go_simp; try rfl
                    try simp only [Act.put, List.setIfInBounds_toArray, List.set_cons_zero, List.set_cons_succ]
                    refine wpAnyT_take (i := 3) (oi := ⟨some 65, _, _, _, _, _⟩) (v := ?v3) rfl (by kernel_rfl) (by kernel_rfl) (by kernel_rfl) (by kernel_rfl) (fun _ _ _ h => h) (Or.inl ⟨by rfl, ?hy3⟩) (by assumption) ?rest3
                    case hy3 => intro W hSW; go_simp; try rfl
                    try simp only [Act.put, List.setIfInBounds_toArray, List.set_cons_zero, List.set_cons_succ]
                    refine wpAnyT_take (i := 4) (oi := ⟨some 66, _, _, _, _, _⟩) (v := ?v4) rfl (by kernel_rfl) (by kernel_rfl) (by kernel_rfl) (by kernel_rfl) (fun _ _ _ h => h) (Or.inl ⟨by rfl, ?hy4⟩) (by assumption) ?rest4
                    case hy4 => intro W hSW; have s1 := hSW.1; have s2 := hSW.2; go_simp; try rfl
                    try simp only [Act.put, List.setIfInBounds_toArray, List.set_cons_zero, List.set_cons_succ]
                    refine wpAnyT_take (i := 5) (oi := ⟨some 67, _, _, _, _, _⟩) (v := ?v5) rfl (by kernel_rfl) (by kernel_rfl) (by kernel_rfl) (by kernel_rfl) (fun _ _ _ h => h) (Or.inl ⟨by rfl, ?hy5⟩) (by assumption) ?rest5
                    case hy5 => intro W hSW; go_simp; try rfl
                    try simp only [Act.put, List.setIfInBounds_toArray, List.set_cons_zero, List.set_cons_succ]
                    refine wpAnyT_take (i := 6) (oi := ⟨some 68, _, _, _, _, _⟩) (v := ?v6) rfl (by kernel_rfl) (by kernel_rfl) (by kernel_rfl) (by kernel_rfl) (fun _ _ _ h => h) (Or.inl ⟨by rfl, ?hy6⟩) (by assumption) ?rest6
                    case hy6 => intro W hSW; go_simp; try rfl
                    try simp only [Act.put, List.setIfInBounds_toArray, List.set_cons_zero, List.set_cons_succ]
                    refine wpAnyT_take (i := 7) (oi := ⟨some 69, _, _, _, _, _⟩) (v := ?v7) rfl (by kernel_rfl) (by kernel_rfl) (by kernel_rfl) (by kernel_rfl) (fun _ _ _ h => h) (Or.inl ⟨by rfl, ?hy7⟩) (by assumption) ?rest7
                    case hy7 => intro W hSW; go_simp; try rfl
                    try simp only [Act.put, List.setIfInBounds_toArray, List.set_cons_zero, List.set_cons_succ]
                    refine wpAnyT_take (i := 8) (oi := ⟨some 70, _, _, _, _, _⟩) (v := ?v8) rfl (by kernel_rfl) (by kernel_rfl) (by kernel_rfl) (by kernel_rfl) (fun _ _ _ h => h) (Or.inl ⟨by rfl, ?hy8⟩) (by assumption) ?rest8
                    case hy8 => intro W hSW; have s1 := hSW.1; have s2 := hSW.2; go_simp; try rfl
                    try simp only [Act.put, List.setIfInBounds_toArray, List.set_cons_zero, List.set_cons_succ]
                    refine wpAnyT_take (i := 9) (oi := ⟨some 71, _, _, _, _, _⟩) (v := ?v9) rfl (by kernel_rfl) (by kernel_rfl) (by kernel_rfl) (by kernel_rfl) (fun _ _ _ h => h) (Or.inl ⟨by rfl, ?hy9⟩) (by assumption) ?rest9
                    case hy9 => intro W hSW; go_simp; try rfl
                    try simp only [Act.put, List.setIfInBounds_toArray, List.set_cons_zero, List.set_cons_succ]
                    refine wpAnyT_take (i := 10) (oi := ⟨some 72, _, _, _, _, _⟩) (v := ?v10) rfl (by kernel_rfl) (by kernel_rfl) (by kernel_rfl) (by kernel_rfl) (fun _ _ _ h => h) (Or.inl ⟨by rfl, ?hy10⟩) (by assumption) ?rest10
                    case hy10 => intro W hSW; go_simp; try rfl
                    try simp only [Act.put, List.setIfInBounds_toArray, List.set_cons_zero, List.set_cons_succ]
                    refine wpAnyT_take (i := 11) (oi := ⟨some 73, _, _, _, _, _⟩) (v := ?v11) rfl (by kernel_rfl) (by kernel_rfl) (by kernel_rfl) (by kernel_rfl) (fun _ _ _ h => h) (Or.inl ⟨by rfl, ?hy11⟩) (by assumption) ?rest11
                    case hy11 => intro W hSW; go_simp; try rfl
                    try simp only [Act.put, List.setIfInBounds_toArray, List.set_cons_zero, List.set_cons_succ]
                    refine wpAnyT_take (i := 12) (oi := ⟨some 74, _, _, _, _, _⟩) (v := ?v12) rfl (by kernel_rfl) (by kernel_rfl) (by kernel_rfl) (by kernel_rfl) (fun _ _ _ h => h) (Or.inl ⟨by rfl, ?hy12⟩) (by assumption) ?rest12
                    case hy12 => intro W hSW; have s1 := hSW.1; have s2 := hSW.2; go_simp; try rfl
                    try simp only [Act.put, List.setIfInBounds_toArray, List.set_cons_zero, List.set_cons_succ]
                    refine wpAnyT_take (i := 13) (oi := ⟨some 75, _, _, _, _, _⟩) (v := ?v13) rfl (by kernel_rfl) (by kernel_rfl) (by kernel_rfl) (by kernel_rfl) (fun _ _ _ h => h) (Or.inl ⟨by rfl, ?hy13⟩) (by assumption) ?rest13
                    case hy13 => intro W hSW; go_simp; try rfl
                    try simp only [Act.put, List.setIfInBounds_toArray, List.set_cons_zero, List.set_cons_succ]
                    refine wpAnyT_take (i := 14) (oi := ⟨some 76, _, _, _, _, _⟩) (v := ?v14) rfl (by kernel_rfl) (by kernel_rfl) (by kernel_rfl) (by kernel_rfl) (fun _ _ _ h => h) (Or.inl ⟨by rfl, ?hy14⟩) (by assumption) ?rest14
                    case hy14 => intro W hSW; go_simp; try rfl
                    try simp only [Act.put, List.setIfInBounds_toArray, List.set_cons_zero, List.set_cons_succ]
                    refine wpAnyT_take (i := 15) (oi := ⟨some 77, _, _, _, _, _⟩) (v := ?v15) rfl (by kernel_rfl) (by kernel_rfl) (by kernel_rfl) (by kernel_rfl) (fun _ _ _ h => h) (Or.inl ⟨by rfl, ?hy15⟩) (by assumption) ?rest15
                    case hy15 => intro W hSW; go_simp; try rfl
                    try simp only [Act.put, List.setIfInBounds_toArray, List.set_cons_zero, List.set_cons_succ]
                    refine wpAnyT_take (i := 16) (oi := ⟨some 78, _, _, _, _, _⟩) (v := ?v16) rfl (by kernel_rfl) (by kernel_rfl) (by kernel_rfl) (by kernel_rfl) (fun _ _ _ h => h) (Or.inl ⟨by rfl, ?hy16⟩) (by assumption) ?rest16
                    case hy16 => intro W hSW; go_simp; try rfl
                    try simp only [Act.put, List.setIfInBounds_toArray, List.set_cons_zero, List.set_cons_succ]
                    refine wpAnyT_take (i := 17) (oi := ⟨some 79, _, _, _, _, _⟩) (v := ?v17) rfl (by kernel_rfl) (by kernel_rfl) (by kernel_rfl) (by kernel_rfl) (fun _ _ _ h => h) (Or.inl ⟨by rfl, ?hy17⟩) (by assumption) ?rest17
                    case hy17 => intro W hSW; have s1 := hSW.1; have s2 := hSW.2; go_simp; try rfl
                    try simp only [Act.put, List.setIfInBounds_toArray, List.set_cons_zero, List.set_cons_succ]
                    refine wpAnyT_run (i := 18) (o := ⟨some 80, _, _, _, _, _⟩) (by kernel_rfl) rfl (fun K hK => ?_)
                    go_simp
                    refine hK.out _ _ ?_ (fun hHeld2 => ?_)
                    · exact HK1.out
                    clear hK K hHeld
                    have hHeld := hHeld2; clear hHeld2
                    try simp only [Act.put, List.setIfInBounds_toArray, List.set_cons_zero, List.set_cons_succ]
                    refine wpAnyT_run (i := 19) (o := ⟨some 81, _, _, _, _, _⟩) (by kernel_rfl) rfl (fun K hK => ?_)
                    refine step_append_keep _ (by rfl) _ _ _ (by rfl) c.B1 5 i0 _ 1 Try.underlying22 hi0 hz0 hz1 hz2 rfl r cap O.length (bx O) (by rfl) HA.out.out _ _ 1 1 _ (by rfl) (HSN.out) (by omega) (by simp [Value.oneCell']) (by simp only [maxLen]; omega) (by omega) (HSZ.out) ?_
                    intro v1 w1 hown1 hg1 hk1
                    have hWh1 := HA.out.st.grown hg1 (fun e => own_ne_whole HA.out.out HA.out.st (by decide) c.gs e.symm rfl)
                    have d1 : w1.cell? ⟨c.gs, 1, none⟩ = some (.slice (some ⟨r, 0, none⟩) O.length cap) := hWh1.cell 1
                    have z1 := hWh1.frozen 1
                    obtain ⟨r1, cap1, rfl, _, _⟩ := own_pos hown1 (by omega)
                    have HG := Lib.hid hg1; have HOW := Lib.hid hown1; have HKC := Lib.hid hk1; clear hg1 hown1 hk1 hWh1
                    refine hK.out _ _ ?_ (fun hHeld2 => ?_)
                    · exact ⟨d1, HKC.out qi _ HXQ.out⟩
                    clear hK K hHeld
                    have hHeld := hHeld2; clear hHeld2
                    try simp only [Act.put, List.setIfInBounds_toArray, List.set_cons_zero, List.set_cons_succ]
                    refine wpAnyT_done (by kernel_rfl) ?_
                    simp only [List.drop_succ_cons, List.drop_zero]
                    go_wp2_with fail
                    have hP := Lib.hid (HA.out.push hg (v1 := .slice (some ⟨r1, 0, none⟩) (O.length + 1) cap1) (o' := O ++ [x]) HG.out (by simpa using HOW.out) (by simp; omega))
                    go_roundw
                    case rel =>
                      refine ⟨t + 1, by omega, by go_num, ⟨.slice (some ⟨r1, 0, none⟩) (O.length + 1) cap1, ?_⟩, ?_⟩
                      · rw [HCS.out]; exact hP.out.1
                      · exact HF4.out.trans ((Fr.of_below ((Below.refl _ _).alloc (Nat.le_refl _) _).drew _).trans hP.out.2)
                    case measure => simp [intOf]; omega
                  · obtain rfl : t = v := by omega
                    have HS4 := Lib.hid hs4
                    have HF4 := Lib.hid hf4
                    clear hs4 hf4
                    go_wp2_with fail
                    go_ret
                    exact .inl ⟨a4, copyN k t o, ER.out.trans HRR5.out.symm, by omega, rfl, ⟨_, HS4.out⟩, HF4.out⟩
          · have hRR := HRR3.out
            rw [hk] at hRR
            simp only at hRR
            have HRR4 := Lib.hid hRR
            have HF3 := Lib.hid (HF2.out.trans hf3)
            clear hRR hs3 hf3 hk HRR3 HS2 HF2
            have e0 : ¬ (er : Int) = 0 := by omega
            have e1 : ((er : Int) == 0) = false := by simp; omega
            have e2 : (er == 0) = false := by simp; omega
            go_wp2_with fail
            go_ret
            exact .inr ⟨er, er0, er1, ER.out.trans HRR4.out.symm, rfl, HF3.out⟩
      · have hRR := HRR1.out
        rw [hj] at hRR
        simp only at hRR
        have HRR2 := Lib.hid hRR
        have HF2 := Lib.hid (HF.out.trans hf2)
        clear hRR hs2 hf2 hj HRR1 HS HF c0
        have e0 : ¬ (er : Int) = 0 := by omega
        have e1 : ((er : Int) == 0) = false := by simp; omega
        have e2 : (er == 0) = false := by simp; omega
        go_wp2_with fail
        go_ret
        exact .inr ⟨er, er0, er1, ER.out.trans HRR2.out.symm, rfl, HF2.out⟩
    · have hRR := HRR.out
      rw [hv] at hRR
      simp only at hRR
      have HRR1 := Lib.hid hRR
      have HF := Lib.hid hf
      clear hRR hs hf hv HRR
      have e0 : ¬ (er : Int) = 0 := by omega
      have e1 : ((er : Int) == 0) = false := by simp; omega
      have e2 : (er == 0) = false := by simp; omega
      go_wp2_with fail
      go_ret
      exact .inr ⟨er, er0, er1, ER.out.trans HRR1.out.symm, rfl, HF.out⟩
end Go.Proofs.Ytobchlakjgeadaa
