/-
  The document's Same, of two manifests that tell the same. Conditions: not more than half a million sections and headers.
-/
import Derived.Test.YteadhiehhpafjaaDoorQA
namespace Go.Proofs.YteadhiehhpafjaaDoor
open Go Go.RowKit
set_option maxRecDepth 100000

theorem SecsSeen.more2 {w : World} {B B' : Nat} {rows : List Value} {ps : List Sec} (h : SecsSeen w B rows ps) (hB : B ≤ B') : SecsSeen w B' rows ps :=
  ⟨h.1, fun i hi => by obtain ⟨A, c, h1, h2⟩ := h.2 i hi; exact ⟨A, c, h1, h2.more hB⟩⟩
theorem rows_one {w : World} {B : Nat} {rows : List Value} {ps : List Sec} (h : SecsSeen w B rows ps) : ∀ u ∈ rows, u.oneCell' = true := by
  intro u hu
  obtain ⟨i, hi, rfl⟩ := List.mem_iff_getElem.1 hu
  obtain ⟨A, c, e, _⟩ := h.2 i (by have := h.1; omega)
  rw [List.getElem?_eq_getElem hi] at e
  rw [Option.some.inj e]; rfl

theorem secs_cons {w : World} {B c n : Nat} {A : Option Addr} {main : Sec} {rows : List Value} {ps : List Sec} (hn : main.length = n) (h : Seen w B 2 A n c (pvs main)) (hR : SecsSeen w B rows ps) : SecsSeen w B (.slice A n c :: rows) (main :: ps) := by
  subst hn
  refine ⟨by simp [hR.1], fun i hi => ?_⟩
  cases i with
  | zero => exact ⟨A, c, rfl, h⟩
  | succ i => exact hR.2 i (by simpa using hi)
theorem mid_yields {P : Program} (W : World) (b o : Nat) (ty : TypeId) (cs : List Value) (oo : Oper) (a : Act) {x : Operand} (ho : oo.op = .load ty x) (hx : a.eval x = .pointer (some ⟨b, o, none⟩)) (hc : W.rangeAt b o cs) {d : TypeDesc}
    (hu : P.underlying ty = some d) (hd : d.isRow = true) (hi : (P.info? ty).map (·.size) = some cs.length) : (execOp a.eval oo).run P W = .ok (.value (.agg cs.toArray)) W := by
  unfold execOp
  simp only [ho, hx, Instr.loadAt, Instr.sureAddr, Sem.run_bind, Sem.run_pure, Result.andThen_ok, run_loadVar_mid W b o ty cs d hc hu hd hi]
theorem range_two {W : World} {b o : Nat} {x y : Value} (h0 : W.cell? ⟨b, o, none⟩ = some x) (h1 : W.cell? ⟨b, o + 1, none⟩ = some y) : W.rangeAt b o [x, y] := by
  intro j v hj
  match j, hj with
  | 0, hj => rw [Nat.add_zero, h0]; exact hj
  | 1, hj => rw [h1]; exact hj

set_option maxHeartbeats 8000000 in
theorem same_any (B : Nat) (va vb : Value) (main : Sec) (ps : List Sec) (hm : main.length ≤ 500000) (hps : ∀ s ∈ ps, s.length ≤ 500000) (hp2 : ps.length ≤ 500000) (w : World) (hV : ManSeen w B va main ps) (hV2 : ManSeen w B vb main ps) (hB : B ≤ w.heap.size) :
    Calls Tryd.prog 10 #[va, vb] w (Gives w (.bool true)) := by
  obtain ⟨A, c, A2, c2, rows, rfl, hA, hA2, hR⟩ := hV
  obtain ⟨A3, c3, A4, c4, rows2, rfl, hA3, hA4, hR4⟩ := hV2
  obtain ⟨n, hn⟩ : ∃ n, main.length = n := ⟨_, rfl⟩
  obtain ⟨m, hmm⟩ : ∃ m, ps.length = m := ⟨_, rfl⟩
  rw [hn] at hA hA3 hm
  rw [hmm] at hA2 hA4 hp2
  rw [hn, hmm]
  obtain ⟨w2, hw2⟩ : ∃ W, (w.alloc (.cells #[.slice A n c, .slice A2 m c2] 27)).alloc (.cells #[.slice A3 n c3, .slice A4 m c4] 27) = W := ⟨_, rfl⟩
  obtain ⟨g2, hg2⟩ : ∃ g, w.heap.size = g := ⟨_, rfl⟩
  have B2 : Hid (Below w.heap.size w w2) := Lib.hid (hw2 ▸ ((Below.refl w.heap.size w).alloc (Nat.le_refl _) _).alloc (by simp) _)
  have P2 : Hid (Whole w2 g2 27 #[.slice A n c, .slice A2 m c2]) := Lib.hid (hw2 ▸ hg2 ▸ (Whole.new w 27 #[.slice A n c, .slice A2 m c2]).alloc _)
  have P3 : Hid (Whole w2 (g2 + 1) 27 #[.slice A3 n c3, .slice A4 m c4]) := Lib.hid (by rw [← hw2, ← hg2]; have := Whole.new (w.alloc (.cells #[.slice A n c, .slice A2 m c2] 27)) 27 #[.slice A3 n c3, .slice A4 m c4]; rw [World.size_alloc] at this; exact this)
  have hBB := hB
  have b2s := B2.out.size
  have HA := Lib.hid ((hA.below (B2.out.mono hB)).more (Nat.le_trans hB b2s))
  have HA3 := Lib.hid ((hA3.below (B2.out.mono hB)).more (Nat.le_trans hB b2s))
  have SA := Lib.hid ((hA2.below (B2.out.mono hB)).more (Nat.le_trans hB b2s))
  have SB := Lib.hid ((hA4.below (B2.out.mono hB)).more (Nat.le_trans hB b2s))
  have HR := Lib.hid (hR.below (B2.out.mono hB))
  have HR4 := Lib.hid (hR4.below (B2.out.mono hB))
  have o1 := rows_one hR
  have o2 := rows_one hR4
  have TT := Lib.hid True.intro
  have HB2 := Lib.hid (Nat.le_trans hB b2s)
  have HW := Lib.hid hg2
  clear hA hA2 hR hA3 hA4 hR4 b2s hB hBB
  go_enter Tryd.func10, Tryd.ntmps10
  go_upto_region 1 with fail
  (try rw [hw2]); (try rw [hg2])
  clear hw2 hg2
  go_cut [5, 6] (fun s5 s6 wx => ∃ (A5 : Option Addr) (c5 : Nat) (A6 : Option Addr) (c6 : Nat), s5 = .slice A5 (1 + m) c5 ∧ s6 = .slice A6 (1 + m) c6 ∧ Below w2.heap.size w2 wx ∧ Seen wx wx.heap.size 1 A5 (1 + m) c5 ([.slice A n c] ++ rows) ∧ Seen wx wx.heap.size 1 A6 (1 + m) c6 ([.slice A3 n c3] ++ rows2))
  case first =>
    refine wp_region_held_drew (S := (fun W => Below w2.heap.size w2 W)) (by kernel_rfl) (Below.refl _ _).drew (fun hHeld => ?_)
    have hHeld0 := hHeld
    have AB_0 := Lib.hid (ABn.bel TT.out hHeld0)
    generalize hwd : w2.drew = wd at *
    clear hwd hHeld0
    refine wpAnyH_take (i := 0) (oi := ⟨some 9, _, _, _, _, _⟩) (v := ?v0_1) rfl (by kernel_rfl) (by kernel_rfl) (by kernel_rfl) (fun _ _ _ h => h) (Or.inl ⟨by rfl, ?hy0_1⟩) (by assumption) ?rest0_1
    case hy0_1 => intro W hSW; go_simp; try rfl
    try simp only [Act.put, List.setIfInBounds_toArray, List.set_cons_zero, List.set_cons_succ]
    refine wpAnyH_take (i := 1) (oi := ⟨some 10, _, _, _, _, _⟩) (v := ?v1_2) rfl (by kernel_rfl) (by kernel_rfl) (by kernel_rfl) (fun _ _ _ h => h) (Or.inl ⟨by rfl, ?hy1_2⟩) (by assumption) ?rest1_2
    case hy1_2 => intro W hSW; have q0 : W.cell? ⟨g2, 0, none⟩ = some (.slice A n c) := (Whole.bel P2.out hSW).cell 0; go_simp; try rfl
    try simp only [Act.put, List.setIfInBounds_toArray, List.set_cons_zero, List.set_cons_succ]
    refine wpAnyH_take (i := 3) (oi := ⟨some 12, _, _, _, _, _⟩) (v := ?v3_3) rfl (by kernel_rfl) (by kernel_rfl) (by kernel_rfl) (fun _ _ _ h => h) (Or.inl ⟨by rfl, ?hy3_3⟩) (by assumption) ?rest3_3
    case hy3_3 => intro W hSW; go_simp; try rfl
    try simp only [Act.put, List.setIfInBounds_toArray, List.set_cons_zero, List.set_cons_succ]
    refine wpAnyH_take (i := 4) (oi := ⟨some 13, _, _, _, _, _⟩) (v := ?v4_4) rfl (by kernel_rfl) (by kernel_rfl) (by kernel_rfl) (fun _ _ _ h => h) (Or.inl ⟨by rfl, ?hy4_4⟩) (by assumption) ?rest4_4
    case hy4_4 => intro W hSW; have q0 : W.cell? ⟨g2, 1, none⟩ = some (.slice A2 m c2) := (Whole.bel P2.out hSW).cell 1; go_simp; try rfl
    try simp only [Act.put, List.setIfInBounds_toArray, List.set_cons_zero, List.set_cons_succ]
    refine wpAnyH_take (i := 6) (oi := ⟨some 15, _, _, _, _, _⟩) (v := ?v6_5) rfl (by kernel_rfl) (by kernel_rfl) (by kernel_rfl) (fun _ _ _ h => h) (Or.inl ⟨by rfl, ?hy6_5⟩) (by assumption) ?rest6_5
    case hy6_5 => intro W hSW; go_simp; try rfl
    try simp only [Act.put, List.setIfInBounds_toArray, List.set_cons_zero, List.set_cons_succ]
    refine wpAnyH_take (i := 7) (oi := ⟨some 16, _, _, _, _, _⟩) (v := ?v7_6) rfl (by kernel_rfl) (by kernel_rfl) (by kernel_rfl) (fun _ _ _ h => h) (Or.inl ⟨by rfl, ?hy7_6⟩) (by assumption) ?rest7_6
    case hy7_6 => intro W hSW; have q0 : W.cell? ⟨g2 + 1, 0, none⟩ = some (.slice A3 n c3) := (Whole.bel P3.out hSW).cell 0; go_simp; try rfl
    try simp only [Act.put, List.setIfInBounds_toArray, List.set_cons_zero, List.set_cons_succ]
    refine wpAnyH_take (i := 9) (oi := ⟨some 18, _, _, _, _, _⟩) (v := ?v9_7) rfl (by kernel_rfl) (by kernel_rfl) (by kernel_rfl) (fun _ _ _ h => h) (Or.inl ⟨by rfl, ?hy9_7⟩) (by assumption) ?rest9_7
    case hy9_7 => intro W hSW; go_simp; try rfl
    try simp only [Act.put, List.setIfInBounds_toArray, List.set_cons_zero, List.set_cons_succ]
    refine wpAnyH_take (i := 10) (oi := ⟨some 19, _, _, _, _, _⟩) (v := ?v10_8) rfl (by kernel_rfl) (by kernel_rfl) (by kernel_rfl) (fun _ _ _ h => h) (Or.inl ⟨by rfl, ?hy10_8⟩) (by assumption) ?rest10_8
    case hy10_8 => intro W hSW; have q0 : W.cell? ⟨g2 + 1, 1, none⟩ = some (.slice A4 m c4) := (Whole.bel P3.out hSW).cell 1; go_simp; try rfl
    try simp only [Act.put, List.setIfInBounds_toArray, List.set_cons_zero, List.set_cons_succ]
    refine wpAnyH_ready (rs := [2, 8]) (by kernel_rfl) (by simp) ?_
    refine (AllReadyH.cons (o := ⟨some 11, _, _, _, _, _⟩) rfl (fun K hK => ?_) (AllReadyH.cons (o := ⟨some 17, _, _, _, _, _⟩) rfl (fun K hK => ?_) AllReadyH.nil))
    · go_simp
      have ABx : AB w2 (wd.alloc (.cells #[.slice A n c] 24)) _ _ := AB.build AB_0.out _
      try simp only [World.size_alloc] at ABx
      have AB_9 := Lib.hid ABx
      refine hK.out _ _ ?_ (fun hHeld2 => ?_)
      · exact ABx.1
      clear hK K hHeld
      have hHeld := hHeld2; clear hHeld2
      try simp only [Act.put, List.setIfInBounds_toArray, List.set_cons_zero, List.set_cons_succ]
      clear ABx
      try clear AB_0
      refine wpAnyH_ready (rs := [5, 8]) (by kernel_rfl) (by simp) ?_
      refine (AllReadyH.cons (o := ⟨some 14, _, _, _, _, _⟩) rfl (fun K hK => ?_) (AllReadyH.cons (o := ⟨some 17, _, _, _, _, _⟩) rfl (fun K hK => ?_) AllReadyH.nil))
      · refine step_app w2 (by rfl) _ _ (by rfl) _ _ _ _ AB_9.out (by rfl) A2 m c2 rows SA.out (by rfl) o1 (by omega) ?_
        intro Aa_10 ca_10 x10 ab10
        have AB_10 := Lib.hid ab10
        refine hK.out _ _ ?_ (fun hHeld2 => ?_)
        · exact ab10.1
        clear hK K hHeld
        have hHeld := hHeld2; clear hHeld2
        try simp only [Act.put, List.setIfInBounds_toArray, List.set_cons_zero, List.set_cons_succ]
        clear ab10
        try clear AB_9
        refine wpAnyH_ready (rs := [8]) (by kernel_rfl) (by simp) ?_
        refine (AllReadyH.cons (o := ⟨some 17, _, _, _, _, _⟩) rfl (fun K hK => ?_) AllReadyH.nil)
        · go_simp
          have ABx : AB w2 (x10.alloc (.cells #[.slice A3 n c3] 24)) _ _ := AB.swap (AB.build (AB.swap AB_10.out) _)
          try simp only [World.size_alloc] at ABx
          have AB_11 := Lib.hid ABx
          refine hK.out _ _ ?_ (fun hHeld2 => ?_)
          · exact ABx.1
          clear hK K hHeld
          have hHeld := hHeld2; clear hHeld2
          try simp only [Act.put, List.setIfInBounds_toArray, List.set_cons_zero, List.set_cons_succ]
          clear ABx
          try clear AB_10
          refine wpAnyH_ready (rs := [11]) (by kernel_rfl) (by simp) ?_
          refine (AllReadyH.cons (o := ⟨some 20, _, _, _, _, _⟩) rfl (fun K hK => ?_) AllReadyH.nil)
          · refine step_app w2 (by rfl) _ _ (by rfl) _ _ _ _ (AB.swap AB_11.out) (by rfl) A4 m c4 rows2 SB.out (by rfl) o2 (by omega) ?_
            intro Ab_12 cb_12 x12 ab12
            have AB_12 := Lib.hid (AB.swap ab12)
            refine hK.out _ _ ?_ (fun hHeld2 => ?_)
            · exact ab12.1
            clear hK K hHeld
            have hHeld := hHeld2; clear hHeld2
            try simp only [Act.put, List.setIfInBounds_toArray, List.set_cons_zero, List.set_cons_succ]
            clear ab12
            try clear AB_11
            refine wpAnyH_take (i := 12) (oi := ⟨some 5, _, _, _, _, _⟩) (v := ?v12_13) rfl (by kernel_rfl) (by kernel_rfl) (by kernel_rfl) (fun _ _ _ h => h) (Or.inl ⟨by rfl, ?hy12_13⟩) (by assumption) ?rest12_13
            case hy12_13 => intro W hSW; go_simp; try rfl
            try simp only [Act.put, List.setIfInBounds_toArray, List.set_cons_zero, List.set_cons_succ]
            refine wpAnyH_take (i := 13) (oi := ⟨some 6, _, _, _, _, _⟩) (v := ?v13_14) rfl (by kernel_rfl) (by kernel_rfl) (by kernel_rfl) (fun _ _ _ h => h) (Or.inl ⟨by rfl, ?hy13_14⟩) (by assumption) ?rest13_14
            case hy13_14 => intro W hSW; go_simp; try rfl
            try simp only [Act.put, List.setIfInBounds_toArray, List.set_cons_zero, List.set_cons_succ]
            refine wpAnyH_done (by kernel_rfl) ?_ _
            go_wp2_with fail
            go_meet
            case rel =>
              obtain ⟨h1, h2, h3, _⟩ := AB_12.out
              exact ⟨_, _, _, _, rfl, rfl, h1, Seen.of_own (h2 _ rfl), Seen.of_own (h3 _ rfl)⟩
      · go_simp
        have ABx : AB w2 ((wd.alloc (.cells #[.slice A n c] 24)).alloc (.cells #[.slice A3 n c3] 24)) _ _ := AB.swap (AB.build (AB.swap AB_9.out) _)
        try simp only [World.size_alloc] at ABx
        have AB_15 := Lib.hid ABx
        refine hK.out _ _ ?_ (fun hHeld2 => ?_)
        · exact ABx.1
        clear hK K hHeld
        have hHeld := hHeld2; clear hHeld2
        try simp only [Act.put, List.setIfInBounds_toArray, List.set_cons_zero, List.set_cons_succ]
        clear ABx
        try clear AB_9
        refine wpAnyH_ready (rs := [5]) (by kernel_rfl) (by simp) ?_
        refine (AllReadyH.cons (o := ⟨some 14, _, _, _, _, _⟩) rfl (fun K hK => ?_) AllReadyH.nil)
        · refine step_app w2 (by rfl) _ _ (by rfl) _ _ _ _ AB_15.out (by rfl) A2 m c2 rows SA.out (by rfl) o1 (by omega) ?_
          intro Aa_16 ca_16 x16 ab16
          have AB_16 := Lib.hid ab16
          refine hK.out _ _ ?_ (fun hHeld2 => ?_)
          · exact ab16.1
          clear hK K hHeld
          have hHeld := hHeld2; clear hHeld2
          try simp only [Act.put, List.setIfInBounds_toArray, List.set_cons_zero, List.set_cons_succ]
          clear ab16
          try clear AB_15
          refine wpAnyH_ready (rs := [11]) (by kernel_rfl) (by simp) ?_
          refine (AllReadyH.cons (o := ⟨some 20, _, _, _, _, _⟩) rfl (fun K hK => ?_) AllReadyH.nil)
          · refine step_app w2 (by rfl) _ _ (by rfl) _ _ _ _ (AB.swap AB_16.out) (by rfl) A4 m c4 rows2 SB.out (by rfl) o2 (by omega) ?_
            intro Ab_17 cb_17 x17 ab17
            have AB_17 := Lib.hid (AB.swap ab17)
            refine hK.out _ _ ?_ (fun hHeld2 => ?_)
            · exact ab17.1
            clear hK K hHeld
            have hHeld := hHeld2; clear hHeld2
            try simp only [Act.put, List.setIfInBounds_toArray, List.set_cons_zero, List.set_cons_succ]
            clear ab17
            try clear AB_16
            refine wpAnyH_take (i := 12) (oi := ⟨some 5, _, _, _, _, _⟩) (v := ?v12_18) rfl (by kernel_rfl) (by kernel_rfl) (by kernel_rfl) (fun _ _ _ h => h) (Or.inl ⟨by rfl, ?hy12_18⟩) (by assumption) ?rest12_18
            case hy12_18 => intro W hSW; go_simp; try rfl
            try simp only [Act.put, List.setIfInBounds_toArray, List.set_cons_zero, List.set_cons_succ]
            refine wpAnyH_take (i := 13) (oi := ⟨some 6, _, _, _, _, _⟩) (v := ?v13_19) rfl (by kernel_rfl) (by kernel_rfl) (by kernel_rfl) (fun _ _ _ h => h) (Or.inl ⟨by rfl, ?hy13_19⟩) (by assumption) ?rest13_19
            case hy13_19 => intro W hSW; go_simp; try rfl
            try simp only [Act.put, List.setIfInBounds_toArray, List.set_cons_zero, List.set_cons_succ]
            refine wpAnyH_done (by kernel_rfl) ?_ _
            go_wp2_with fail
            go_meet
            case rel =>
              obtain ⟨h1, h2, h3, _⟩ := AB_17.out
              exact ⟨_, _, _, _, rfl, rfl, h1, Seen.of_own (h2 _ rfl), Seen.of_own (h3 _ rfl)⟩
    · go_simp
      have ABx : AB w2 (wd.alloc (.cells #[.slice A3 n c3] 24)) _ _ := AB.swap (AB.build (AB.swap AB_0.out) _)
      try simp only [World.size_alloc] at ABx
      have AB_20 := Lib.hid ABx
      refine hK.out _ _ ?_ (fun hHeld2 => ?_)
      · exact ABx.1
      clear hK K hHeld
      have hHeld := hHeld2; clear hHeld2
      try simp only [Act.put, List.setIfInBounds_toArray, List.set_cons_zero, List.set_cons_succ]
      clear ABx
      try clear AB_0
      refine wpAnyH_ready (rs := [2]) (by kernel_rfl) (by simp) ?_
      refine (AllReadyH.cons (o := ⟨some 11, _, _, _, _, _⟩) rfl (fun K hK => ?_) AllReadyH.nil)
      · go_simp
        have ABx : AB w2 ((wd.alloc (.cells #[.slice A3 n c3] 24)).alloc (.cells #[.slice A n c] 24)) _ _ := AB.build AB_20.out _
        try simp only [World.size_alloc] at ABx
        have AB_21 := Lib.hid ABx
        refine hK.out _ _ ?_ (fun hHeld2 => ?_)
        · exact ABx.1
        clear hK K hHeld
        have hHeld := hHeld2; clear hHeld2
        try simp only [Act.put, List.setIfInBounds_toArray, List.set_cons_zero, List.set_cons_succ]
        clear ABx
        try clear AB_20
        refine wpAnyH_ready (rs := [5]) (by kernel_rfl) (by simp) ?_
        refine (AllReadyH.cons (o := ⟨some 14, _, _, _, _, _⟩) rfl (fun K hK => ?_) AllReadyH.nil)
        · refine step_app w2 (by rfl) _ _ (by rfl) _ _ _ _ AB_21.out (by rfl) A2 m c2 rows SA.out (by rfl) o1 (by omega) ?_
          intro Aa_22 ca_22 x22 ab22
          have AB_22 := Lib.hid ab22
          refine hK.out _ _ ?_ (fun hHeld2 => ?_)
          · exact ab22.1
          clear hK K hHeld
          have hHeld := hHeld2; clear hHeld2
          try simp only [Act.put, List.setIfInBounds_toArray, List.set_cons_zero, List.set_cons_succ]
          clear ab22
          try clear AB_21
          refine wpAnyH_ready (rs := [11]) (by kernel_rfl) (by simp) ?_
          refine (AllReadyH.cons (o := ⟨some 20, _, _, _, _, _⟩) rfl (fun K hK => ?_) AllReadyH.nil)
          · refine step_app w2 (by rfl) _ _ (by rfl) _ _ _ _ (AB.swap AB_22.out) (by rfl) A4 m c4 rows2 SB.out (by rfl) o2 (by omega) ?_
            intro Ab_23 cb_23 x23 ab23
            have AB_23 := Lib.hid (AB.swap ab23)
            refine hK.out _ _ ?_ (fun hHeld2 => ?_)
            · exact ab23.1
            clear hK K hHeld
            have hHeld := hHeld2; clear hHeld2
            try simp only [Act.put, List.setIfInBounds_toArray, List.set_cons_zero, List.set_cons_succ]
            clear ab23
            try clear AB_22
            refine wpAnyH_take (i := 12) (oi := ⟨some 5, _, _, _, _, _⟩) (v := ?v12_24) rfl (by kernel_rfl) (by kernel_rfl) (by kernel_rfl) (fun _ _ _ h => h) (Or.inl ⟨by rfl, ?hy12_24⟩) (by assumption) ?rest12_24
            case hy12_24 => intro W hSW; go_simp; try rfl
            try simp only [Act.put, List.setIfInBounds_toArray, List.set_cons_zero, List.set_cons_succ]
            refine wpAnyH_take (i := 13) (oi := ⟨some 6, _, _, _, _, _⟩) (v := ?v13_25) rfl (by kernel_rfl) (by kernel_rfl) (by kernel_rfl) (fun _ _ _ h => h) (Or.inl ⟨by rfl, ?hy13_25⟩) (by assumption) ?rest13_25
            case hy13_25 => intro W hSW; go_simp; try rfl
            try simp only [Act.put, List.setIfInBounds_toArray, List.set_cons_zero, List.set_cons_succ]
            refine wpAnyH_done (by kernel_rfl) ?_ _
            go_wp2_with fail
            go_meet
            case rel =>
              obtain ⟨h1, h2, h3, _⟩ := AB_23.out
              exact ⟨_, _, _, _, rfl, rfl, h1, Seen.of_own (h2 _ rfl), Seen.of_own (h3 _ rfl)⟩
  case rest =>
    obtain ⟨A5, c5, A6, c6, rfl, rfl, hbc, s5, s6⟩ := hcut
    have BC := Lib.hid hbc
    have S5 := Lib.hid s5
    have S6 := Lib.hid s6
    obtain ⟨ss, hss⟩ : ∃ ss, main :: ps = ss := ⟨_, rfl⟩
    have hsl : ss.length = 1 + m := by rw [← hss]; simp [hmm]; omega
    have R5 : Hid (SecsSeen wc w2.heap.size (.slice A n c :: rows) ss) := Lib.hid (hss ▸ secs_cons hn (HA.out.below hbc) (HR.out.below (hbc.mono (by have := HB2.out; omega)) |>.more2 HB2.out))
    have R6 : Hid (SecsSeen wc w2.heap.size (.slice A3 n c3 :: rows2) ss) := Lib.hid (hss ▸ secs_cons hn (HA3.out.below hbc) (HR4.out.below (hbc.mono (by have := HB2.out; omega)) |>.more2 HB2.out))
    have hsb : ∀ s ∈ ss, s.length ≤ 500000 := by
      intro s hs
      rw [← hss] at hs
      rcases List.mem_cons.1 hs with rfl | hs
      · omega
      · exact hps s hs
    have HSB := Lib.hid hsb
    have HSL := Lib.hid hsl
    have hbcs := hbc.size
    have HBC := Lib.hid hbcs
    clear hsb hbc s5 s6 hsl o1 o2 SA SB HA HA3 HR HR4 hss hbcs
    go_wp2_with fail
    go_loopg [28] (1 + m) (fun j v wr => ∃ k : Nat, k ≤ 1 + m ∧ j = 1 + m - k ∧ v = .int .i64 k ∧ Below wc.heap.size wc wr)
    case atStart => exact ⟨0, by omega, rfl, rfl, Below.refl _ _⟩
    case round =>
      obtain ⟨k, hk, rfl, rfl, hbl⟩ := hrel
      obtain ⟨wo, rfl⟩ : ∃ W, W = wr := ⟨_, rfl⟩
      have BL := Lib.hid hbl
      clear hbl
      by_cases hlt : k < 1 + m
      · have hkl : k < ss.length := by have := HSL.out; omega
        obtain ⟨b5, o5, u5, rfl, hb5, hu5, hc5⟩ := (S5.out.below BL.out).at hlt
        obtain ⟨b6, o6, u6, rfl, hb6, hu6, hc6⟩ := (S6.out.below BL.out).at hlt
        obtain ⟨A7, c7, h7, s7⟩ := (R5.out.below (BL.out.mono HBC.out)).2 k hkl
        obtain ⟨A8, c8, h8, s8⟩ := (R6.out.below (BL.out.mono HBC.out)).2 k hkl
        obtain ⟨q, hq⟩ : ∃ q, ss[k] = q := ⟨_, rfl⟩
        obtain ⟨L, hL⟩ : ∃ L, q.length = L := ⟨_, rfl⟩
        rw [hq] at h7 s7 h8 s8
        rw [hL] at h7 s7 h8 s8
        obtain rfl : u5 = .slice A7 L c7 := Option.some.inj (hu5.symm.trans h7)
        obtain rfl : u6 = .slice A8 L c8 := Option.some.inj (hu6.symm.trans h8)
        have S7 := Lib.hid s7
        have S8 := Lib.hid s8
        have ql : ¬ ((L : Int) < 0) := by omega
        have hb5' : b5 < wo.heap.size := Nat.lt_of_lt_of_le hb5 BL.out.size
        have hb6' : b6 < wo.heap.size := Nat.lt_of_lt_of_le hb6 BL.out.size
        have hLb : L ≤ 500000 := by rw [← hL, ← hq]; exact HSB.out _ (List.getElem_mem hkl)
        have HQ := Lib.hid hq
        have HL := Lib.hid hL
        have HZ := Lib.hid (Nat.le_trans HBC.out BL.out.size)
        clear h7 h8 s7 s8 hu5 hu6 hq hL hb5 hb6
        go_upto_region 7 with fail
        refine wp_region_held_drew (S := (fun W => Below wo.heap.size wo W)) (by kernel_rfl) (Below.refl _ _).drew (fun hHeld => ?_)
        have hHeld0 := hHeld
        generalize hwd : wo.drew = wd at *
        clear hwd hHeld0
        refine wpAnyH_take (i := 0) (oi := ⟨some 31, _, _, _, _, _⟩) (v := ?vy0_1) rfl (by kernel_rfl) (by kernel_rfl) (by kernel_rfl) (fun _ _ _ h => h) (Or.inl ⟨by rfl, ?hyy0_1⟩) (by assumption) ?resty0_1
        case hyy0_1 => intro W hSW; go_simp; try rfl
        try simp only [Act.put, List.setIfInBounds_toArray, List.set_cons_zero, List.set_cons_succ]
        refine wpAnyH_take (i := 1) (oi := ⟨some 32, _, _, _, _, _⟩) (v := ?vy1_2) rfl (by kernel_rfl) (by kernel_rfl) (by kernel_rfl) (fun _ _ _ h => h) (Or.inl ⟨by rfl, ?hyy1_2⟩) (by assumption) ?resty1_2
        case hyy1_2 => intro W hSW; go_simp; try rfl
        try simp only [Act.put, List.setIfInBounds_toArray, List.set_cons_zero, List.set_cons_succ]
        refine wpAnyH_take (i := 2) (oi := ⟨some 33, _, _, _, _, _⟩) (v := ?vy2_3) rfl (by kernel_rfl) (by kernel_rfl) (by kernel_rfl) (fun _ _ _ h => h) (Or.inl ⟨by rfl, ?hyy2_3⟩) (by assumption) ?resty2_3
        case hyy2_3 => intro W hSW; go_simp; try rfl
        try simp only [Act.put, List.setIfInBounds_toArray, List.set_cons_zero, List.set_cons_succ]
        refine wpAnyH_take (i := 3) (oi := ⟨some 34, _, _, _, _, _⟩) (v := ?vy3_4) rfl (by kernel_rfl) (by kernel_rfl) (by kernel_rfl) (fun _ _ _ h => h) (Or.inl ⟨by rfl, ?hyy3_4⟩) (by assumption) ?resty3_4
        case hyy3_4 => intro W hSW; have q0 := (hSW.cell (p := ⟨b5, o5 + k, none⟩) hb5').trans hc5; go_simp; try rfl
        try simp only [Act.put, List.setIfInBounds_toArray, List.set_cons_zero, List.set_cons_succ]
        refine wpAnyH_take (i := 4) (oi := ⟨some 35, _, _, _, _, _⟩) (v := ?vy4_5) rfl (by kernel_rfl) (by kernel_rfl) (by kernel_rfl) (fun _ _ _ h => h) (Or.inl ⟨by rfl, ?hyy4_5⟩) (by assumption) ?resty4_5
        case hyy4_5 => intro W hSW; go_simp; try rfl
        try simp only [Act.put, List.setIfInBounds_toArray, List.set_cons_zero, List.set_cons_succ]
        refine wpAnyH_take (i := 5) (oi := ⟨some 36, _, _, _, _, _⟩) (v := ?vy5_6) rfl (by kernel_rfl) (by kernel_rfl) (by kernel_rfl) (fun _ _ _ h => h) (Or.inl ⟨by rfl, ?hyy5_6⟩) (by assumption) ?resty5_6
        case hyy5_6 => intro W hSW; go_simp; try rfl
        try simp only [Act.put, List.setIfInBounds_toArray, List.set_cons_zero, List.set_cons_succ]
        refine wpAnyH_take (i := 6) (oi := ⟨some 37, _, _, _, _, _⟩) (v := ?vy6_7) rfl (by kernel_rfl) (by kernel_rfl) (by kernel_rfl) (fun _ _ _ h => h) (Or.inl ⟨by rfl, ?hyy6_7⟩) (by assumption) ?resty6_7
        case hyy6_7 => intro W hSW; go_simp; try rfl
        try simp only [Act.put, List.setIfInBounds_toArray, List.set_cons_zero, List.set_cons_succ]
        refine wpAnyH_take (i := 7) (oi := ⟨some 38, _, _, _, _, _⟩) (v := ?vy7_8) rfl (by kernel_rfl) (by kernel_rfl) (by kernel_rfl) (fun _ _ _ h => h) (Or.inl ⟨by rfl, ?hyy7_8⟩) (by assumption) ?resty7_8
        case hyy7_8 => intro W hSW; go_simp; try rfl
        try simp only [Act.put, List.setIfInBounds_toArray, List.set_cons_zero, List.set_cons_succ]
        refine wpAnyH_take (i := 8) (oi := ⟨some 39, _, _, _, _, _⟩) (v := ?vy8_9) rfl (by kernel_rfl) (by kernel_rfl) (by kernel_rfl) (fun _ _ _ h => h) (Or.inl ⟨by rfl, ?hyy8_9⟩) (by assumption) ?resty8_9
        case hyy8_9 => intro W hSW; have q0 := (hSW.cell (p := ⟨b6, o6 + k, none⟩) hb6').trans hc6; go_simp; try rfl
        try simp only [Act.put, List.setIfInBounds_toArray, List.set_cons_zero, List.set_cons_succ]
        refine wpAnyH_take (i := 9) (oi := ⟨some 40, _, _, _, _, _⟩) (v := ?vy9_10) rfl (by kernel_rfl) (by kernel_rfl) (by kernel_rfl) (fun _ _ _ h => h) (Or.inl ⟨by rfl, ?hyy9_10⟩) (by assumption) ?resty9_10
        case hyy9_10 => intro W hSW; go_simp; try rfl
        try simp only [Act.put, List.setIfInBounds_toArray, List.set_cons_zero, List.set_cons_succ]
        refine wpAnyH_take (i := 10) (oi := ⟨some 41, _, _, _, _, _⟩) (v := ?vy10_11) rfl (by kernel_rfl) (by kernel_rfl) (by kernel_rfl) (fun _ _ _ h => h) (Or.inl ⟨by rfl, ?hyy10_11⟩) (by assumption) ?resty10_11
        case hyy10_11 => intro W hSW; go_simp; try rfl
        try simp only [Act.put, List.setIfInBounds_toArray, List.set_cons_zero, List.set_cons_succ]
        refine wpAnyH_done (by kernel_rfl) ?_ _
        have q5 := (hHeld.cell (p := ⟨b5, o5 + k, none⟩) hb5').trans hc5
        have hdz := hHeld.size
        have HD := Lib.hid hHeld
        clear hHeld
        go_wp2_with fail
        go_loopg [47] L (fun j v wr => ∃ i : Nat, i ≤ L ∧ j = L - i ∧ v = .int .i64 i ∧ Below wo.heap.size wo wr)
        case atStart => exact ⟨0, by omega, rfl, rfl, HD.out⟩
        case round =>
          obtain ⟨i, hi, rfl, rfl, hbi⟩ := hrel
          obtain ⟨wi, rfl⟩ : ∃ W, W = wr := ⟨_, rfl⟩
          have BI := Lib.hid hbi
          have hc5i := (hbi.cell (p := ⟨b5, o5 + k, none⟩) hb5').trans hc5
          have hc6i := (hbi.cell (p := ⟨b6, o6 + k, none⟩) hb6').trans hc6
          have hb5i : b5 < wi.heap.size := Nat.lt_of_lt_of_le hb5' hbi.size
          have hb6i : b6 < wi.heap.size := Nat.lt_of_lt_of_le hb6' hbi.size
          clear q5 hbi
          by_cases hil : i < L
          · have hil2 : i < q.length := by have := HL.out; omega
            obtain ⟨b7, o7, rfl, hb7, hc7, hd7⟩ := (S7.out.below (BI.out.mono HZ.out)).pr hil2 HL.out
            obtain ⟨b8, o8, rfl, hb8, hc8, hd8⟩ := (S8.out.below (BI.out.mono HZ.out)).pr hil2 HL.out
            obtain ⟨qa, qb, hqq⟩ : ∃ x y, q[i] = (x, y) := ⟨_, _, rfl⟩
            rw [hqq] at hc7 hd7 hc8 hd8
            replace hb7 : b7 < wi.heap.size := Nat.lt_of_lt_of_le (Nat.lt_of_lt_of_le hb7 HZ.out) BI.out.size
            replace hb8 : b8 < wi.heap.size := Nat.lt_of_lt_of_le (Nat.lt_of_lt_of_le hb8 HZ.out) BI.out.size
            have HQQ := Lib.hid hqq
            clear hqq
            go_upto_region 12 with fail
            refine wp_region_held_drew (S := (fun W => Below wi.heap.size wi W)) (by kernel_rfl) (Below.refl _ _).drew (fun hHeld => ?_)
            have hHeld0 := hHeld
            generalize hwd : wi.drew = wd at *
            clear hwd hHeld0
            refine wpAnyH_take (i := 0) (oi := ⟨some 50, _, _, _, _, _⟩) (v := ?vz0_1) rfl (by kernel_rfl) (by kernel_rfl) (by kernel_rfl) (fun _ _ _ h => h) (Or.inl ⟨by rfl, ?hyz0_1⟩) (by assumption) ?restz0_1
            case hyz0_1 => intro W hSW; go_simp; try rfl
            try simp only [Act.put, List.setIfInBounds_toArray, List.set_cons_zero, List.set_cons_succ]
            refine wpAnyH_take (i := 1) (oi := ⟨some 51, _, _, _, _, _⟩) (v := ?vz1_2) rfl (by kernel_rfl) (by kernel_rfl) (by kernel_rfl) (fun _ _ _ h => h) (Or.inl ⟨by rfl, ?hyz1_2⟩) (by assumption) ?restz1_2
            case hyz1_2 => intro W hSW; go_simp; try rfl
            try simp only [Act.put, List.setIfInBounds_toArray, List.set_cons_zero, List.set_cons_succ]
            refine wpAnyH_take (i := 2) (oi := ⟨some 52, _, _, _, _, _⟩) (v := ?vz2_3) rfl (by kernel_rfl) (by kernel_rfl) (by kernel_rfl) (fun _ _ _ h => h) (Or.inl ⟨by rfl, ?hyz2_3⟩) (by assumption) ?restz2_3
            case hyz2_3 => intro W hSW; go_simp; try rfl
            try simp only [Act.put, List.setIfInBounds_toArray, List.set_cons_zero, List.set_cons_succ]
            refine wpAnyH_take (i := 3) (oi := ⟨some 53, _, _, _, _, _⟩) (v := ?vz3_4) rfl (by kernel_rfl) (by kernel_rfl) (by kernel_rfl) (fun _ _ _ h => h) (Or.inl ⟨by rfl, ?hyz3_4⟩) (by assumption) ?restz3_4
            case hyz3_4 => intro W hSW; have q0 := (hSW.cell (p := ⟨b5, o5 + k, none⟩) hb5i).trans hc5i; go_simp; try rfl
            try simp only [Act.put, List.setIfInBounds_toArray, List.set_cons_zero, List.set_cons_succ]
            refine wpAnyH_take (i := 4) (oi := ⟨some 54, _, _, _, _, _⟩) (v := ?vz4_5) rfl (by kernel_rfl) (by kernel_rfl) (by kernel_rfl) (fun _ _ _ h => h) (Or.inl ⟨by rfl, ?hyz4_5⟩) (by assumption) ?restz4_5
            case hyz4_5 => intro W hSW; go_simp; try rfl
            try simp only [Act.put, List.setIfInBounds_toArray, List.set_cons_zero, List.set_cons_succ]
            refine wpAnyH_take (i := 5) (oi := ⟨some 55, _, _, _, _, _⟩) (v := ?vz5_6) rfl (by kernel_rfl) (by kernel_rfl) (by kernel_rfl) (fun _ _ _ h => h) (Or.inl ⟨by rfl, ?hyz5_6⟩) (by assumption) ?restz5_6
            case hyz5_6 => intro W hSW; go_simp; try rfl
            try simp only [Act.put, List.setIfInBounds_toArray, List.set_cons_zero, List.set_cons_succ]
            refine wpAnyH_take (i := 6) (oi := ⟨some 56, _, _, _, _, _⟩) (v := .agg #[.string qa, .string qb]) rfl (by kernel_rfl) (by kernel_rfl) (by kernel_rfl) (fun _ _ _ h => h) (Or.inl ⟨by rfl, ?hyz6_7⟩) (by assumption) ?restz6_7
            case hyz6_7 => intro W hSW; exact mid_yields W b7 (o7 + i * 2) 44 [.string qa, .string qb] _ _ rfl rfl (range_two ((hSW.cell (p := ⟨b7, o7 + i * 2, none⟩) hb7).trans hc7) ((hSW.cell (p := ⟨b7, o7 + i * 2 + 1, none⟩) hb7).trans hd7)) Tryd.underlying44 rfl (pair_size qa qb)
            try simp only [Act.put, List.setIfInBounds_toArray, List.set_cons_zero, List.set_cons_succ]
            refine wpAnyH_take (i := 7) (oi := ⟨some 57, _, _, _, _, _⟩) (v := ?vz7_8) rfl (by kernel_rfl) (by kernel_rfl) (by kernel_rfl) (fun _ _ _ h => h) (Or.inl ⟨by rfl, ?hyz7_8⟩) (by assumption) ?restz7_8
            case hyz7_8 => intro W hSW; go_simp; try rfl
            try simp only [Act.put, List.setIfInBounds_toArray, List.set_cons_zero, List.set_cons_succ]
            refine wpAnyH_take (i := 8) (oi := ⟨some 58, _, _, _, _, _⟩) (v := ?vz8_9) rfl (by kernel_rfl) (by kernel_rfl) (by kernel_rfl) (fun _ _ _ h => h) (Or.inl ⟨by rfl, ?hyz8_9⟩) (by assumption) ?restz8_9
            case hyz8_9 => intro W hSW; go_simp; try rfl
            try simp only [Act.put, List.setIfInBounds_toArray, List.set_cons_zero, List.set_cons_succ]
            refine wpAnyH_take (i := 9) (oi := ⟨some 59, _, _, _, _, _⟩) (v := ?vz9_10) rfl (by kernel_rfl) (by kernel_rfl) (by kernel_rfl) (fun _ _ _ h => h) (Or.inl ⟨by rfl, ?hyz9_10⟩) (by assumption) ?restz9_10
            case hyz9_10 => intro W hSW; go_simp; try rfl
            try simp only [Act.put, List.setIfInBounds_toArray, List.set_cons_zero, List.set_cons_succ]
            refine wpAnyH_take (i := 10) (oi := ⟨some 60, _, _, _, _, _⟩) (v := ?vz10_11) rfl (by kernel_rfl) (by kernel_rfl) (by kernel_rfl) (fun _ _ _ h => h) (Or.inl ⟨by rfl, ?hyz10_11⟩) (by assumption) ?restz10_11
            case hyz10_11 => intro W hSW; have q0 := (hSW.cell (p := ⟨b6, o6 + k, none⟩) hb6i).trans hc6i; go_simp; try rfl
            try simp only [Act.put, List.setIfInBounds_toArray, List.set_cons_zero, List.set_cons_succ]
            refine wpAnyH_take (i := 11) (oi := ⟨some 61, _, _, _, _, _⟩) (v := ?vz11_12) rfl (by kernel_rfl) (by kernel_rfl) (by kernel_rfl) (fun _ _ _ h => h) (Or.inl ⟨by rfl, ?hyz11_12⟩) (by assumption) ?restz11_12
            case hyz11_12 => intro W hSW; go_simp; try rfl
            try simp only [Act.put, List.setIfInBounds_toArray, List.set_cons_zero, List.set_cons_succ]
            refine wpAnyH_take (i := 12) (oi := ⟨some 62, _, _, _, _, _⟩) (v := ?vz12_13) rfl (by kernel_rfl) (by kernel_rfl) (by kernel_rfl) (fun _ _ _ h => h) (Or.inl ⟨by rfl, ?hyz12_13⟩) (by assumption) ?restz12_13
            case hyz12_13 => intro W hSW; go_simp; try rfl
            try simp only [Act.put, List.setIfInBounds_toArray, List.set_cons_zero, List.set_cons_succ]
            refine wpAnyH_take (i := 13) (oi := ⟨some 63, _, _, _, _, _⟩) (v := .agg #[.string qa, .string qb]) rfl (by kernel_rfl) (by kernel_rfl) (by kernel_rfl) (fun _ _ _ h => h) (Or.inl ⟨by rfl, ?hyz13_14⟩) (by assumption) ?restz13_14
            case hyz13_14 => intro W hSW; exact mid_yields W b8 (o8 + i * 2) 44 [.string qa, .string qb] _ _ rfl rfl (range_two ((hSW.cell (p := ⟨b8, o8 + i * 2, none⟩) hb8).trans hc8) ((hSW.cell (p := ⟨b8, o8 + i * 2 + 1, none⟩) hb8).trans hd8)) Tryd.underlying44 rfl (pair_size qa qb)
            try simp only [Act.put, List.setIfInBounds_toArray, List.set_cons_zero, List.set_cons_succ]
            refine wpAnyH_take (i := 14) (oi := ⟨some 64, _, _, _, _, _⟩) (v := .bool false) rfl (by kernel_rfl) (by kernel_rfl) (by kernel_rfl) (fun _ _ _ h => h) (Or.inl ⟨by rfl, ?hyz14_15⟩) (by assumption) ?restz14_15
            case hyz14_15 => intro W hSW; have u9 := Tryd.underlying9; have a9 := Tryd.isAgg9; have z9 := Tryd.sizeOf9; go_simp; try rfl
            try simp only [Act.put, List.setIfInBounds_toArray, List.set_cons_zero, List.set_cons_succ]
            refine wpAnyH_done (by kernel_rfl) ?_ _
            go_wp2_with fail
            go_roundg (L - (i + 1))
            case measure => omega
            case rel => exact ⟨i + 1, by omega, rfl, by go_num, BI.out.trans (hHeld.mono BI.out.size)⟩
          · go_wp2_with fail
            go_roundg (1 + m - (k + 1))
            case measure => omega
            case rel => exact ⟨k + 1, by omega, rfl, by go_num, BL.out.trans (BI.out.mono BL.out.size)⟩
      · go_wp2_with fail
        go_ret
        exact ⟨rfl, B2.out.trans ((BC.out.trans (BL.out.mono HBC.out)).mono B2.out.size)⟩
end Go.Proofs.YteadhiehhpafjaaDoor
