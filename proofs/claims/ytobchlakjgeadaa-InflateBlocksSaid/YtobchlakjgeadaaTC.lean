/-
  The contract of dynamicBlock. Conditions: the state stands as told (StAt), its things are where they should be (Cx.Good).
-/
import Derived.Test.YtobchlakjgeadaaTB
namespace Go.Proofs.Ytobchlakjgeadaa
open Go.RowKit
set_option maxRecDepth 100000

theorem dyn_nums (v : Nat) (hv : v < 2 ^ 14) : ∃ a1 q5 a2 a3 : Nat, v % 32 = a1 ∧ v / 32 % 32 = a2 ∧ v / 1024 = a3 ∧ a1 < 32 ∧ a2 < 32 ∧ a3 < 16 ∧ q5 < 512 ∧
    bits BinOp.and IntKind.u32 (v : Int) 31 = a1 ∧ (v : Int) / 32 = q5 ∧ bits BinOp.and IntKind.u32 (q5 : Int) 31 = a2 ∧ (v : Int) / 1024 = a3 := by
  have hv3 : v < 16384 := hv
  have m5 : ∀ x : Nat, x < 4294967296 → bits BinOp.and IntKind.u32 (x : Int) 31 = ((x % 32 : Nat) : Int) := by
    intro x hx
    rw [show (31 : Int) = ((31 : Nat) : Int) from rfl, u32_and_nat _ _ hx (by omega)]
    congr 1
    exact Nat.and_two_pow_sub_one_eq_mod x 5
  exact ⟨_, v / 32, _, _, rfl, rfl, rfl, Nat.mod_lt _ (by omega), Nat.mod_lt _ (by omega), by omega, by omega, m5 v (by omega), by omega, m5 _ (by omega), by omega⟩

/-- What a dynamic block stands for. -/
noncomputable def dynR (L : List Bool) (most a : Nat) (o : List Nat) : Rs (Nat × List Nat) :=
  match dynAt L a with
  | .er e => .er e
  | .ok (a1, x, y) => runF (signStep x y L most) (a1, o)

/-- What comes behind the lengths. -/
noncomputable def dynTail (ns : Nat) (L : List Bool) (most : Nat) (o : List Nat) : Rs (Nat × List Int) → Rs (Nat × List Nat)
  | .er e => .er e
  | .ok (a1, l) => if l.getD 256 0 = 0 ∨ kindOf (l.take ns) = 0 ∨ kindOf (l.drop ns) = 0 then .er 12 else runF (signStep (l.take ns) (l.drop ns) L most) (a1, o)

theorem dyn_er {L : List Bool} {most a e : Nat} {o : List Nat} (h : bitsAt L a 14 = .er e) : dynR L most a o = .er e := by
  simp [dynR, dynAt, h]
theorem dyn_many {L : List Bool} {most a v ns nd : Nat} {o : List Nat} (h : bitsAt L a 14 = .ok v) (h1 : v % 32 + 257 = ns) (h2 : v / 32 % 32 + 1 = nd) (hm : 286 < ns ∨ 30 < nd) : dynR L most a o = .er 4 := by
  subst h1 h2
  simp only [dynR, dynAt, h]
  rw [if_pos hm]
theorem dyn_end {L : List Bool} {most a v ns nd nl : Nat} {o : List Nat} (h : bitsAt L a 14 = .ok v) (h1 : v % 32 + 257 = ns) (h2 : v / 32 % 32 + 1 = nd) (h3 : v / 1024 + 4 = nl) (hm : ¬ (286 < ns ∨ 30 < nd)) (hl : L.length < a + 14 + 3 * nl) : dynR L most a o = .er 6 := by
  subst h1 h2 h3
  simp only [dynR, dynAt, h]
  rw [if_neg hm, if_pos hl]
theorem dyn_code {L : List Bool} {most a v ns nd nl : Nat} {o : List Nat} (h : bitsAt L a 14 = .ok v) (h1 : v % 32 + 257 = ns) (h2 : v / 32 % 32 + 1 = nd) (h3 : v / 1024 + 4 = nl) (hm : ¬ (286 < ns ∨ 30 < nd)) (hl : a + 14 + 3 * nl ≤ L.length) (hk : kindOf (llF L (a + 14) nl) = 0) : dynR L most a o = .er 12 := by
  subst h1 h2 h3
  simp only [dynR, dynAt, h]
  rw [if_neg hm, if_neg (by omega), if_pos hk]
theorem dyn_lens {L : List Bool} {most a v ns nd nl : Nat} {o : List Nat} {r : Rs (Nat × List Int)} (h : bitsAt L a 14 = .ok v) (h1 : v % 32 + 257 = ns) (h2 : v / 32 % 32 + 1 = nd) (h3 : v / 1024 + 4 = nl) (hm : ¬ (286 < ns ∨ 30 < nd)) (hl : a + 14 + 3 * nl ≤ L.length) (hk : kindOf (llF L (a + 14) nl) ≠ 0)
    (hr : Runs (lensStep (llF L (a + 14) nl) L (ns + nd)) (a + 14 + 3 * nl, []) r) :
    dynR L most a o = dynTail ns L most o r := by
  subst h1 h2 h3
  simp only [dynR, dynAt, h]
  rw [if_neg hm, if_neg (by omega), if_neg hk, runF_eq hr]
  cases r with
  | er e => rfl
  | ok x =>
    obtain ⟨a1, l⟩ := x
    simp only [dynTail]
    by_cases hc : l.getD 256 0 = 0 ∨ kindOf (l.take (v % 32 + 257)) = 0 ∨ kindOf (l.drop (v % 32 + 257)) = 0
    · rw [if_pos hc, if_pos hc]
    · rw [if_neg hc, if_neg hc]

theorem newCodes_bad (A1 A2 : Option Addr) (n c1 m c2 B : Nat) (x y : List Int) (hn : x.length = n) (hm : y.length = m) (hl : n ≤ 1000) (hl2 : m ≤ 1000) (hr : kindOf x = 0 ∨ kindOf y = 0) (w : World) (hs : Seen w B 1 A1 n c1 (iv x)) (hs2 : Seen w B 1 A2 m c2 (iv y)) (hB : B ≤ w.heap.size) :
    Calls Try.prog 52 #[.slice A1 n c1, .slice A2 m c2] w fun e w' => e = .returned (.tuple #[.agg #[.pointer none, .pointer none], .int .i64 12]) ∧ Below w.heap.size w w' := by
  by_cases h1 : kindOf x = 0
  · exact newCodes_bad1 A1 A2 n c1 m c2 B x hn hl h1 w hs hB
  · exact newCodes_bad2 A1 A2 n c1 m c2 B x y hn hm hl hl2 h1 (hr.resolve_left h1) w hs hs2 hB

set_option maxHeartbeats 4000000 in
theorem dynamicBlock_any {c : Cx} (hg : c.Good) (ov p q : Value) (a : Nat) (o : List Nat) (w : World) (h : StAt c w ov p q a o) :
    Calls Try.prog 38 #[.pointer (some ⟨c.gs, 0, none⟩)] w (BlockRes c (dynR c.L c.most a o) a w) := by
  have H := Lib.hid h
  have c0 := h.c0
  clear h
  obtain ⟨R, hR⟩ : ∃ R, dynR c.L c.most a o = R := ⟨_, rfl⟩
  rw [hR]
  have HR := Lib.hid hR; clear hR
  unfold BlockRes
  go_enter Try.func38, Try.ntmps38
  go_wp2_with fail
  refine (getBits_any hg ov p q a o 14 (by omega) _ H.out).mono ?_
  rintro e w1 (⟨v, hv, hv2, rfl, hs1, hf1⟩ | ⟨hv, rfl, hs1, hf1⟩)
  · obtain ⟨a1, q5, a2, a3, e1, e2, e3, l1, l2, l3, l4, b1, b2, b3, b4⟩ := dyn_nums v hv2
    obtain ⟨ns, hns⟩ : ∃ ns, a1 + 257 = ns := ⟨_, rfl⟩
    obtain ⟨nd, hnd⟩ : ∃ nd, a2 + 1 = nd := ⟨_, rfl⟩
    obtain ⟨nl, hnl⟩ : ∃ nl, a3 + 4 = nl := ⟨_, rfl⟩
    have E1 : Hid (v % 32 + 257 = ns) := Lib.hid (by rw [e1, hns])
    have E2 : Hid (v / 32 % 32 + 1 = nd) := Lib.hid (by rw [e2, hnd])
    have E3 : Hid (v / 1024 + 4 = nl) := Lib.hid (by rw [e3, hnl])
    have w1' : (a1 : Int) + 257 = ns := by omega
    have w2' : (a2 : Int) + 1 = nd := by omega
    have w3' : (a3 : Int) + 4 = nl := by omega
    have S1 := Lib.hid hs1; have F1 := Lib.hid hf1; have HV := Lib.hid hv
    clear hs1 hf1 hv hv2 c0 e1 e2 e3
    by_cases hmany : 286 < ns ∨ 30 < nd
    · have HE := Lib.hid (dyn_many (most := c.most) (o := o) HV.out E1.out E2.out hmany)
      by_cases hm1 : 286 < ns
      · clear hmany
        have d1 : decide (286 < (ns : Int)) = true := decide_eq_true (by omega)
        go_wp2_with fail
        go_ret
        exact .inr ⟨4, by omega, by omega, HR.out.symm.trans HE.out, rfl, F1.out⟩
      · have hm2 : 30 < nd := hmany.resolve_left hm1
        clear hmany
        have d1 : decide (286 < (ns : Int)) = false := decide_eq_false (by omega)
        have d2 : decide (30 < (nd : Int)) = true := decide_eq_true (by omega)
        go_wp2_with fail
        go_ret
        exact .inr ⟨4, by omega, by omega, HR.out.symm.trans HE.out, rfl, F1.out⟩
    · have hm1 : ns ≤ 286 := by omega
      have hm2 : nd ≤ 30 := by omega
      have hns1 : 257 ≤ ns := by omega
      have hnd1 : 1 ≤ nd := by omega
      have hnl1 : nl ≤ 19 := by omega
      have d1 : decide (286 < (ns : Int)) = false := decide_eq_false (by omega)
      have d2 : decide (30 < (nd : Int)) = false := decide_eq_false (by omega)
      have HM := Lib.hid hmany; clear hmany
      go_wp2_with fail
      refine (lengthsCode_any hg ov p q (a + 14) o nl hnl1 _ S1.out).mono ?_
      clear b1 b2 b3 b4 w1' w2' w3' hns hnd hnl
      rintro e w2 (⟨k1, rfl, hf2⟩ | ⟨k1, k2, rfl, hf2⟩ | ⟨k1, k2, gc, rfl, hc2, hs2, hf2⟩)
      · have HE := Lib.hid (dyn_end (most := c.most) (o := o) HV.out E1.out E2.out E3.out HM.out k1)
        have F2 := Lib.hid (F1.out.trans hf2)
        clear k1 hf2
        go_wp2_with fail
        go_ret
        exact .inr ⟨6, by omega, by omega, HR.out.symm.trans HE.out, rfl, F2.out⟩
      · have HE := Lib.hid (dyn_code (most := c.most) (o := o) HV.out E1.out E2.out E3.out HM.out k1 k2)
        have F2 := Lib.hid (F1.out.trans hf2)
        clear k1 k2 hf2
        go_wp2_with fail
        go_ret
        exact .inr ⟨12, by omega, by omega, HR.out.symm.trans HE.out, rfl, F2.out⟩
      · have HE := Lib.hid (fun r => dyn_lens (most := c.most) (o := o) (r := r) HV.out E1.out E2.out E3.out HM.out k1 k2)
        have F2 := Lib.hid (F1.out.trans hf2)
        have C2 := Lib.hid hc2
        have S2 := Lib.hid hs2
        have K2 := Lib.hid k2
        clear k1 k2 hf2 hc2 hs2
        obtain ⟨cl, hcl⟩ : ∃ cl, llF c.L (a + 14) nl = cl := ⟨_, rfl⟩
        have hcl19 : cl.length = 19 := by rw [← hcl]; simp
        rw [hcl] at HE C2 K2
        clear hcl
        obtain ⟨b0, hb0⟩ : ∃ b, a + 14 + 3 * nl = b := ⟨_, rfl⟩
        rw [hb0] at HE S2
        obtain ⟨nn, hnn⟩ : ∃ nn, ns + nd = nn := ⟨_, rfl⟩
        rw [hnn] at HE
        have wnn : (ns : Int) + nd = nn := by omega
        have hab : a ≤ b0 := by omega
        clear hb0
        go_wp2_with fail
        refine (lengths_any hg ov p q b0 o w1.heap.size gc cl hcl19 K2.out nn (by omega) _ C2.out S2.out).mono ?_
        rintro e w3 (⟨b1, l, lv, hrun, hbb, hll, rfl, hown, hs3, hf3⟩ | ⟨er, e0, e1, hrun, rfl, hf3⟩)
        · have hE3 := HE.out _ hrun
          simp only [dynTail] at hE3
          have F3 := Lib.hid (F2.out.trans hf3)
          have S3 := Lib.hid hs3
          have O3 := Lib.hid hown
          clear hrun hs3 hf3
          obtain ⟨r, cap, rfl, hcap, hcapm⟩ := own_pos hown (by omega)
          have hl256 : 256 < l.length := by omega
          obtain ⟨y, hy⟩ : ∃ y, l[256] = y := ⟨_, rfl⟩
          have cy : w3.cell? ⟨r, 256, none⟩ = some (.int .i64 y) := (own_cell hown (by rw [iv_get? hl256, hy])).1
          have hgy : l.getD 256 0 = y := by simp [List.getD, hl256, hy]
          rw [hgy] at hE3
          clear hown hy hgy
          have n256 : (256 : Int) < nn := by omega
          by_cases hy0 : y = 0
          · subst hy0
            rw [if_pos (.inl rfl)] at hE3
            have HE3 := Lib.hid hE3; clear hE3
            go_wp2_with fail
            go_ret
            exact .inr ⟨12, by omega, by omega, HR.out.symm.trans HE3.out, rfl, F3.out⟩
          · have y1 : (y == 0) = false := by simpa using hy0
            have SX := Lib.hid ((Seen.of_own O3.out).cut (q := 0) (n := ns) (by omega))
            have SY := Lib.hid ((Seen.of_own O3.out).cut (q := ns) (n := nd) (by omega))
            have hx1 : (l.take ns).length = ns := by simp; omega
            have hy1 : (l.drop ns).length = nd := by simp; omega
            have ex : ((iv l).drop 0).take ns = iv (l.take ns) := by simp [iv, List.map_take]
            have ey : ((iv l).drop ns).take nd = iv (l.drop ns) := by
              rw [iv, ← List.map_drop]
              exact List.take_of_length_le (by simp; omega)
            simp only [Option.map_some, Addr.add_lit, Nat.zero_add, Nat.add_zero, Nat.sub_zero] at SX SY
            rw [ex] at SX
            rw [ey] at SY
            clear ex ey
            have nsn : (ns : Int) ≤ nn := by omega
            have nsc : (ns : Int) ≤ cap := by omega
            have ns0 : (0 : Int) ≤ ns := by omega
            have nnc : (nn : Int) ≤ cap := by omega
            have ndn : nn - ns = nd := by omega
            have ndn2 : (nn : Int) - ns = nd := by omega
            have hcn : ¬ cap = ns := by omega
            have hcn2 : ¬ (cap : Int) = ns := by omega
            obtain ⟨x', hx'⟩ : ∃ x', l.take ns = x' := ⟨_, rfl⟩
            obtain ⟨y', hy'⟩ : ∃ y', l.drop ns = y' := ⟨_, rfl⟩
            rw [hx'] at SX hx1 hE3
            rw [hy'] at SY hy1 hE3
            clear hx' hy'
            obtain ⟨w4, hw4⟩ : ∃ w4, w3 = w4 := ⟨_, rfl⟩
            have SZ := S3.out.size
            rw [hw4] at F3 S3 O3 SX SY cy SZ
            subst hw4
            have BX : Hid (Below w3.heap.size w3 (w3.alloc (.cells #[.pointer none, .pointer none] 49)).drew) := Lib.hid (((Below.refl _ _).alloc (Nat.le_refl _) _).drew)
            have WBK : Hid (∀ W, Below (w3.alloc (.cells #[.pointer none, .pointer none] 49)).drew.heap.size (w3.alloc (.cells #[.pointer none, .pointer none] 49)).drew W → Whole W w3.heap.size 49 #[.pointer none, .pointer none]) := Lib.hid (fun W hb => ((Whole.new w3 49 #[.pointer none, .pointer none]).drew).only (Only.of_below hb Nob) (fun h => h))
            by_cases hk : kindOf x' = 0 ∨ kindOf y' = 0
            · rw [if_pos (.inr hk)] at hE3
              have HE3 := Lib.hid hE3; clear hE3
              have NC : Hid (∀ W, Below w3.heap.size w3 W → Calls Try.prog 52 #[.slice (some ⟨r, 0, none⟩) ns cap, .slice (some ⟨r, ns, none⟩) nd (cap - ns)] W fun e w' => e = .returned (.tuple #[.agg #[.pointer none, .pointer none], .int .i64 12]) ∧ Below W.heap.size W w') := Lib.hid (fun W hb => newCodes_bad _ _ ns cap nd (cap - ns) w3.heap.size x' y' hx1 hy1 (by omega) (by omega) hk W (SX.out.below hb) (SY.out.below hb) hb.size)
              clear hk
              go_wp2_with fail
              refine wp_region_held_drew (S := fun _ => True) (by kernel_rfl) trivial (fun hHeld => ?_)
              refine wpAnyH_take (i := 0) (oi := ⟨some 67, _, _, _, _, _⟩) (v := ?vf0) rfl (by kernel_rfl) (by kernel_rfl) (by kernel_rfl) (fun _ _ _ h => h) (Or.inl ⟨by rfl, ?hyf0⟩) (by assumption) ?restf0
              case hyf0 => intro W hSW; go_simp; try rfl
              try simp only [Act.put, List.setIfInBounds_toArray, List.set_cons_zero, List.set_cons_succ]
              refine wpAnyH_take (i := 1) (oi := ⟨some 68, _, _, _, _, _⟩) (v := ?vf1) rfl (by kernel_rfl) (by kernel_rfl) (by kernel_rfl) (fun _ _ _ h => h) (Or.inl ⟨by rfl, ?hyf1⟩) (by assumption) ?restf1
              case hyf1 => intro W hSW; go_simp; try rfl
              try simp only [Act.put, List.setIfInBounds_toArray, List.set_cons_zero, List.set_cons_succ]
              refine wpAnyH_take (i := 2) (oi := ⟨some 69, _, _, _, _, _⟩) (v := ?vf2) rfl (by kernel_rfl) (by kernel_rfl) (by kernel_rfl) (fun _ _ _ h => h) (Or.inl ⟨by rfl, ?hyf2⟩) (by assumption) ?restf2
              case hyf2 => intro W hSW; go_simp; try rfl
              try simp only [Act.put, List.setIfInBounds_toArray, List.set_cons_zero, List.set_cons_succ]
              refine wpAnyH_take (i := 3) (oi := ⟨some 70, _, _, _, _, _⟩) (v := ?vf3) rfl (by kernel_rfl) (by kernel_rfl) (by kernel_rfl) (fun _ _ _ h => h) (Or.inl ⟨by rfl, ?hyf3⟩) (by assumption) ?restf3
              case hyf3 => intro W hSW; go_simp; try rfl
              try simp only [Act.put, List.setIfInBounds_toArray, List.set_cons_zero, List.set_cons_succ]
              refine wpAnyH_take (i := 4) (oi := ⟨some 71, _, _, _, _, _⟩) (v := ?vf4) rfl (by kernel_rfl) (by kernel_rfl) (by kernel_rfl) (fun _ _ _ h => h) (Or.inl ⟨by rfl, ?hyf4⟩) (by assumption) ?restf4
              case hyf4 => intro W hSW; go_simp; try rfl
              try simp only [Act.put, List.setIfInBounds_toArray, List.set_cons_zero, List.set_cons_succ]
              refine wpAnyH_take (i := 5) (oi := ⟨some 72, _, _, _, _, _⟩) (v := ?vf5) rfl (by kernel_rfl) (by kernel_rfl) (by kernel_rfl) (fun _ _ _ h => h) (Or.inl ⟨by rfl, ?hyf5⟩) (by assumption) ?restf5
              case hyf5 => intro W hSW; go_simp; try rfl
              try simp only [Act.put, List.setIfInBounds_toArray, List.set_cons_zero, List.set_cons_succ]
              refine wpAnyH_ready (rs := [6, 10]) (by kernel_rfl) (by simp) ?_
              refine AllReadyH.cons (o := ⟨some 73, _, _, _, _, _⟩) rfl (fun K hK => ?_) (AllReadyH.cons (o := ⟨some 10, _, _, _, _, _⟩) rfl (fun K hK => ?_) AllReadyH.nil)
              · go_simp
                refine (NC.out w3.drew (Below.refl _ _ |>.drew)).mono ?_
                rintro e w5 ⟨rfl, hb5⟩
                have B5 := Lib.hid hb5; clear hb5
                refine hK.out _ _ ?_ (fun hHeld2 => ?_)
                · trivial
                clear hK K hHeld
                have hHeld := hHeld2; clear hHeld2
                try simp only [Act.put, List.setIfInBounds_toArray, List.set_cons_zero, List.set_cons_succ]
                refine wpAnyH_take (i := 7) (oi := ⟨some 66, _, _, _, _, _⟩) (v := ?vfa7) rfl (by kernel_rfl) (by kernel_rfl) (by kernel_rfl) (fun _ _ _ h => h) (Or.inl ⟨by rfl, ?hyfa7⟩) (by assumption) ?restfa7
                case hyfa7 => intro W hSW; go_simp; try rfl
                try simp only [Act.put, List.setIfInBounds_toArray, List.set_cons_zero, List.set_cons_succ]
                refine wpAnyH_take (i := 8) (oi := ⟨some 74, _, _, _, _, _⟩) (v := ?vfa8) rfl (by kernel_rfl) (by kernel_rfl) (by kernel_rfl) (fun _ _ _ h => h) (Or.inl ⟨by rfl, ?hyfa8⟩) (by assumption) ?restfa8
                case hyfa8 => intro W hSW; go_simp; try rfl
                try simp only [Act.put, List.setIfInBounds_toArray, List.set_cons_zero, List.set_cons_succ]
                refine wpAnyH_take (i := 9) (oi := ⟨some 75, _, _, _, _, _⟩) (v := ?vfa9) rfl (by kernel_rfl) (by kernel_rfl) (by kernel_rfl) (fun _ _ _ h => h) (Or.inl ⟨by rfl, ?hyfa9⟩) (by assumption) ?restfa9
                case hyfa9 => intro W hSW; go_simp; try rfl
                try simp only [Act.put, List.setIfInBounds_toArray, List.set_cons_zero, List.set_cons_succ]
                refine wpAnyH_ready (rs := [10]) (by kernel_rfl) (by simp) ?_
                refine AllReadyH.cons (o := ⟨some 10, _, _, _, _, _⟩) rfl (fun K hK => ?_) AllReadyH.nil
                go_simp
                refine hK.out _ _ ?_ (fun hHeld2 => ?_)
                · trivial
                clear hK K hHeld
                have hHeld := hHeld2; clear hHeld2
                try simp only [Act.put, List.setIfInBounds_toArray, List.set_cons_zero, List.set_cons_succ]
                have WB := Lib.hid (Whole.new w5 49 #[.pointer none, .pointer none]); have q0 : (w5.alloc (.cells #[.pointer none, .pointer none] 49)).cell? ⟨w5.heap.size, 0, none⟩ = some (.pointer none) := WB.out.cell 0; have q1 : (w5.alloc (.cells #[.pointer none, .pointer none] 49)).cell? ⟨w5.heap.size, 1, none⟩ = some (.pointer none) := WB.out.cell 1; have z0 := WB.out.frozen 0; have z1 := WB.out.frozen 1
                refine wpAnyH_ready (rs := [11]) (by kernel_rfl) (by simp) ?_
                refine AllReadyH.cons (o := ⟨none, _, _, _, _, _⟩) rfl (fun K hK => ?_) AllReadyH.nil
                go_simp
                refine hK.out _ _ ?_ (fun hHeld2 => ?_)
                · trivial
                clear hK K hHeld
                have hHeld := hHeld2; clear hHeld2
                try simp only [Act.put, List.setIfInBounds_toArray, List.set_cons_zero, List.set_cons_succ]
                refine wpAnyH_take (i := 12) (oi := ⟨some 4, _, _, _, _, _⟩) (v := ?vfa12) rfl (by kernel_rfl) (by kernel_rfl) (by kernel_rfl) (fun _ _ _ h => h) (Or.inl ⟨by rfl, ?hyfa12⟩) (by assumption) ?restfa12
                case hyfa12 => intro W hSW; go_simp; try rfl
                try simp only [Act.put, List.setIfInBounds_toArray, List.set_cons_zero, List.set_cons_succ]
                refine wpAnyH_done (by kernel_rfl) ?_ _
                have BU : Below w3.heap.size w3 w5 := ⟨B5.out.os, B5.out.tape, B5.out.output, B5.out.size, B5.out.block⟩
                have FB := Lib.hid (F3.out.trans (Fr.of_below (BU.alloc BU.size (.cells #[.pointer none, .pointer none] 49)) _))
                clear BU
                go_wp2_with fail
                go_ret
                exact .inr ⟨12, by omega, by omega, HR.out.symm.trans HE3.out, rfl, FB.out⟩
              · go_simp
                refine hK.out _ _ ?_ (fun hHeld2 => ?_)
                · trivial
                clear hK K hHeld
                have hHeld := hHeld2; clear hHeld2
                try simp only [Act.put, List.setIfInBounds_toArray, List.set_cons_zero, List.set_cons_succ]
                refine wpAnyH_ready (rs := [6]) (by kernel_rfl) (by simp) ?_
                refine AllReadyH.cons (o := ⟨some 73, _, _, _, _, _⟩) rfl (fun K hK => ?_) AllReadyH.nil
                go_simp
                refine (NC.out _ (BX.out)).mono ?_
                rintro e w5 ⟨rfl, hb5⟩
                have B5 := Lib.hid hb5; clear hb5
                refine hK.out _ _ ?_ (fun hHeld2 => ?_)
                · trivial
                clear hK K hHeld
                have hHeld := hHeld2; clear hHeld2
                try simp only [Act.put, List.setIfInBounds_toArray, List.set_cons_zero, List.set_cons_succ]
                refine wpAnyH_take (i := 7) (oi := ⟨some 66, _, _, _, _, _⟩) (v := ?vfb7) rfl (by kernel_rfl) (by kernel_rfl) (by kernel_rfl) (fun _ _ _ h => h) (Or.inl ⟨by rfl, ?hyfb7⟩) (by assumption) ?restfb7
                case hyfb7 => intro W hSW; go_simp; try rfl
                try simp only [Act.put, List.setIfInBounds_toArray, List.set_cons_zero, List.set_cons_succ]
                refine wpAnyH_take (i := 8) (oi := ⟨some 74, _, _, _, _, _⟩) (v := ?vfb8) rfl (by kernel_rfl) (by kernel_rfl) (by kernel_rfl) (fun _ _ _ h => h) (Or.inl ⟨by rfl, ?hyfb8⟩) (by assumption) ?restfb8
                case hyfb8 => intro W hSW; go_simp; try rfl
                try simp only [Act.put, List.setIfInBounds_toArray, List.set_cons_zero, List.set_cons_succ]
                refine wpAnyH_take (i := 9) (oi := ⟨some 75, _, _, _, _, _⟩) (v := ?vfb9) rfl (by kernel_rfl) (by kernel_rfl) (by kernel_rfl) (fun _ _ _ h => h) (Or.inl ⟨by rfl, ?hyfb9⟩) (by assumption) ?restfb9
                case hyfb9 => intro W hSW; go_simp; try rfl
                try simp only [Act.put, List.setIfInBounds_toArray, List.set_cons_zero, List.set_cons_succ]
                have WB := Lib.hid (WBK.out w5 B5.out); have q0 : w5.cell? ⟨w3.heap.size, 0, none⟩ = some (.pointer none) := WB.out.cell 0; have q1 : w5.cell? ⟨w3.heap.size, 1, none⟩ = some (.pointer none) := WB.out.cell 1; have z0 := WB.out.frozen 0; have z1 := WB.out.frozen 1
                refine wpAnyH_ready (rs := [11]) (by kernel_rfl) (by simp) ?_
                refine AllReadyH.cons (o := ⟨none, _, _, _, _, _⟩) rfl (fun K hK => ?_) AllReadyH.nil
                go_simp
                refine hK.out _ _ ?_ (fun hHeld2 => ?_)
                · trivial
                clear hK K hHeld
                have hHeld := hHeld2; clear hHeld2
                try simp only [Act.put, List.setIfInBounds_toArray, List.set_cons_zero, List.set_cons_succ]
                refine wpAnyH_take (i := 12) (oi := ⟨some 4, _, _, _, _, _⟩) (v := ?vfb12) rfl (by kernel_rfl) (by kernel_rfl) (by kernel_rfl) (fun _ _ _ h => h) (Or.inl ⟨by rfl, ?hyfb12⟩) (by assumption) ?restfb12
                case hyfb12 => intro W hSW; go_simp; try rfl
                try simp only [Act.put, List.setIfInBounds_toArray, List.set_cons_zero, List.set_cons_succ]
                refine wpAnyH_done (by kernel_rfl) ?_ _
                have BU : Below w3.heap.size w3 w5 := BX.out.trans (B5.out.mono BX.out.size)
                have FB := Lib.hid (F3.out.trans (Fr.of_below ((BU.setCell (p := ⟨w3.heap.size, 0, none⟩) (Nat.le_refl _) (.pointer none)).setCell (p := ⟨w3.heap.size, 1, none⟩) (Nat.le_refl _) (.pointer none)) _))
                clear BU
                go_wp2_with fail
                go_ret
                exact .inr ⟨12, by omega, by omega, HR.out.symm.trans HE3.out, rfl, FB.out⟩
            · rw [if_neg (by simp only [not_or] at hk ⊢; exact ⟨hy0, hk⟩)] at hE3
              have HE3 := Lib.hid hE3; clear hE3
              have hkx : kindOf x' ≠ 0 := fun h => hk (.inl h)
              have hky : kindOf y' ≠ 0 := fun h => hk (.inr h)
              have NC : Hid (∀ W, Below w3.heap.size w3 W → Calls Try.prog 52 #[.slice (some ⟨r, 0, none⟩) ns cap, .slice (some ⟨r, ns, none⟩) nd (cap - ns)] W (CodesRes W x' y' ns nd)) := Lib.hid (fun W hb => newCodes_any _ _ ns cap nd (cap - ns) w3.heap.size x' y' hx1 hy1 (by omega) (by omega) hkx hky W (SX.out.below hb) (SY.out.below hb) hb.size)
              have HKX := Lib.hid hkx
              have HKY := Lib.hid hky
              clear hk hkx hky
              go_wp2_with fail
              refine wp_region_held_drew (S := fun _ => True) (by kernel_rfl) trivial (fun hHeld => ?_)
              refine wpAnyH_take (i := 0) (oi := ⟨some 67, _, _, _, _, _⟩) (v := ?vg0) rfl (by kernel_rfl) (by kernel_rfl) (by kernel_rfl) (fun _ _ _ h => h) (Or.inl ⟨by rfl, ?hyg0⟩) (by assumption) ?restg0
              case hyg0 => intro W hSW; go_simp; try rfl
              try simp only [Act.put, List.setIfInBounds_toArray, List.set_cons_zero, List.set_cons_succ]
              refine wpAnyH_take (i := 1) (oi := ⟨some 68, _, _, _, _, _⟩) (v := ?vg1) rfl (by kernel_rfl) (by kernel_rfl) (by kernel_rfl) (fun _ _ _ h => h) (Or.inl ⟨by rfl, ?hyg1⟩) (by assumption) ?restg1
              case hyg1 => intro W hSW; go_simp; try rfl
              try simp only [Act.put, List.setIfInBounds_toArray, List.set_cons_zero, List.set_cons_succ]
              refine wpAnyH_take (i := 2) (oi := ⟨some 69, _, _, _, _, _⟩) (v := ?vg2) rfl (by kernel_rfl) (by kernel_rfl) (by kernel_rfl) (fun _ _ _ h => h) (Or.inl ⟨by rfl, ?hyg2⟩) (by assumption) ?restg2
              case hyg2 => intro W hSW; go_simp; try rfl
              try simp only [Act.put, List.setIfInBounds_toArray, List.set_cons_zero, List.set_cons_succ]
              refine wpAnyH_take (i := 3) (oi := ⟨some 70, _, _, _, _, _⟩) (v := ?vg3) rfl (by kernel_rfl) (by kernel_rfl) (by kernel_rfl) (fun _ _ _ h => h) (Or.inl ⟨by rfl, ?hyg3⟩) (by assumption) ?restg3
              case hyg3 => intro W hSW; go_simp; try rfl
              try simp only [Act.put, List.setIfInBounds_toArray, List.set_cons_zero, List.set_cons_succ]
              refine wpAnyH_take (i := 4) (oi := ⟨some 71, _, _, _, _, _⟩) (v := ?vg4) rfl (by kernel_rfl) (by kernel_rfl) (by kernel_rfl) (fun _ _ _ h => h) (Or.inl ⟨by rfl, ?hyg4⟩) (by assumption) ?restg4
              case hyg4 => intro W hSW; go_simp; try rfl
              try simp only [Act.put, List.setIfInBounds_toArray, List.set_cons_zero, List.set_cons_succ]
              refine wpAnyH_take (i := 5) (oi := ⟨some 72, _, _, _, _, _⟩) (v := ?vg5) rfl (by kernel_rfl) (by kernel_rfl) (by kernel_rfl) (fun _ _ _ h => h) (Or.inl ⟨by rfl, ?hyg5⟩) (by assumption) ?restg5
              case hyg5 => intro W hSW; go_simp; try rfl
              try simp only [Act.put, List.setIfInBounds_toArray, List.set_cons_zero, List.set_cons_succ]
              refine wpAnyH_ready (rs := [6, 10]) (by kernel_rfl) (by simp) ?_
              refine AllReadyH.cons (o := ⟨some 73, _, _, _, _, _⟩) rfl (fun K hK => ?_) (AllReadyH.cons (o := ⟨some 10, _, _, _, _, _⟩) rfl (fun K hK => ?_) AllReadyH.nil)
              · go_simp
                refine (NC.out w3.drew (Below.refl _ _ |>.drew)).mono ?_
                rintro e w5 ⟨g1, g2, rfl, hc1, hc2, hb5⟩
                have C1 := Lib.hid hc1; have C2 := Lib.hid hc2; have B5 := Lib.hid hb5; clear hc1 hc2 hb5
                refine hK.out _ _ ?_ (fun hHeld2 => ?_)
                · trivial
                clear hK K hHeld
                have hHeld := hHeld2; clear hHeld2
                try simp only [Act.put, List.setIfInBounds_toArray, List.set_cons_zero, List.set_cons_succ]
                refine wpAnyH_take (i := 7) (oi := ⟨some 66, _, _, _, _, _⟩) (v := ?vga7) rfl (by kernel_rfl) (by kernel_rfl) (by kernel_rfl) (fun _ _ _ h => h) (Or.inl ⟨by rfl, ?hyga7⟩) (by assumption) ?restga7
                case hyga7 => intro W hSW; go_simp; try rfl
                try simp only [Act.put, List.setIfInBounds_toArray, List.set_cons_zero, List.set_cons_succ]
                refine wpAnyH_take (i := 8) (oi := ⟨some 74, _, _, _, _, _⟩) (v := ?vga8) rfl (by kernel_rfl) (by kernel_rfl) (by kernel_rfl) (fun _ _ _ h => h) (Or.inl ⟨by rfl, ?hyga8⟩) (by assumption) ?restga8
                case hyga8 => intro W hSW; go_simp; try rfl
                try simp only [Act.put, List.setIfInBounds_toArray, List.set_cons_zero, List.set_cons_succ]
                refine wpAnyH_take (i := 9) (oi := ⟨some 75, _, _, _, _, _⟩) (v := ?vga9) rfl (by kernel_rfl) (by kernel_rfl) (by kernel_rfl) (fun _ _ _ h => h) (Or.inl ⟨by rfl, ?hyga9⟩) (by assumption) ?restga9
                case hyga9 => intro W hSW; go_simp; try rfl
                try simp only [Act.put, List.setIfInBounds_toArray, List.set_cons_zero, List.set_cons_succ]
                refine wpAnyH_ready (rs := [10]) (by kernel_rfl) (by simp) ?_
                refine AllReadyH.cons (o := ⟨some 10, _, _, _, _, _⟩) rfl (fun K hK => ?_) AllReadyH.nil
                go_simp
                refine hK.out _ _ ?_ (fun hHeld2 => ?_)
                · trivial
                clear hK K hHeld
                have hHeld := hHeld2; clear hHeld2
                try simp only [Act.put, List.setIfInBounds_toArray, List.set_cons_zero, List.set_cons_succ]
                have WB := Lib.hid (Whole.new w5 49 #[.pointer none, .pointer none]); have q0 : (w5.alloc (.cells #[.pointer none, .pointer none] 49)).cell? ⟨w5.heap.size, 0, none⟩ = some (.pointer none) := WB.out.cell 0; have q1 : (w5.alloc (.cells #[.pointer none, .pointer none] 49)).cell? ⟨w5.heap.size, 1, none⟩ = some (.pointer none) := WB.out.cell 1; have z0 := WB.out.frozen 0; have z1 := WB.out.frozen 1
                refine wpAnyH_ready (rs := [11]) (by kernel_rfl) (by simp) ?_
                refine AllReadyH.cons (o := ⟨none, _, _, _, _, _⟩) rfl (fun K hK => ?_) AllReadyH.nil
                go_simp
                refine hK.out _ _ ?_ (fun hHeld2 => ?_)
                · trivial
                clear hK K hHeld
                have hHeld := hHeld2; clear hHeld2
                try simp only [Act.put, List.setIfInBounds_toArray, List.set_cons_zero, List.set_cons_succ]
                refine wpAnyH_take (i := 12) (oi := ⟨some 4, _, _, _, _, _⟩) (v := ?vga12) rfl (by kernel_rfl) (by kernel_rfl) (by kernel_rfl) (fun _ _ _ h => h) (Or.inl ⟨by rfl, ?hyga12⟩) (by assumption) ?restga12
                case hyga12 => intro W hSW; go_simp; try rfl
                try simp only [Act.put, List.setIfInBounds_toArray, List.set_cons_zero, List.set_cons_succ]
                refine wpAnyH_done (by kernel_rfl) ?_ _
                have BU : Below w3.heap.size w3 w5 := ⟨B5.out.os, B5.out.tape, B5.out.output, B5.out.size, B5.out.block⟩
                have hBB := BU.alloc BU.size (.cells #[.pointer (some ⟨g1, 0, none⟩), .pointer (some ⟨g2, 0, none⟩)] 49)
                have SG := Lib.hid (S3.out.below hBB)
                have FG := Lib.hid (F3.out.trans (Fr.of_below hBB c.B0))
                have KG1 := Lib.hid (C1.out.below ((Below.refl _ _).alloc (Nat.le_refl _) (.cells #[.pointer (some ⟨g1, 0, none⟩), .pointer (some ⟨g2, 0, none⟩)] 49)))
                have KG2 := Lib.hid (C2.out.below ((Below.refl _ _).alloc (Nat.le_refl _) (.cells #[.pointer (some ⟨g1, 0, none⟩), .pointer (some ⟨g2, 0, none⟩)] 49)))
                have WG := Whole.new w5 49 #[.pointer (some ⟨g1, 0, none⟩), .pointer (some ⟨g2, 0, none⟩)]
                have r0 : (w5.alloc (.cells #[.pointer (some ⟨g1, 0, none⟩), .pointer (some ⟨g2, 0, none⟩)] 49)).cell? ⟨w5.heap.size, 0, none⟩ = some (.pointer (some ⟨g1, 0, none⟩)) := WG.cell 0
                have r1 : (w5.alloc (.cells #[.pointer (some ⟨g1, 0, none⟩), .pointer (some ⟨g2, 0, none⟩)] 49)).cell? ⟨w5.heap.size, 1, none⟩ = some (.pointer (some ⟨g2, 0, none⟩)) := WG.cell 1
                clear BU hBB WG WB q0 q1 z0 z1
                go_wp2_with fail
                refine (signsCall_any hg ov p q b1 o w3.drew.heap.size g1 g2 x' y' ns nd hx1 hy1 (by omega) (by omega) HKX.out HKY.out _ KG1.out KG2.out SG.out).mono ?_
                rintro e w6 hres
                have hres2 := Lib.hid (BlockRes.of_signs hres FG.out (show a ≤ b1 by omega))
                clear hres
                rw [← HE3.out, HR.out] at hres2
                have hcase := hres2.out
                rcases hcase with ⟨a', o', h1, h2, rfl, h4, h5⟩ | ⟨er, h1, h2, h3, rfl, h5⟩
                · clear h1 h2 h4 h5
                  go_wp2_with fail
                  go_ret
                  exact hres2.out
                · clear h1 h2 h3 h5
                  go_wp2_with fail
                  go_ret
                  exact hres2.out
              · go_simp
                refine hK.out _ _ ?_ (fun hHeld2 => ?_)
                · trivial
                clear hK K hHeld
                have hHeld := hHeld2; clear hHeld2
                try simp only [Act.put, List.setIfInBounds_toArray, List.set_cons_zero, List.set_cons_succ]
                refine wpAnyH_ready (rs := [6]) (by kernel_rfl) (by simp) ?_
                refine AllReadyH.cons (o := ⟨some 73, _, _, _, _, _⟩) rfl (fun K hK => ?_) AllReadyH.nil
                go_simp
                refine (NC.out _ (BX.out)).mono ?_
                rintro e w5 ⟨g1, g2, rfl, hc1, hc2, hb5⟩
                have C1 := Lib.hid hc1; have C2 := Lib.hid hc2; have B5 := Lib.hid hb5; clear hc1 hc2 hb5
                refine hK.out _ _ ?_ (fun hHeld2 => ?_)
                · trivial
                clear hK K hHeld
                have hHeld := hHeld2; clear hHeld2
                try simp only [Act.put, List.setIfInBounds_toArray, List.set_cons_zero, List.set_cons_succ]
                refine wpAnyH_take (i := 7) (oi := ⟨some 66, _, _, _, _, _⟩) (v := ?vgb7) rfl (by kernel_rfl) (by kernel_rfl) (by kernel_rfl) (fun _ _ _ h => h) (Or.inl ⟨by rfl, ?hygb7⟩) (by assumption) ?restgb7
                case hygb7 => intro W hSW; go_simp; try rfl
                try simp only [Act.put, List.setIfInBounds_toArray, List.set_cons_zero, List.set_cons_succ]
                refine wpAnyH_take (i := 8) (oi := ⟨some 74, _, _, _, _, _⟩) (v := ?vgb8) rfl (by kernel_rfl) (by kernel_rfl) (by kernel_rfl) (fun _ _ _ h => h) (Or.inl ⟨by rfl, ?hygb8⟩) (by assumption) ?restgb8
                case hygb8 => intro W hSW; go_simp; try rfl
                try simp only [Act.put, List.setIfInBounds_toArray, List.set_cons_zero, List.set_cons_succ]
                refine wpAnyH_take (i := 9) (oi := ⟨some 75, _, _, _, _, _⟩) (v := ?vgb9) rfl (by kernel_rfl) (by kernel_rfl) (by kernel_rfl) (fun _ _ _ h => h) (Or.inl ⟨by rfl, ?hygb9⟩) (by assumption) ?restgb9
                case hygb9 => intro W hSW; go_simp; try rfl
                try simp only [Act.put, List.setIfInBounds_toArray, List.set_cons_zero, List.set_cons_succ]
                have WB := Lib.hid (WBK.out w5 B5.out); have q0 : w5.cell? ⟨w3.heap.size, 0, none⟩ = some (.pointer none) := WB.out.cell 0; have q1 : w5.cell? ⟨w3.heap.size, 1, none⟩ = some (.pointer none) := WB.out.cell 1; have z0 := WB.out.frozen 0; have z1 := WB.out.frozen 1
                refine wpAnyH_ready (rs := [11]) (by kernel_rfl) (by simp) ?_
                refine AllReadyH.cons (o := ⟨none, _, _, _, _, _⟩) rfl (fun K hK => ?_) AllReadyH.nil
                go_simp
                refine hK.out _ _ ?_ (fun hHeld2 => ?_)
                · trivial
                clear hK K hHeld
                have hHeld := hHeld2; clear hHeld2
                try simp only [Act.put, List.setIfInBounds_toArray, List.set_cons_zero, List.set_cons_succ]
                refine wpAnyH_take (i := 12) (oi := ⟨some 4, _, _, _, _, _⟩) (v := ?vgb12) rfl (by kernel_rfl) (by kernel_rfl) (by kernel_rfl) (fun _ _ _ h => h) (Or.inl ⟨by rfl, ?hygb12⟩) (by assumption) ?restgb12
                case hygb12 => intro W hSW; go_simp; try rfl
                try simp only [Act.put, List.setIfInBounds_toArray, List.set_cons_zero, List.set_cons_succ]
                refine wpAnyH_done (by kernel_rfl) ?_ _
                have BU : Below w3.heap.size w3 w5 := BX.out.trans (B5.out.mono BX.out.size)
                have hBB : Below w3.heap.size w3 ((w5.setCell ⟨w3.heap.size, 0, none⟩ (.pointer (some ⟨g1, 0, none⟩))).setCell ⟨w3.heap.size, 1, none⟩ (.pointer (some ⟨g2, 0, none⟩))) := (BU.setCell (p := ⟨w3.heap.size, 0, none⟩) (Nat.le_refl _) _).setCell (p := ⟨w3.heap.size, 1, none⟩) (Nat.le_refl _) _
                have SG := Lib.hid (S3.out.below hBB)
                have FG := Lib.hid (F3.out.trans (Fr.of_below hBB c.B0))
                have hOO : Only (fun k => k = w3.heap.size) w5 ((w5.setCell ⟨w3.heap.size, 0, none⟩ (.pointer (some ⟨g1, 0, none⟩))).setCell ⟨w3.heap.size, 1, none⟩ (.pointer (some ⟨g2, 0, none⟩))) := ((Only.refl (fun k => k = w3.heap.size) w5).setCell (p := ⟨w3.heap.size, 0, none⟩) (.inl rfl) _).setCell (p := ⟨w3.heap.size, 1, none⟩) (.inl rfl) _
                have hKK : ∀ {lo g l n}, CodeOwn w5 lo g l n → CodeOwn ((w5.setCell ⟨w3.heap.size, 0, none⟩ (.pointer (some ⟨g1, 0, none⟩))).setCell ⟨w3.heap.size, 1, none⟩ (.pointer (some ⟨g2, 0, none⟩))) lo g l n := fun h => h.only hOO (fun k hk _ => by subst hk; exact ⟨49, _, WB.out, by decide, by decide, by decide⟩)
                have KG1 := Lib.hid (hKK C1.out)
                have KG2 := Lib.hid (hKK C2.out)
                have WG := (WB.out.put 0 (.pointer (some ⟨g1, 0, none⟩))).put 1 (.pointer (some ⟨g2, 0, none⟩))
                have r0 : ((w5.setCell ⟨w3.heap.size, 0, none⟩ (.pointer (some ⟨g1, 0, none⟩))).setCell ⟨w3.heap.size, 1, none⟩ (.pointer (some ⟨g2, 0, none⟩))).cell? ⟨w3.heap.size, 0, none⟩ = some (.pointer (some ⟨g1, 0, none⟩)) := WG.cell 0
                have r1 : ((w5.setCell ⟨w3.heap.size, 0, none⟩ (.pointer (some ⟨g1, 0, none⟩))).setCell ⟨w3.heap.size, 1, none⟩ (.pointer (some ⟨g2, 0, none⟩))).cell? ⟨w3.heap.size, 1, none⟩ = some (.pointer (some ⟨g2, 0, none⟩)) := WG.cell 1
                clear BU hBB hOO hKK WG WB q0 q1 z0 z1
                go_wp2_with fail
                refine (signsCall_any hg ov p q b1 o (w3.alloc (.cells #[.pointer none, .pointer none] 49)).drew.heap.size g1 g2 x' y' ns nd hx1 hy1 (by omega) (by omega) HKX.out HKY.out _ KG1.out KG2.out SG.out).mono ?_
                rintro e w6 hres
                have hres2 := Lib.hid (BlockRes.of_signs hres FG.out (show a ≤ b1 by omega))
                clear hres
                rw [← HE3.out, HR.out] at hres2
                have hcase := hres2.out
                rcases hcase with ⟨a', o', h1, h2, rfl, h4, h5⟩ | ⟨er, h1, h2, h3, rfl, h5⟩
                · clear h1 h2 h4 h5
                  go_wp2_with fail
                  go_ret
                  exact hres2.out
                · clear h1 h2 h3 h5
                  go_wp2_with fail
                  go_ret
                  exact hres2.out
        · have hE3 := Lib.hid (HE.out _ hrun)
          simp only [dynTail] at hE3
          have F3 := Lib.hid (F2.out.trans hf3)
          clear hrun hf3
          have z2 : ((er : Int) == 0) = false := by simp; omega
          have z3 : ¬ (er : Int) = 0 := by omega
          have z4 : (er == 0) = false := by simp; omega
          go_wp2_with fail
          go_ret
          exact .inr ⟨er, e0, e1, HR.out.symm.trans hE3.out, rfl, F3.out⟩
  · have F1 := Lib.hid hf1; have HV := Lib.hid hv
    clear hs1 hf1 hv c0
    go_wp2_with fail
    go_ret
    exact .inr ⟨6, by omega, by omega, HR.out.symm.trans (dyn_er HV.out), rfl, F1.out⟩
end Go.Proofs.Ytobchlakjgeadaa
