/-
  Contracts of bits of a fixed block; Fixed and FixedBits of no tokens. Conditions: each theorem names its own.
  Fixed and FixedBits of no tokens, Stored of a nil writer. Conditions: each theorem names its own.
  The calls whose answers the document fixes: fixed answers true, and changes nothing that was there; the walk of BlocksSigns. Conditions: none.
-/
import Derived.Test.YtkjhefjjacokjaaGreatG4
namespace Go.Proofs.YtkjhefjjacokjaaGreat
open Go.RowKit
set_option maxRecDepth 100000
theorem len_quiet (B g : Nat) (sv : Value) (l : List Bool) (w : World) (h : WriterAt w B g sv l) (m : Nat) (hm : l.length = m) (n : Nat) :
    Calls Tryz.prog 8 #[.pointer (some ⟨g, 0, none⟩)] (w.drewN n) fun e w'' => e = .returned (.int .i64 m) ∧ ∃ k, w'' = w.drewN k := by
  subst hm
  exact (len_any B g sv l (w.drewN n) h).mono fun _ _ ⟨he, hw⟩ => ⟨he, n, hw.symm⟩
theorem cost_quiet (A A1 : Option Addr) (n c n1 c1 B : Nat) (lo le : List Int) (hn : lo.length = n) (hn1 : le.length = n1) (hl : n ≤ 1000) (hl1 : n1 ≤ 1000) (h1 : ∀ x ∈ lo, 0 ≤ x ∧ x ≤ 65536) (h2 : ∀ x ∈ le, 0 ≤ x ∧ x ≤ 16) (w : World) (hs : Seen w B 1 A n c (iv lo)) (hs1 : Seen w B 1 A1 n1 c1 (iv le)) (v : Int) (hv : costK lo le (min n n1) = v) (j : Nat) :
    Calls Tryz.prog 60 #[.slice A n c, .slice A1 n1 c1] (w.drewN j) fun e w'' => e = .returned (.int .i64 v) ∧ ∃ k, w'' = w.drewN k := by
  subst hv
  exact (cost_any A A1 n c n1 c1 B lo le hn hn1 hl hl1 h1 h2 (w.drewN j) hs hs1).mono fun _ _ ⟨he, m, hm⟩ => ⟨he, m + j, by rw [hm]; simp [World.drewN, Nat.add_comm, Nat.add_left_comm]⟩
theorem seen_part {w : World} {g : Nat} {F : Nat → Int} {A1 : Option Addr} {n1 c1 : Nat} {A2 : Option Addr} {n2 c2 : Nat} {K : Value} (h : Whole w g 65 (blkC F A1 n1 c1 A2 n2 c2 K)) (o n : Nat) (hn : o + n ≤ 317) : Seen w (g + 1) 1 (some ⟨g, o, none⟩) n n (iv ((List.range n).map fun i => F (o + i))) := by
  refine ⟨by simp, Nat.le_refl _, .inr ⟨_, rfl, fun _ => ⟨rfl, Nat.lt_succ_self _, fun j u hu => ?_⟩⟩⟩
  show w.cell? ⟨g, o + j, none⟩ = some u
  have hj : j < n := by
    have := (List.getElem?_eq_some_iff.1 hu).1
    simpa using this
  rw [h.cell (o + j), (blkC_get F A1 n1 c1 A2 n2 c2 K).1 _ (by omega), ← hu]
  simp [iv, hj]
theorem headB_length (k : Nat) (b : Bool) : (headB k b).length = 3 := by simp [headB]
set_option maxHeartbeats 2000000 in
theorem bits_fixed (F : Nat → Int) (hF : ∀ i, 0 ≤ F i ∧ F i ≤ 65536) (A1 : Option Addr) (n1 c1 : Nat) (A2 : Option Addr) (n2 c2 : Nat) (l1 l2 : List Int) (hl1 : l1.length = n1) (hl2 : l2.length = n2) (hn1 : n1 ≤ 1000) (hn2 : n2 ≤ 1000) (hk1 : ∀ x ∈ l1, 0 ≤ x ∧ x ≤ 16) (hk2 : ∀ x ∈ l2, 0 ≤ x ∧ x ≤ 16) (w : World) (hL1 : Lens w A1 n1 c1 l1) (hL2 : Lens w A2 n2 c2 l2) (V : Int) (hV : 3 + F 316 + costK ((List.range 286).map fun i => F (0 + i)) l1 (min 286 n1) + costK ((List.range 30).map fun i => F (286 + i)) l2 (min 30 n2) = V) :
    Calls Tryz.prog 34 #[.agg (blkC F A1 n1 c1 A2 n2 c2 (.func (.func 50) #[] #[]))] w fun e w' => e = .returned (.int .i64 V) ∧ Below w.heap.size w w' := by
  obtain ⟨G0, G1, G2, G3⟩ := blkC_get F A1 n1 c1 A2 n2 c2 (.func (.func 50) #[] #[])
  have SP := Lib.hid (fun (W : World) (g o n : Nat) (hn : o + n ≤ 317) (h : Whole W g 65 (blkC F A1 n1 c1 A2 n2 c2 (.func (.func 50) #[] #[]))) => seen_part h o n hn)
  obtain ⟨C, hC⟩ : ∃ C, blkC F A1 n1 c1 A2 n2 c2 (.func (.func 50) #[] #[]) = C := ⟨_, rfl⟩
  rw [hC] at G0 G1 G2 G3 SP ⊢
  have G4 := G0 316 (by omega)
  have hF3 := hF 316
  obtain ⟨X1, hX1⟩ : ∃ X, costK ((List.range 286).map fun i => F (0 + i)) l1 (min 286 n1) = X := ⟨_, rfl⟩
  obtain ⟨X2, hX2⟩ : ∃ X, costK ((List.range 30).map fun i => F (286 + i)) l2 (min 30 n2) = X := ⟨_, rfl⟩
  have m1 : ∀ x ∈ (List.range 286).map (fun i => F (0 + i)), 0 ≤ x ∧ x ≤ 65536 := by intro x hx; obtain ⟨i, _, rfl⟩ := List.mem_map.1 hx; exact hF _
  have m2 : ∀ x ∈ (List.range 30).map (fun i => F (286 + i)), 0 ≤ x ∧ x ≤ 65536 := by intro x hx; obtain ⟨i, _, rfl⟩ := List.mem_map.1 hx; exact hF _
  have b1 := costK_le _ l1 m1 hk1 (min 286 n1)
  have b2 := costK_le _ l2 m2 hk2 (min 30 n2)
  rw [hX1] at b1 hV
  rw [hX2] at b2 hV
  have b1' : 0 ≤ X1 ∧ X1 ≤ 299892736 := by omega
  have b2' : 0 ≤ X2 ∧ X2 ≤ 31457280 := by omega
  obtain ⟨ad, had⟩ : ∃ ad, F 316 = ad := ⟨_, rfl⟩
  rw [had] at G4 hF3 hV
  have M1 := Lib.hid m1; have M2 := Lib.hid m2; have K1 := Lib.hid hk1; have K2 := Lib.hid hk2
  have HX1 := Lib.hid hX1; have HX2 := Lib.hid hX2; have N1 := Lib.hid hl1; have N2 := Lib.hid hl2
  have HG1 := Lib.hid G1; have HG2 := Lib.hid G2; have HG4 := Lib.hid G4
  have HV := Lib.hid hV
  have hB0 : Below w.heap.size w (w.alloc (.cells C 65)) := (Below.refl _ _).alloc (Nat.le_refl _) _
  have WB := Whole.new w 65 C
  have TW0 := Lib.hid (Tw.of_below hB0)
  have WB0 := Lib.hid WB
  have BB0 := Lib.hid hB0
  have HLa := Lib.hid hL1; have HLb := Lib.hid hL2
  have HG3 := Lib.hid G3
  obtain ⟨gb, hgb⟩ : ∃ gb, w.heap.size = gb := ⟨_, rfl⟩
  rw [hgb] at WB0
  clear G0 G1 G2 G3 G4 hC hl1 hl2 hk1 hk2 hL1 hL2 hB0 WB m1 m2 hX1 hX2 b1 b2 had hF hV
  go_enter Tryz.func34, Tryz.ntmps34
  go_wp2_with fail
  generalize w.alloc (.cells C 65) = W0 at *
  refine (newWriter_any W0).mono ?_
  rintro e w1 ⟨rfl, hw1, hb1⟩
  obtain ⟨gw, hgw⟩ : ∃ gw, W0.heap.size = gw := ⟨_, rfl⟩
  have hgl : Hid (w.heap.size ≤ gw) := Lib.hid (by rw [← hgw]; exact BB0.out.size)
  have BB1 := Lib.hid (BB0.out.trans (hb1.mono BB0.out.size))
  rw [hgw] at hw1 ⊢
  have HW1 := Lib.hid hw1
  have TW1 := Lib.hid (TW0.out.trans (Tw.of_below hb1))
  have hW1 := WB0.out.only (Only.of_below hb1 Nob) (fun h => h)
  have cf : w1.cell? ⟨gb, 319, none⟩ = some (.func (.func 50) #[] #[]) := (hW1.cell 319).trans HG3.out
  have WB1 := Lib.hid hW1
  clear hw1 hb1 hW1 hgw
  go_wp2_with fail
  clear cf
  refine (head47_any gw gw (.slice none 0 0) [] false w1 HW1.out (by simp)).mono ?_
  rintro e w2 ⟨rfl, hp⟩
  have TW2 := Lib.hid (TW1.out.trans (Tw.of_put HW1.out hp))
  have WB2 := Lib.hid (WB1.out.tw (Tw.of_put HW1.out hp) (by decide) (by decide))
  obtain ⟨sv2, p1, p2, p3⟩ := hp
  have P1 := Lib.hid p1
  have BB2 := Lib.hid (BB1.out.trans (p2.below BB1.out.size (fun k hk => by rcases hk with rfl | hk; exact hgl.out; simp [Value.ownBlock] at hk)))
  clear p1 p2 p3
  have c1' : w2.cell? ⟨gb, 317, none⟩ = some (.slice A1 n1 c1) := (WB2.out.cell 317).trans HG1.out
  have c2' : w2.cell? ⟨gb, 318, none⟩ = some (.slice A2 n2 c2) := (WB2.out.cell 318).trans HG2.out
  have c3' : w2.cell? ⟨gb, 316, none⟩ = some (.int .i64 ad) := (WB2.out.cell 316).trans HG4.out
  obtain ⟨Ba, hBa, hsa⟩ := HLa.out w2 TW2.out
  obtain ⟨Bb, hBb, hsb⟩ := HLb.out w2 TW2.out
  have SA := Lib.hid hsa; have SB := Lib.hid hsb
  clear hsa hsb hBa hBb
  have Q1 := Lib.hid (cost_quiet (some ⟨gb, 0, none⟩) A1 286 286 n1 c1 (max (gb + 1) Ba) _ l1 (by simp) N1.out (by omega) hn1 M1.out K1.out w2 ((SP.out w2 gb 0 286 (by omega) WB2.out).more (Nat.le_max_left _ _)) (SA.out.more (Nat.le_max_right _ _)) X1 HX1.out)
  have Q2 := Lib.hid (cost_quiet (some ⟨gb, 286, none⟩) A2 30 30 n2 c2 (max (gb + 1) Bb) _ l2 (by simp) N2.out (by omega) hn2 M2.out K2.out w2 ((SP.out w2 gb 286 30 (by omega) WB2.out).more (Nat.le_max_left _ _)) (SB.out.more (Nat.le_max_right _ _)) X2 HX2.out)
  have QL : Hid (∀ j, Calls Tryz.prog 8 #[.pointer (some ⟨gw, 0, none⟩)] (w2.drewN j) fun e w'' => e = .returned (.int .i64 3) ∧ ∃ k, w'' = w2.drewN k) := Lib.hid (len_quiet gw gw sv2 _ w2 P1.out 3 (by simp [headB_length]))
  go_wp2_with fail
  refine wp_region_held_drew (S := (fun W => ∃ m, W = w2.drewN m)) (by kernel_rfl) ⟨1, rfl⟩ (fun hHeld => ?_)
  refine wpAnyH_take (i := 0) (oi := ⟨some 9, _, _, _, _, _⟩) (v := ?v0) rfl (by kernel_rfl) (by kernel_rfl) (by kernel_rfl) (fun _ _ _ h => h) (Or.inl ⟨by rfl, ?hy0⟩) (by assumption) ?rest0
  case hy0 => intro W hSW; go_simp; try rfl
  try simp only [Act.put, List.setIfInBounds_toArray, List.set_cons_zero, List.set_cons_succ]
  refine wpAnyH_take (i := 2) (oi := ⟨some 11, _, _, _, _, _⟩) (v := ?v2) rfl (by kernel_rfl) (by kernel_rfl) (by kernel_rfl) (fun _ _ _ h => h) (Or.inl ⟨by rfl, ?hy2⟩) (by assumption) ?rest2
  case hy2 => intro W hSW; go_simp; try rfl
  try simp only [Act.put, List.setIfInBounds_toArray, List.set_cons_zero, List.set_cons_succ]
  refine wpAnyH_take (i := 3) (oi := ⟨some 12, _, _, _, _, _⟩) (v := ?v3) rfl (by kernel_rfl) (by kernel_rfl) (by kernel_rfl) (fun _ _ _ h => h) (Or.inl ⟨by rfl, ?hy3⟩) (by assumption) ?rest3
  case hy3 => intro W hSW; go_simp; try rfl
  try simp only [Act.put, List.setIfInBounds_toArray, List.set_cons_zero, List.set_cons_succ]
  refine wpAnyH_take (i := 4) (oi := ⟨some 13, _, _, _, _, _⟩) (v := ?v4) rfl (by kernel_rfl) (by kernel_rfl) (by kernel_rfl) (fun _ _ _ h => h) (Or.inl ⟨by rfl, ?hy4⟩) (by assumption) ?rest4
  case hy4 => intro W hSW; obtain ⟨m, rfl⟩ := hSW; have q1 : (w2.drewN m).cell? ⟨gb, 317, none⟩ = some (.slice A1 n1 c1) := c1'; have q2 : (w2.drewN m).cell? ⟨gb, 318, none⟩ = some (.slice A2 n2 c2) := c2'; have q3 : (w2.drewN m).cell? ⟨gb, 316, none⟩ = some (.int .i64 ad) := c3'; go_simp; try rfl
  try simp only [Act.put, List.setIfInBounds_toArray, List.set_cons_zero, List.set_cons_succ]
  refine wpAnyH_take (i := 6) (oi := ⟨some 15, _, _, _, _, _⟩) (v := ?v6) rfl (by kernel_rfl) (by kernel_rfl) (by kernel_rfl) (fun _ _ _ h => h) (Or.inl ⟨by rfl, ?hy6⟩) (by assumption) ?rest6
  case hy6 => intro W hSW; go_simp; try rfl
  try simp only [Act.put, List.setIfInBounds_toArray, List.set_cons_zero, List.set_cons_succ]
  refine wpAnyH_take (i := 7) (oi := ⟨some 16, _, _, _, _, _⟩) (v := ?v7) rfl (by kernel_rfl) (by kernel_rfl) (by kernel_rfl) (fun _ _ _ h => h) (Or.inl ⟨by rfl, ?hy7⟩) (by assumption) ?rest7
  case hy7 => intro W hSW; go_simp; try rfl
  try simp only [Act.put, List.setIfInBounds_toArray, List.set_cons_zero, List.set_cons_succ]
  refine wpAnyH_take (i := 8) (oi := ⟨some 17, _, _, _, _, _⟩) (v := ?v8) rfl (by kernel_rfl) (by kernel_rfl) (by kernel_rfl) (fun _ _ _ h => h) (Or.inl ⟨by rfl, ?hy8⟩) (by assumption) ?rest8
  case hy8 => intro W hSW; go_simp; try rfl
  try simp only [Act.put, List.setIfInBounds_toArray, List.set_cons_zero, List.set_cons_succ]
  refine wpAnyH_take (i := 9) (oi := ⟨some 18, _, _, _, _, _⟩) (v := ?v9) rfl (by kernel_rfl) (by kernel_rfl) (by kernel_rfl) (fun _ _ _ h => h) (Or.inl ⟨by rfl, ?hy9⟩) (by assumption) ?rest9
  case hy9 => intro W hSW; go_simp; try rfl
  try simp only [Act.put, List.setIfInBounds_toArray, List.set_cons_zero, List.set_cons_succ]
  refine wpAnyH_take (i := 10) (oi := ⟨some 19, _, _, _, _, _⟩) (v := ?v10) rfl (by kernel_rfl) (by kernel_rfl) (by kernel_rfl) (fun _ _ _ h => h) (Or.inl ⟨by rfl, ?hy10⟩) (by assumption) ?rest10
  case hy10 => intro W hSW; obtain ⟨m, rfl⟩ := hSW; have q1 : (w2.drewN m).cell? ⟨gb, 317, none⟩ = some (.slice A1 n1 c1) := c1'; have q2 : (w2.drewN m).cell? ⟨gb, 318, none⟩ = some (.slice A2 n2 c2) := c2'; have q3 : (w2.drewN m).cell? ⟨gb, 316, none⟩ = some (.int .i64 ad) := c3'; go_simp; try rfl
  try simp only [Act.put, List.setIfInBounds_toArray, List.set_cons_zero, List.set_cons_succ]
  refine wpAnyH_take (i := 13) (oi := ⟨some 22, _, _, _, _, _⟩) (v := ?v13) rfl (by kernel_rfl) (by kernel_rfl) (by kernel_rfl) (fun _ _ _ h => h) (Or.inl ⟨by rfl, ?hy13⟩) (by assumption) ?rest13
  case hy13 => intro W hSW; go_simp; try rfl
  try simp only [Act.put, List.setIfInBounds_toArray, List.set_cons_zero, List.set_cons_succ]
  refine wpAnyH_take (i := 14) (oi := ⟨some 23, _, _, _, _, _⟩) (v := ?v14) rfl (by kernel_rfl) (by kernel_rfl) (by kernel_rfl) (fun _ _ _ h => h) (Or.inl ⟨by rfl, ?hy14⟩) (by assumption) ?rest14
  case hy14 => intro W hSW; go_simp; try rfl
  try simp only [Act.put, List.setIfInBounds_toArray, List.set_cons_zero, List.set_cons_succ]
  refine wpAnyH_take (i := 15) (oi := ⟨some 24, _, _, _, _, _⟩) (v := ?v15) rfl (by kernel_rfl) (by kernel_rfl) (by kernel_rfl) (fun _ _ _ h => h) (Or.inl ⟨by rfl, ?hy15⟩) (by assumption) ?rest15
  case hy15 => intro W hSW; go_simp; try rfl
  try simp only [Act.put, List.setIfInBounds_toArray, List.set_cons_zero, List.set_cons_succ]
  refine wpAnyH_take (i := 16) (oi := ⟨some 25, _, _, _, _, _⟩) (v := ?v16) rfl (by kernel_rfl) (by kernel_rfl) (by kernel_rfl) (fun _ _ _ h => h) (Or.inl ⟨by rfl, ?hy16⟩) (by assumption) ?rest16
  case hy16 => intro W hSW; go_simp; try rfl
  try simp only [Act.put, List.setIfInBounds_toArray, List.set_cons_zero, List.set_cons_succ]
  refine wpAnyH_take (i := 17) (oi := ⟨some 26, _, _, _, _, _⟩) (v := ?v17) rfl (by kernel_rfl) (by kernel_rfl) (by kernel_rfl) (fun _ _ _ h => h) (Or.inl ⟨by rfl, ?hy17⟩) (by assumption) ?rest17
  case hy17 => intro W hSW; obtain ⟨m, rfl⟩ := hSW; have q1 : (w2.drewN m).cell? ⟨gb, 317, none⟩ = some (.slice A1 n1 c1) := c1'; have q2 : (w2.drewN m).cell? ⟨gb, 318, none⟩ = some (.slice A2 n2 c2) := c2'; have q3 : (w2.drewN m).cell? ⟨gb, 316, none⟩ = some (.int .i64 ad) := c3'; go_simp; try rfl
  try simp only [Act.put, List.setIfInBounds_toArray, List.set_cons_zero, List.set_cons_succ]
  refine wpAnyH_ready (rs := [1]) (by kernel_rfl) (by simp) ?_
  refine AllReadyH.cons (o := ⟨some 10, _, _, _, _, _⟩) rfl (fun K hK => ?_) AllReadyH.nil
  go_simp
  obtain ⟨m1, hm1⟩ := hHeld
  have cq1 := QL.out m1
  rw [← hm1] at cq1
  refine cq1.mono ?_
  rintro e w31 ⟨rfl, hd1⟩
  clear cq1
  refine hK.out _ _ ?_ (fun hHeld2 => ?_)
  · exact hd1
  clear hK K
  have hHeld := hHeld2; clear hHeld2
  try simp only [Act.put, List.setIfInBounds_toArray, List.set_cons_zero, List.set_cons_succ]
  refine wpAnyH_take (i := 5) (oi := ⟨some 14, _, _, _, _, _⟩) (v := ?v5) rfl (by kernel_rfl) (by kernel_rfl) (by kernel_rfl) (fun _ _ _ h => h) (Or.inl ⟨by rfl, ?hy5⟩) (by assumption) ?rest5
  case hy5 => intro W hSW; go_simp; try rfl
  try simp only [Act.put, List.setIfInBounds_toArray, List.set_cons_zero, List.set_cons_succ]
  refine wpAnyH_ready (rs := [11]) (by kernel_rfl) (by simp) ?_
  refine AllReadyH.cons (o := ⟨some 20, _, _, _, _, _⟩) rfl (fun K hK => ?_) AllReadyH.nil
  go_simp
  obtain ⟨m2, hm2⟩ := hHeld
  have cq2 := Q1.out m2
  rw [← hm2] at cq2
  refine cq2.mono ?_
  rintro e w32 ⟨rfl, hd2⟩
  clear cq2
  refine hK.out _ _ ?_ (fun hHeld2 => ?_)
  · exact hd2
  clear hK K
  have hHeld := hHeld2; clear hHeld2
  try simp only [Act.put, List.setIfInBounds_toArray, List.set_cons_zero, List.set_cons_succ]
  refine wpAnyH_take (i := 12) (oi := ⟨some 21, _, _, _, _, _⟩) (v := ?v12) rfl (by kernel_rfl) (by kernel_rfl) (by kernel_rfl) (fun _ _ _ h => h) (Or.inl ⟨by rfl, ?hy12⟩) (by assumption) ?rest12
  case hy12 => intro W hSW; go_simp; try rfl
  try simp only [Act.put, List.setIfInBounds_toArray, List.set_cons_zero, List.set_cons_succ]
  refine wpAnyH_ready (rs := [18]) (by kernel_rfl) (by simp) ?_
  refine AllReadyH.cons (o := ⟨some 27, _, _, _, _, _⟩) rfl (fun K hK => ?_) AllReadyH.nil
  go_simp
  obtain ⟨m3, hm3⟩ := hHeld
  have cq3 := Q2.out m3
  rw [← hm3] at cq3
  refine cq3.mono ?_
  rintro e w33 ⟨rfl, hd3⟩
  clear cq3
  refine hK.out _ _ ?_ (fun hHeld2 => ?_)
  · exact hd3
  clear hK K
  have hHeld := hHeld2; clear hHeld2
  try simp only [Act.put, List.setIfInBounds_toArray, List.set_cons_zero, List.set_cons_succ]
  refine wpAnyH_take (i := 19) (oi := ⟨some 28, _, _, _, _, _⟩) (v := ?v19) rfl (by kernel_rfl) (by kernel_rfl) (by kernel_rfl) (fun _ _ _ h => h) (Or.inl ⟨by rfl, ?hy19⟩) (by assumption) ?rest19
  case hy19 => intro W hSW; go_simp; try rfl
  try simp only [Act.put, List.setIfInBounds_toArray, List.set_cons_zero, List.set_cons_succ]
  refine wpAnyH_take (i := 20) (oi := ⟨some 2, _, _, _, _, _⟩) (v := ?v20) rfl (by kernel_rfl) (by kernel_rfl) (by kernel_rfl) (fun _ _ _ h => h) (Or.inl ⟨by rfl, ?hy20⟩) (by assumption) ?rest20
  case hy20 => intro W hSW; go_simp; try rfl
  try simp only [Act.put, List.setIfInBounds_toArray, List.set_cons_zero, List.set_cons_succ]
  refine wpAnyH_done (by kernel_rfl) ?_ _
  obtain ⟨mf, rfl⟩ := hHeld
  go_wp2_with fail
  go_ret
  have V1 : IntKind.i64.wrap (3 + ad) = 3 + ad := IntWalk.i64_in _ (by omega)
  have V2 : IntKind.i64.wrap (3 + ad + X1) = 3 + ad + X1 := IntWalk.i64_in _ (by omega)
  have V3 : IntKind.i64.wrap (3 + ad + X1 + X2) = 3 + ad + X1 + X2 := IntWalk.i64_in _ (by omega)
  refine ⟨?_, below_drewN BB2.out _⟩
  rw [← HV.out]
  show Ending.returned (.int .i64 (IntKind.i64.wrap (IntKind.i64.wrap (IntKind.i64.wrap (3 + ad) + X1) + X2))) = _
  rw [V1, V2, V3]
theorem kind_fix1 : kindOf ((List.range 288).map fixS) ≠ 0 := by decide +kernel
theorem kind_fix2 : kindOf ((List.range 32).map fun _ => (5 : Int)) ≠ 0 := by decide +kernel
theorem len_fix : len ((List.range 288).map fixS) 256 ≠ 0 := by decide +kernel
theorem word_fix : headB 1 true ++ wb ((List.range 288).map fixS) 256 = [true, true, false, false, false, false, false, false, false, false] := by decide +kernel
theorem cost_fix1 : costK ((List.range 286).map fun i => cnt0 (0 + i)) ((List.range 288).map fixS) (min 286 288) = 7 := by decide +kernel
theorem cost_fix2 : costK ((List.range 30).map fun i => cnt0 (286 + i)) ((List.range 32).map fun _ => (5 : Int)) (min 30 32) = 0 := by decide +kernel
theorem fixS_le (i : Nat) : 0 ≤ fixS i ∧ fixS i ≤ 16 := by
  unfold fixS
  repeat (first | omega | split)
theorem cnt0_le (i : Nat) : 0 ≤ cnt0 i ∧ cnt0 i ≤ 65536 := by
  unfold cnt0
  split <;> omega
theorem lens_whole {w : World} {g : Nat} {t : TypeId} {n : Nat} {f : Nat → Int} (h : Whole w g t (rz n f)) (h1 : t ≠ 47) (h2 : t ≠ 5) : Lens w (some ⟨g, 0, none⟩) n n ((List.range n).map f) :=
  fun W hW => ⟨W.heap.size, Nat.le_refl _, (seen_rz (h.tw hW h1 h2)).more (by have := (h.tw hW h1 h2).lt; omega)⟩
end Go.Proofs.YtkjhefjjacokjaaGreat

namespace Go.Proofs.YtkjhefjjacokjaaGreat
open Go.RowKit
set_option maxRecDepth 100000
theorem seen59 (w : World) (C : Array Value) : Whole ((w.alloc (.cells Tryz.zeroCells60 60)).setRow w.heap.size C) w.heap.size 60 C := (Whole.new w 60 Tryz.zeroCells60).setRow C
set_option maxHeartbeats 2000000 in
theorem written_nil (B g : Nat) (sv : Value) (bits : List Bool) (hb : bits.length ≤ 800000) (last : Bool) (w : World) (hw : WriterAt w B g sv bits) :
    Calls Tryz.prog 24 #[.pointer (some ⟨g, 0, none⟩), .slice none 0 0, .bool last, .func (.func 25) #[] #[]] w fun e w' => e = .returned (.int .i64 0) ∧ PutPost w B g sv (bits ++ headB 1 last ++ wb ((List.range 288).map fixS) 256) w' := by
  have HI := Lib.hid (show (Tryz.prog.info? 60).map (·.size) = some (rz 317 cnt0).size by rw [rz_size]; exact (zero_of_info row59).2)
  have hzs : Hid (Tryz.zeroCells60.size = (rz 317 cnt0).size) := Lib.hid (by rw [rz_size]; kernel_rfl)
  have hone := Lib.hid (rz_one 317 cnt0)
  have CF := Lib.hid (fun W => fixedBlock_any cnt0 W)
  have CN := Lib.hid (fun W => counted_nil W)
  have HW := Lib.hid hw; clear hw
  obtain ⟨R, hR⟩ : ∃ R, rz 317 cnt0 = R := ⟨_, rfl⟩
  rw [hR] at HI hzs hone CN CF
  have HRR := Lib.hid hR; clear hR
  go_enter Tryz.func24, Tryz.ntmps24
  go_wp2_with fail
  refine (CN.out _).mono ?_
  rintro e w1 ⟨rfl, hb1⟩
  have B1 := Lib.hid hb1; clear hb1
  have W1 := Lib.hid (heap_alloc_new w1 (.cells Tryz.zeroCells60 60))
  have W2 := Lib.hid (seen59 w1 R)
  have B2 : Hid (Below w1.heap.size w1 ((w1.alloc (.cells Tryz.zeroCells60 60)).setRow w1.heap.size R)) := Lib.hid (below_setRow ((Below.refl _ _).alloc (Nat.le_refl _) _) _ (Nat.le_refl _))
  go_wp2_with (first
    | (refine wpList_store_row rfl 60 (.tmp 9) (.tmp 16) rfl w1.heap.size R rfl rfl 60 Tryz.zeroCells60 W1.out HI.out hzs.out hone.out ?_)
    | (refine wpList_load_row rfl 60 (.tmp 9) rfl w1.heap.size rfl 60 R (0, 0) _ W2.out Tryz.underlying60 rfl HI.out ?_))
  generalize (w1.alloc (.cells Tryz.zeroCells60 60)).setRow w1.heap.size R = X at *
  have B3 := Lib.hid (B1.out.trans (B2.out.mono B1.out.size))
  refine (CF.out X).mono ?_
  rintro e w2 ⟨g1, g2, rfl, hA, hB, _, _, hb3⟩
  have B4 := Lib.hid (B3.out.trans (hb3.mono B3.out.size))
  have CWr := Lib.hid (write_nil cnt0 (some ⟨g1, 0, none⟩) 288 288 (some ⟨g2, 0, none⟩) 32 32 ((List.range 288).map fixS) ((List.range 32).map fun _ => (5 : Int)) (by simp) (by simp) (by omega) (by omega) kind_fix1 kind_fix2 (by omega) len_fix B g sv bits hb last w2 (HW.out.below B4.out) (lens_whole hA (by decide) (by decide)) (lens_whole hB (by decide) (by decide)))
  clear hA hB hb3
  go_wp2_with fail
  refine CWr.out.mono ?_
  rintro e w3 ⟨rfl, sv3, q1, q2, q3⟩
  have PP : Hid (PutPost w B g sv (bits ++ headB 1 last ++ wb ((List.range 288).map fixS) 256) w3) := Lib.hid ⟨sv3, q1, (Only.of_below B4.out (Foot g sv)).trans q2, fun k hk => (q3 k hk).imp id (fun h => Nat.le_trans B4.out.size h)⟩
  clear q1 q2 q3
  go_wp2_with fail
  go_ret
  exact ⟨rfl, PP.out⟩
theorem fixed_nil (B g : Nat) (sv : Value) (bits : List Bool) (hb : bits.length ≤ 800000) (last : Bool) (w : World) (hw : WriterAt w B g sv bits) :
    Calls Tryz.prog 9 #[.pointer (some ⟨g, 0, none⟩), .slice none 0 0, .bool last] w fun e w' => e = .returned (.int .i64 0) ∧ PutPost w B g sv (bits ++ headB 1 last ++ wb ((List.range 288).map fixS) 256) w' := by
  have C := Lib.hid (written_nil B g sv bits hb last w hw)
  clear hw
  go_enter Tryz.func9, Tryz.ntmps9
  go_wp2_with fail
  refine C.out.mono ?_
  rintro e w1 ⟨rfl, p⟩
  have PP := Lib.hid p; clear p
  go_wp2_with fail
  go_ret
  exact ⟨rfl, PP.out⟩
set_option maxHeartbeats 2000000 in
theorem bitsOf_nil (w : World) : Calls Tryz.prog 26 #[.slice none 0 0, .func (.func 25) #[] #[]] w (Gives w (.int .i64 10)) := by
  have HI := Lib.hid (show (Tryz.prog.info? 60).map (·.size) = some (rz 317 cnt0).size by rw [rz_size]; exact (zero_of_info row59).2)
  have hzs : Hid (Tryz.zeroCells60.size = (rz 317 cnt0).size) := Lib.hid (by rw [rz_size]; kernel_rfl)
  have hone := Lib.hid (rz_one 317 cnt0)
  have CF := Lib.hid (fun W => fixedBlock_any cnt0 W)
  have CN := Lib.hid (fun W => counted_nil W)
  obtain ⟨R, hR⟩ : ∃ R, rz 317 cnt0 = R := ⟨_, rfl⟩
  rw [hR] at HI hzs hone CN CF
  clear hR
  go_enter Tryz.func26, Tryz.ntmps26
  go_wp2_with fail
  refine (CN.out _).mono ?_
  rintro e w1 ⟨rfl, hb1⟩
  have B1 := Lib.hid hb1; clear hb1
  have W1 := Lib.hid (heap_alloc_new w1 (.cells Tryz.zeroCells60 60))
  have W2 := Lib.hid (seen59 w1 R)
  have B2 : Hid (Below w1.heap.size w1 ((w1.alloc (.cells Tryz.zeroCells60 60)).setRow w1.heap.size R)) := Lib.hid (below_setRow ((Below.refl _ _).alloc (Nat.le_refl _) _) _ (Nat.le_refl _))
  go_wp2_with (first
    | (refine wpList_store_row rfl 60 (.tmp 5) (.tmp 10) rfl w1.heap.size R rfl rfl 60 Tryz.zeroCells60 W1.out HI.out hzs.out hone.out ?_)
    | (refine wpList_load_row rfl 60 (.tmp 5) rfl w1.heap.size rfl 60 R (0, 0) _ W2.out Tryz.underlying60 rfl HI.out ?_))
  generalize (w1.alloc (.cells Tryz.zeroCells60 60)).setRow w1.heap.size R = X at *
  have B3 := Lib.hid (B1.out.trans (B2.out.mono B1.out.size))
  refine (CF.out X).mono ?_
  rintro e w2 ⟨g1, g2, rfl, hA, hB, _, _, hb3⟩
  have B4 := Lib.hid (B3.out.trans (hb3.mono B3.out.size))
  have CB := Lib.hid (bits_fixed cnt0 cnt0_le (some ⟨g1, 0, none⟩) 288 288 (some ⟨g2, 0, none⟩) 32 32 ((List.range 288).map fixS) ((List.range 32).map fun _ => (5 : Int)) (by simp) (by simp) (by omega) (by omega) (by intro x hx; obtain ⟨i, _, rfl⟩ := List.mem_map.1 hx; exact fixS_le i) (by intro x hx; obtain ⟨i, _, rfl⟩ := List.mem_map.1 hx; omega) w2 (lens_whole hA (by decide) (by decide)) (lens_whole hB (by decide) (by decide)) 10 (by rw [cost_fix1, cost_fix2]; rfl))
  clear hA hB hb3
  go_wp2_with fail
  refine CB.out.mono ?_
  rintro e w3 ⟨rfl, hb4⟩
  have B5 := Lib.hid (B4.out.trans (hb4.mono B4.out.size)); clear hb4
  go_wp2_with fail
  go_ret
  exact ⟨rfl, B5.out⟩
theorem fixedBits_nil (w : World) : Calls Tryz.prog 10 #[.slice none 0 0] w (Gives w (.int .i64 10)) := by
  have C := Lib.hid (bitsOf_nil w)
  go_enter Tryz.func10, Tryz.ntmps10
  go_wp2_with fail
  refine C.out.mono ?_
  rintro e w1 ⟨rfl, p⟩
  have PP := Lib.hid p; clear p
  go_wp2_with fail
  go_ret
  exact ⟨rfl, PP.out⟩
theorem stored_nil (A : Option Addr) (n c : Nat) (last : Bool) (w : World) : Calls Tryz.prog 7 #[.pointer none, .slice A n c, .bool last] w fun e w' => e = .returned (.int .i64 1) ∧ w = w' := by
  go_enter Tryz.func7, Tryz.ntmps7
  go_wp2_with fail
  go_ret
  exact ⟨rfl, rfl⟩
end Go.Proofs.YtkjhefjjacokjaaGreat

namespace Go.Proofs.YtkjhefjjacokjaaGreat
open Go.RowKit
set_option maxRecDepth 100000
theorem ls13 : lsV 13 = .tuple #[.int .i64 266, .int .i64 0, .bool true] := by
  have h : lsn 13 = 266 := by decide
  have h2 : lenB 266 = 13 := by decide
  unfold lsV
  rw [if_neg (by omega)]
  have e : (13 : Int).toNat = 13 := rfl
  rw [e, h, h2]
  rfl
theorem ds0 : dsV 0 = .tuple #[.int .i64 0, .int .i64 0, .bool false] := if_pos (.inl (by omega))
theorem bytes10 (g : Nat) (sv : Value) (w : World) (h : WriterAt w g g sv [true, true, false, false, false, false, false, false, false, false]) :
    Calls Tryz.prog 16 #[.pointer (some ⟨g, 0, none⟩)] w (GivesRow w 5 1 2 (([3, 0] : List Nat).map fun x : Nat => Value.int .u8 x)) := by
  have epk : pack [true, true, false, false, false, false, false, false, false, false] = [3, 0] := by decide
  have := writerBytes_any g g sv _ w h (by simp)
  rw [epk] at this
  exact this
set_option maxHeartbeats 2000000 in
theorem fixed_any (w : World) : Calls Tryz.prog 4 #[] w (Gives w (.bool true)) := by
  have C1 := Lib.hid (fun W => lengthSign_any 13 W)
  have C2 := Lib.hid (fun W => distanceSign_any 0 W)
  rw [ls13] at C1
  rw [ds0] at C2
  have C3 := Lib.hid (fun W => stored_nil none 0 0 true W)
  have C4 := Lib.hid (fun W => fixedBits_nil W)
  go_enter Tryz.func4, Tryz.ntmps4
  go_wp2_with fail
  refine (newWriter_any w).mono ?_
  rintro e w1 ⟨rfl, hw1, hb1⟩
  obtain ⟨gw, hgw⟩ : ∃ gw, w.heap.size = gw := ⟨_, rfl⟩
  rw [hgw] at hw1 ⊢
  have CX := Lib.hid (fixed_nil gw gw (.slice none 0 0) [] (by simp) true w1 hw1)
  have B1 := Lib.hid hb1
  have HG := Lib.hid hgw
  clear hw1 hb1 hgw
  go_wp2_with fail
  refine CX.out.mono ?_
  rintro e w2 ⟨rfl, sv2, p1, p2, p3⟩
  have B2 := Lib.hid (B1.out.trans (p2.below B1.out.size (fun k hk => by rcases hk with rfl | hk; rw [HG.out]; exact Nat.le_refl _; simp [Value.ownBlock] at hk)))
  rw [List.nil_append, word_fix] at p1
  have P1 := Lib.hid p1
  clear p1 p2 p3
  go_wp2_with fail
  refine (C1.out _).mono ?_
  rintro e w3 ⟨rfl, hb3⟩
  have P3 := Lib.hid (P1.out.below hb3)
  have B3 := Lib.hid (B2.out.trans (hb3.mono B2.out.size)); clear hb3
  go_wp2_with fail
  refine (C2.out _).mono ?_
  rintro e w4 ⟨rfl, hb4⟩
  have P4 := Lib.hid (P3.out.below hb4)
  have B4 := Lib.hid (B3.out.trans (hb4.mono B3.out.size)); clear hb4
  go_wp2_with fail
  refine (bytes10 gw sv2 w4 P4.out).mono ?_
  rintro e w5 ⟨v5, rfl, hown5, hb5⟩
  obtain ⟨A5, c5, rfl, _, hs5⟩ := own_seen hown5
  have hst : strOf [3, 0] = ⟨#[3, 0]⟩ := rfl
  have cv := conv_seen hs5
  rw [hst] at cv
  have B5 := Lib.hid (B4.out.trans (hb5.mono B4.out.size))
  clear hb5 hown5 hs5 hst
  go_wp2_with fail
  refine (C3.out _).mono ?_
  rintro e w6 ⟨rfl, rfl⟩
  go_wp2_with fail
  refine (C4.out _).mono ?_
  rintro e w7 ⟨rfl, hb7⟩
  have B7 := Lib.hid (B5.out.trans (hb7.mono B5.out.size)); clear hb7
  go_wp2_with fail
  go_ret
  exact ⟨rfl, B7.out⟩
end Go.Proofs.YtkjhefjjacokjaaGreat
