/-
  Contracts of bits of a fixed block; Fixed and FixedBits of no tokens. Conditions: each theorem names its own.
-/
import Derived.Test.YtnnpiblnjflceaaG4
namespace Go.Proofs.Ytnnpiblnjflceaa
open Go.RowKit
set_option maxRecDepth 100000

theorem len_quiet (B g : Nat) (sv : Value) (l : List Bool) (w : World) (h : WriterAt w B g sv l) (m : Nat) (hm : l.length = m) (n : Nat) :
    Calls Try.prog 18 #[.pointer (some ⟨g, 0, none⟩)] (w.drewN n) fun e w'' => e = .returned (.int .i64 m) ∧ ∃ k, w'' = w.drewN k := by
  subst hm
  exact (len_any B g sv l (w.drewN n) h).mono fun _ _ ⟨he, hw⟩ => ⟨he, n, hw.symm⟩
theorem cost_quiet (A A1 : Option Addr) (n c n1 c1 B : Nat) (lo le : List Int) (hn : lo.length = n) (hn1 : le.length = n1) (hl : n ≤ 1000) (hl1 : n1 ≤ 1000) (h1 : ∀ x ∈ lo, 0 ≤ x ∧ x ≤ 65536) (h2 : ∀ x ∈ le, 0 ≤ x ∧ x ≤ 16) (w : World) (hs : Seen w B 1 A n c (iv lo)) (hs1 : Seen w B 1 A1 n1 c1 (iv le)) (v : Int) (hv : costK lo le (min n n1) = v) (j : Nat) :
    Calls Try.prog 55 #[.slice A n c, .slice A1 n1 c1] (w.drewN j) fun e w'' => e = .returned (.int .i64 v) ∧ ∃ k, w'' = w.drewN k := by
  subst hv
  exact (cost_any A A1 n c n1 c1 B lo le hn hn1 hl hl1 h1 h2 (w.drewN j) hs hs1).mono fun _ _ ⟨he, m, hm⟩ => ⟨he, m + j, by rw [hm]; simp [World.drewN, Nat.add_comm, Nat.add_left_comm]⟩

theorem seen_part {w : World} {g : Nat} {F : Nat → Int} {A1 : Option Addr} {n1 c1 : Nat} {A2 : Option Addr} {n2 c2 : Nat} {K : Value} (h : Whole w g 65 (blkC F A1 n1 c1 A2 n2 c2 K)) (o n : Nat) (hn : o + n ≤ 317) : Seen w (g + 1) 1 (some ⟨g, o, none⟩) n n (iv ((List.range n).map fun i => F (o + i))) := by
  refine ⟨by simp, Nat.le_refl _, .inr ⟨_, rfl, fun _ => ⟨rfl, Nat.lt_succ_self _, fun j u hu => ?_⟩⟩⟩
  show w.cell? ⟨g, o + j, none⟩ = some u
  have hj : j < n := by
    have := (List.getElem?_eq_some_iff.1 hu).1
    simpa using this
  rw [h.cell (o + j), (blkC_get F A1 n1 c1 A2 n2 c2 K).1 _ (by omega), ← hu]
  simp [iv, hj]

theorem headB_length (k : Nat) (b : Bool) : (headB k b).length = 3 := by simp [headB]

set_option maxHeartbeats 2000000 in
theorem bits_fixed (F : Nat → Int) (hF : ∀ i, 0 ≤ F i ∧ F i ≤ 65536) (A1 : Option Addr) (n1 c1 : Nat) (A2 : Option Addr) (n2 c2 : Nat) (l1 l2 : List Int) (hl1 : l1.length = n1) (hl2 : l2.length = n2) (hn1 : n1 ≤ 1000) (hn2 : n2 ≤ 1000) (hk1 : ∀ x ∈ l1, 0 ≤ x ∧ x ≤ 16) (hk2 : ∀ x ∈ l2, 0 ≤ x ∧ x ≤ 16) (w : World) (hL1 : Lens w A1 n1 c1 l1) (hL2 : Lens w A2 n2 c2 l2) (V : Int) (hV : 3 + F 316 + costK ((List.range 286).map fun i => F (0 + i)) l1 (min 286 n1) + costK ((List.range 30).map fun i => F (286 + i)) l2 (min 30 n2) = V) :
    Calls Try.prog 37 #[.agg (blkC F A1 n1 c1 A2 n2 c2 (.func (.func 47) #[] #[]))] w fun e w' => e = .returned (.int .i64 V) ∧ Below w.heap.size w w' := by
  obtain ⟨G0, G1, G2, G3⟩ := blkC_get F A1 n1 c1 A2 n2 c2 (.func (.func 47) #[] #[])
  have SP := Lib.hid (fun (W : World) (g o n : Nat) (hn : o + n ≤ 317) (h : Whole W g 65 (blkC F A1 n1 c1 A2 n2 c2 (.func (.func 47) #[] #[]))) => seen_part h o n hn)
  obtain ⟨C, hC⟩ : ∃ C, blkC F A1 n1 c1 A2 n2 c2 (.func (.func 47) #[] #[]) = C := ⟨_, rfl⟩
  rw [hC] at G0 G1 G2 G3 SP ⊢
  have G4 := G0 316 (by omega)
  have hF3 := hF 316
  obtain ⟨X1, hX1⟩ : ∃ X, costK ((List.range 286).map fun i => F (0 + i)) l1 (min 286 n1) = X := ⟨_, rfl⟩
  obtain ⟨X2, hX2⟩ : ∃ X, costK ((List.range 30).map fun i => F (286 + i)) l2 (min 30 n2) = X := ⟨_, rfl⟩
  have m1 : ∀ x ∈ (List.range 286).map (fun i => F (0 + i)), 0 ≤ x ∧ x ≤ 65536 := by intro x hx; obtain ⟨i, _, rfl⟩ := List.mem_map.1 hx; exact hF _
  have m2 : ∀ x ∈ (List.range 30).map (fun i => F (286 + i)), 0 ≤ x ∧ x ≤ 65536 := by intro x hx; obtain ⟨i, _, rfl⟩ := List.mem_map.1 hx; exact hF _
  have b1 := costK_le _ l1 m1 hk1 (min 286 n1)
  have b2 := costK_le _ l2 m2 hk2 (min 30 n2)
  rw [hX1] at b1 hV
  rw [hX2] at b2 hV
  have b1' : 0 ≤ X1 ∧ X1 ≤ 299892736 := by omega
  have b2' : 0 ≤ X2 ∧ X2 ≤ 31457280 := by omega
  obtain ⟨ad, had⟩ : ∃ ad, F 316 = ad := ⟨_, rfl⟩
  rw [had] at G4 hF3 hV
  have M1 := Lib.hid m1; have M2 := Lib.hid m2; have K1 := Lib.hid hk1; have K2 := Lib.hid hk2
  have HX1 := Lib.hid hX1; have HX2 := Lib.hid hX2; have N1 := Lib.hid hl1; have N2 := Lib.hid hl2
  have HG1 := Lib.hid G1; have HG2 := Lib.hid G2; have HG4 := Lib.hid G4
  have HV := Lib.hid hV
  have hB0 : Below w.heap.size w (w.alloc (.cells C 65)) := (Below.refl _ _).alloc (Nat.le_refl _) _
  have WB := Whole.new w 65 C
  have TW0 := Lib.hid (Tw.of_below hB0)
  have WB0 := Lib.hid WB
  have BB0 := Lib.hid hB0
  have HLa := Lib.hid hL1; have HLb := Lib.hid hL2
  have HG3 := Lib.hid G3
  obtain ⟨gb, hgb⟩ : ∃ gb, w.heap.size = gb := ⟨_, rfl⟩
  rw [hgb] at WB0
  clear G0 G1 G2 G3 G4 hC hl1 hl2 hk1 hk2 hL1 hL2 hB0 WB m1 m2 hX1 hX2 b1 b2 had hF hV
  go_enter Try.func37, Try.ntmps37
  go_wp2_with fail
  generalize w.alloc (.cells C 65) = W0 at *
  refine (newWriter_any W0).mono ?_
  rintro e w1 ⟨rfl, hw1, hb1⟩
  obtain ⟨gw, hgw⟩ : ∃ gw, W0.heap.size = gw := ⟨_, rfl⟩
  have hgl : Hid (w.heap.size ≤ gw) := Lib.hid (by rw [← hgw]; exact BB0.out.size)
  have BB1 := Lib.hid (BB0.out.trans (hb1.mono BB0.out.size))
  rw [hgw] at hw1 ⊢
  have HW1 := Lib.hid hw1
  have TW1 := Lib.hid (TW0.out.trans (Tw.of_below hb1))
  have hW1 := WB0.out.only (Only.of_below hb1 Nob) (fun h => h)
  have cf : w1.cell? ⟨gb, 319, none⟩ = some (.func (.func 47) #[] #[]) := (hW1.cell 319).trans HG3.out
  have WB1 := Lib.hid hW1
  clear hw1 hb1 hW1 hgw
  go_wp2_with fail
  clear cf
  refine (head47_any gw gw (.slice none 0 0) [] false w1 HW1.out (by simp)).mono ?_
  rintro e w2 ⟨rfl, hp⟩
  have TW2 := Lib.hid (TW1.out.trans (Tw.of_put HW1.out hp))
  have WB2 := Lib.hid (WB1.out.tw (Tw.of_put HW1.out hp) (by decide) (by decide))
  obtain ⟨sv2, p1, p2, p3⟩ := hp
  have P1 := Lib.hid p1
  have BB2 := Lib.hid (BB1.out.trans (p2.below BB1.out.size (fun k hk => by rcases hk with rfl | hk; exact hgl.out; simp [Value.ownBlock] at hk)))
  clear p1 p2 p3
  have c1' : w2.cell? ⟨gb, 317, none⟩ = some (.slice A1 n1 c1) := (WB2.out.cell 317).trans HG1.out
  have c2' : w2.cell? ⟨gb, 318, none⟩ = some (.slice A2 n2 c2) := (WB2.out.cell 318).trans HG2.out
  have c3' : w2.cell? ⟨gb, 316, none⟩ = some (.int .i64 ad) := (WB2.out.cell 316).trans HG4.out
  obtain ⟨Ba, hBa, hsa⟩ := HLa.out w2 TW2.out
  obtain ⟨Bb, hBb, hsb⟩ := HLb.out w2 TW2.out
  have SA := Lib.hid hsa; have SB := Lib.hid hsb
  clear hsa hsb hBa hBb
  have Q1 := Lib.hid (cost_quiet (some ⟨gb, 0, none⟩) A1 286 286 n1 c1 (max (gb + 1) Ba) _ l1 (by simp) N1.out (by omega) hn1 M1.out K1.out w2 ((SP.out w2 gb 0 286 (by omega) WB2.out).more (Nat.le_max_left _ _)) (SA.out.more (Nat.le_max_right _ _)) X1 HX1.out)
  have Q2 := Lib.hid (cost_quiet (some ⟨gb, 286, none⟩) A2 30 30 n2 c2 (max (gb + 1) Bb) _ l2 (by simp) N2.out (by omega) hn2 M2.out K2.out w2 ((SP.out w2 gb 286 30 (by omega) WB2.out).more (Nat.le_max_left _ _)) (SB.out.more (Nat.le_max_right _ _)) X2 HX2.out)
  have QL : Hid (∀ j, Calls Try.prog 18 #[.pointer (some ⟨gw, 0, none⟩)] (w2.drewN j) fun e w'' => e = .returned (.int .i64 3) ∧ ∃ k, w'' = w2.drewN k) := Lib.hid (len_quiet gw gw sv2 _ w2 P1.out 3 (by simp [headB_length]))
  go_wp2_with fail
  refine wp_region_held_drew (S := (fun W => ∃ m, W = w2.drewN m)) (by kernel_rfl) ⟨1, rfl⟩ (fun hHeld => ?_)
  refine wpAnyH_take (i := 0) (oi := ⟨some 9, _, _, _, _, _⟩) (v := ?v0) rfl (by kernel_rfl) (by kernel_rfl) (by kernel_rfl) (fun _ _ _ h => h) (Or.inl ⟨by rfl, ?hy0⟩) (by assumption) ?rest0
  case hy0 => intro W hSW; go_simp; try rfl
  try simp only [Act.put, List.setIfInBounds_toArray, List.set_cons_zero, List.set_cons_succ]
  refine wpAnyH_take (i := 2) (oi := ⟨some 11, _, _, _, _, _⟩) (v := ?v2) rfl (by kernel_rfl) (by kernel_rfl) (by kernel_rfl) (fun _ _ _ h => h) (Or.inl ⟨by rfl, ?hy2⟩) (by assumption) ?rest2
  case hy2 => intro W hSW; go_simp; try rfl
  try simp only [Act.put, List.setIfInBounds_toArray, List.set_cons_zero, List.set_cons_succ]
  refine wpAnyH_take (i := 3) (oi := ⟨some 12, _, _, _, _, _⟩) (v := ?v3) rfl (by kernel_rfl) (by kernel_rfl) (by kernel_rfl) (fun _ _ _ h => h) (Or.inl ⟨by rfl, ?hy3⟩) (by assumption) ?rest3
  case hy3 => intro W hSW; go_simp; try rfl
  try simp only [Act.put, List.setIfInBounds_toArray, List.set_cons_zero, List.set_cons_succ]
  refine wpAnyH_take (i := 4) (oi := ⟨some 13, _, _, _, _, _⟩) (v := ?v4) rfl (by kernel_rfl) (by kernel_rfl) (by kernel_rfl) (fun _ _ _ h => h) (Or.inl ⟨by rfl, ?hy4⟩) (by assumption) ?rest4
  case hy4 => intro W hSW; obtain ⟨m, rfl⟩ := hSW; have q1 : (w2.drewN m).cell? ⟨gb, 317, none⟩ = some (.slice A1 n1 c1) := c1'; have q2 : (w2.drewN m).cell? ⟨gb, 318, none⟩ = some (.slice A2 n2 c2) := c2'; have q3 : (w2.drewN m).cell? ⟨gb, 316, none⟩ = some (.int .i64 ad) := c3'; go_simp; try rfl
  try simp only [Act.put, List.setIfInBounds_toArray, List.set_cons_zero, List.set_cons_succ]
  refine wpAnyH_take (i := 6) (oi := ⟨some 15, _, _, _, _, _⟩) (v := ?v6) rfl (by kernel_rfl) (by kernel_rfl) (by kernel_rfl) (fun _ _ _ h => h) (Or.inl ⟨by rfl, ?hy6⟩) (by assumption) ?rest6
  case hy6 => intro W hSW; go_simp; try rfl
  try simp only [Act.put, List.setIfInBounds_toArray, List.set_cons_zero, List.set_cons_succ]
  refine wpAnyH_take (i := 7) (oi := ⟨some 16, _, _, _, _, _⟩) (v := ?v7) rfl (by kernel_rfl) (by kernel_rfl) (by kernel_rfl) (fun _ _ _ h => h) (Or.inl ⟨by rfl, ?hy7⟩) (by assumption) ?rest7
  case hy7 => intro W hSW; go_simp; try rfl
  try simp only [Act.put, List.setIfInBounds_toArray, List.set_cons_zero, List.set_cons_succ]
  refine wpAnyH_take (i := 8) (oi := ⟨some 17, _, _, _, _, _⟩) (v := ?v8) rfl (by kernel_rfl) (by kernel_rfl) (by kernel_rfl) (fun _ _ _ h => h) (Or.inl ⟨by rfl, ?hy8⟩) (by assumption) ?rest8
  case hy8 => intro W hSW; go_simp; try rfl
  try simp only [Act.put, List.setIfInBounds_toArray, List.set_cons_zero, List.set_cons_succ]
  refine wpAnyH_take (i := 9) (oi := ⟨some 18, _, _, _, _, _⟩) (v := ?v9) rfl (by kernel_rfl) (by kernel_rfl) (by kernel_rfl) (fun _ _ _ h => h) (Or.inl ⟨by rfl, ?hy9⟩) (by assumption) ?rest9
  case hy9 => intro W hSW; go_simp; try rfl
  try simp only [Act.put, List.setIfInBounds_toArray, List.set_cons_zero, List.set_cons_succ]
  refine wpAnyH_take (i := 10) (oi := ⟨some 19, _, _, _, _, _⟩) (v := ?v10) rfl (by kernel_rfl) (by kernel_rfl) (by kernel_rfl) (fun _ _ _ h => h) (Or.inl ⟨by rfl, ?hy10⟩) (by assumption) ?rest10
  case hy10 => intro W hSW; obtain ⟨m, rfl⟩ := hSW; have q1 : (w2.drewN m).cell? ⟨gb, 317, none⟩ = some (.slice A1 n1 c1) := c1'; have q2 : (w2.drewN m).cell? ⟨gb, 318, none⟩ = some (.slice A2 n2 c2) := c2'; have q3 : (w2.drewN m).cell? ⟨gb, 316, none⟩ = some (.int .i64 ad) := c3'; go_simp; try rfl
  try simp only [Act.put, List.setIfInBounds_toArray, List.set_cons_zero, List.set_cons_succ]
  refine wpAnyH_take (i := 13) (oi := ⟨some 22, _, _, _, _, _⟩) (v := ?v13) rfl (by kernel_rfl) (by kernel_rfl) (by kernel_rfl) (fun _ _ _ h => h) (Or.inl ⟨by rfl, ?hy13⟩) (by assumption) ?rest13
  case hy13 => intro W hSW; go_simp; try rfl
  try simp only [Act.put, List.setIfInBounds_toArray, List.set_cons_zero, List.set_cons_succ]
  refine wpAnyH_take (i := 14) (oi := ⟨some 23, _, _, _, _, _⟩) (v := ?v14) rfl (by kernel_rfl) (by kernel_rfl) (by kernel_rfl) (fun _ _ _ h => h) (Or.inl ⟨by rfl, ?hy14⟩) (by assumption) ?rest14
  case hy14 => intro W hSW; go_simp; try rfl
  try simp only [Act.put, List.setIfInBounds_toArray, List.set_cons_zero, List.set_cons_succ]
  refine wpAnyH_take (i := 15) (oi := ⟨some 24, _, _, _, _, _⟩) (v := ?v15) rfl (by kernel_rfl) (by kernel_rfl) (by kernel_rfl) (fun _ _ _ h => h) (Or.inl ⟨by rfl, ?hy15⟩) (by assumption) ?rest15
  case hy15 => intro W hSW; go_simp; try rfl
  try simp only [Act.put, List.setIfInBounds_toArray, List.set_cons_zero, List.set_cons_succ]
  refine wpAnyH_take (i := 16) (oi := ⟨some 25, _, _, _, _, _⟩) (v := ?v16) rfl (by kernel_rfl) (by kernel_rfl) (by kernel_rfl) (fun _ _ _ h => h) (Or.inl ⟨by rfl, ?hy16⟩) (by assumption) ?rest16
  case hy16 => intro W hSW; go_simp; try rfl
  try simp only [Act.put, List.setIfInBounds_toArray, List.set_cons_zero, List.set_cons_succ]
  refine wpAnyH_take (i := 17) (oi := ⟨some 26, _, _, _, _, _⟩) (v := ?v17) rfl (by kernel_rfl) (by kernel_rfl) (by kernel_rfl) (fun _ _ _ h => h) (Or.inl ⟨by rfl, ?hy17⟩) (by assumption) ?rest17
  case hy17 => intro W hSW; obtain ⟨m, rfl⟩ := hSW; have q1 : (w2.drewN m).cell? ⟨gb, 317, none⟩ = some (.slice A1 n1 c1) := c1'; have q2 : (w2.drewN m).cell? ⟨gb, 318, none⟩ = some (.slice A2 n2 c2) := c2'; have q3 : (w2.drewN m).cell? ⟨gb, 316, none⟩ = some (.int .i64 ad) := c3'; go_simp; try rfl
  try simp only [Act.put, List.setIfInBounds_toArray, List.set_cons_zero, List.set_cons_succ]
  refine wpAnyH_ready (rs := [1]) (by kernel_rfl) (by simp) ?_
  refine AllReadyH.cons (o := ⟨some 10, _, _, _, _, _⟩) rfl (fun K hK => ?_) AllReadyH.nil
  go_simp
  obtain ⟨m1, hm1⟩ := hHeld
  have cq1 := QL.out m1
  rw [← hm1] at cq1
  refine cq1.mono ?_
  rintro e w31 ⟨rfl, hd1⟩
  clear cq1
  refine hK.out _ _ ?_ (fun hHeld2 => ?_)
  · exact hd1
  clear hK K
  have hHeld := hHeld2; clear hHeld2
  try simp only [Act.put, List.setIfInBounds_toArray, List.set_cons_zero, List.set_cons_succ]
  refine wpAnyH_take (i := 5) (oi := ⟨some 14, _, _, _, _, _⟩) (v := ?v5) rfl (by kernel_rfl) (by kernel_rfl) (by kernel_rfl) (fun _ _ _ h => h) (Or.inl ⟨by rfl, ?hy5⟩) (by assumption) ?rest5
  case hy5 => intro W hSW; go_simp; try rfl
  try simp only [Act.put, List.setIfInBounds_toArray, List.set_cons_zero, List.set_cons_succ]
  refine wpAnyH_ready (rs := [11]) (by kernel_rfl) (by simp) ?_
  refine AllReadyH.cons (o := ⟨some 20, _, _, _, _, _⟩) rfl (fun K hK => ?_) AllReadyH.nil
  go_simp
  obtain ⟨m2, hm2⟩ := hHeld
  have cq2 := Q1.out m2
  rw [← hm2] at cq2
  refine cq2.mono ?_
  rintro e w32 ⟨rfl, hd2⟩
  clear cq2
  refine hK.out _ _ ?_ (fun hHeld2 => ?_)
  · exact hd2
  clear hK K
  have hHeld := hHeld2; clear hHeld2
  try simp only [Act.put, List.setIfInBounds_toArray, List.set_cons_zero, List.set_cons_succ]
  refine wpAnyH_take (i := 12) (oi := ⟨some 21, _, _, _, _, _⟩) (v := ?v12) rfl (by kernel_rfl) (by kernel_rfl) (by kernel_rfl) (fun _ _ _ h => h) (Or.inl ⟨by rfl, ?hy12⟩) (by assumption) ?rest12
  case hy12 => intro W hSW; go_simp; try rfl
  try simp only [Act.put, List.setIfInBounds_toArray, List.set_cons_zero, List.set_cons_succ]
  refine wpAnyH_ready (rs := [18]) (by kernel_rfl) (by simp) ?_
  refine AllReadyH.cons (o := ⟨some 27, _, _, _, _, _⟩) rfl (fun K hK => ?_) AllReadyH.nil
  go_simp
  obtain ⟨m3, hm3⟩ := hHeld
  have cq3 := Q2.out m3
  rw [← hm3] at cq3
  refine cq3.mono ?_
  rintro e w33 ⟨rfl, hd3⟩
  clear cq3
  refine hK.out _ _ ?_ (fun hHeld2 => ?_)
  · exact hd3
  clear hK K
  have hHeld := hHeld2; clear hHeld2
  try simp only [Act.put, List.setIfInBounds_toArray, List.set_cons_zero, List.set_cons_succ]
  refine wpAnyH_take (i := 19) (oi := ⟨some 28, _, _, _, _, _⟩) (v := ?v19) rfl (by kernel_rfl) (by kernel_rfl) (by kernel_rfl) (fun _ _ _ h => h) (Or.inl ⟨by rfl, ?hy19⟩) (by assumption) ?rest19
  case hy19 => intro W hSW; go_simp; try rfl
  try simp only [Act.put, List.setIfInBounds_toArray, List.set_cons_zero, List.set_cons_succ]
  refine wpAnyH_take (i := 20) (oi := ⟨some 2, _, _, _, _, _⟩) (v := ?v20) rfl (by kernel_rfl) (by kernel_rfl) (by kernel_rfl) (fun _ _ _ h => h) (Or.inl ⟨by rfl, ?hy20⟩) (by assumption) ?rest20
  case hy20 => intro W hSW; go_simp; try rfl
  try simp only [Act.put, List.setIfInBounds_toArray, List.set_cons_zero, List.set_cons_succ]
  refine wpAnyH_done (by kernel_rfl) ?_ _
  obtain ⟨mf, rfl⟩ := hHeld
  go_wp2_with fail
  go_ret
  have V1 : IntKind.i64.wrap (3 + ad) = 3 + ad := IntWalk.i64_in _ (by omega)
  have V2 : IntKind.i64.wrap (3 + ad + X1) = 3 + ad + X1 := IntWalk.i64_in _ (by omega)
  have V3 : IntKind.i64.wrap (3 + ad + X1 + X2) = 3 + ad + X1 + X2 := IntWalk.i64_in _ (by omega)
  refine ⟨?_, below_drewN BB2.out _⟩
  rw [← HV.out]
  show Ending.returned (.int .i64 (IntKind.i64.wrap (IntKind.i64.wrap (IntKind.i64.wrap (3 + ad) + X1) + X2))) = _
  rw [V1, V2, V3]

theorem kind_fix1 : kindOf ((List.range 288).map fixS) ≠ 0 := by decide +kernel
theorem kind_fix2 : kindOf ((List.range 32).map fun _ => (5 : Int)) ≠ 0 := by decide +kernel
theorem len_fix : len ((List.range 288).map fixS) 256 ≠ 0 := by decide +kernel
theorem word_fix : headB 1 true ++ wb ((List.range 288).map fixS) 256 = [true, true, false, false, false, false, false, false, false, false] := by decide +kernel
theorem cost_fix1 : costK ((List.range 286).map fun i => cnt0 (0 + i)) ((List.range 288).map fixS) (min 286 288) = 7 := by decide +kernel
theorem cost_fix2 : costK ((List.range 30).map fun i => cnt0 (286 + i)) ((List.range 32).map fun _ => (5 : Int)) (min 30 32) = 0 := by decide +kernel
theorem fixS_le (i : Nat) : 0 ≤ fixS i ∧ fixS i ≤ 16 := by
  unfold fixS
  repeat (first | omega | split)
theorem cnt0_le (i : Nat) : 0 ≤ cnt0 i ∧ cnt0 i ≤ 65536 := by
  unfold cnt0
  split <;> omega

theorem lens_whole {w : World} {g : Nat} {t : TypeId} {n : Nat} {f : Nat → Int} (h : Whole w g t (rz n f)) (h1 : t ≠ 51) (h2 : t ≠ 5) : Lens w (some ⟨g, 0, none⟩) n n ((List.range n).map f) :=
  fun W hW => ⟨W.heap.size, Nat.le_refl _, (seen_rz (h.tw hW h1 h2)).more (by have := (h.tw hW h1 h2).lt; omega)⟩
end Go.Proofs.Ytnnpiblnjflceaa
