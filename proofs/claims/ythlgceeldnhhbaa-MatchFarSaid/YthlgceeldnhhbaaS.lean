/-
  The contract of hang: a place is put to its chain. Conditions: the chains stand as told (ChAt), their things are where they should be (Kx.Good).
-/
import Derived.Test.YthlgceeldnhhbaaR
import Derived.Deep.RegionHeld3
namespace Go.Proofs.Ythlgceeldnhhbaa
open Go.RowKit
set_option maxRecDepth 100000

theorem MapAt.more {w : World} {M h h' : Nat} (hm : MapAt w M h) (hh : h ≤ h') : MapAt w M h' := by
  obtain ⟨es, clock, hb, F, hs⟩ := hm
  exact ⟨es, clock, hb, (F.stay (R' := RH h') (fun _ _ _ hz => RH_more hh hz)).1, by omega⟩
theorem ChAt.more {k : Kx} {w : World} {h h' : Nat} (H : ChAt k w h) (hh : h ≤ h') : ChAt k w h' := by
  obtain ⟨zs, h1, h2, h3⟩ := H.ah
  exact ⟨H.ch, H.mp.more hh, ⟨zs, h1, fun z hz => by have := h2 z hz; omega, h3⟩, H.seen, H.size⟩

theorem hang_no {k : Kx} (G : k.Good) (a : Nat) (ha : k.n < a + 3) (ha2 : a ≤ 200000) (w : World) (H : ChAt k w a) : Calls Try.prog 21 #[.pointer (some ⟨k.C, 0, none⟩), .int .i64 a] w (Kept k (a + 1) w) := by
  have C1 := Lib.hid (beginning_no G a a ha ha2 w H)
  have HH := Lib.hid H; clear H
  go_enter Try.func21, Try.ntmps21
  go_wp2_with fail
  refine (C1.out).mono ?_; rintro e w1 ⟨rfl, hb1⟩; have B1 := Lib.hid hb1; clear hb1
  go_wp2_with fail
  refine bodyPost_ret (results_none rfl _ _ _) rfl ?_
  have hB := B1.out.alloc B1.out.size (.cells #[.int .u8 0, .int .u8 0, .int .u8 0] 50)
  exact ⟨rfl, (HH.out.below hB).more (by omega), Only.of_below hB _⟩

theorem drop_all {k : Kx} (G : k.Good) (h a : Nat) (ha : a + 3 ≤ k.n) (w : World) (H : ChAt k w h) : Calls Try.prog 25 #[.pointer (some ⟨k.C, 0, none⟩), .int .i64 ((a : Int) - 32768)] w (Kept k h w) := by
  by_cases hx : (a : Int) - 32768 < 0
  · exact drop_no h _ hx w H
  · obtain ⟨p, hp⟩ := Int.eq_ofNat_of_zero_le (show 0 ≤ (a : Int) - 32768 by omega)
    rw [hp]
    exact drop_yes G h p (by omega) w H

/-- A place's number is written into the row. -/
theorem ChAt.put {k : Kx} {w : World} {h q : Nat} (G : k.Good) (H : ChAt k w h) {p : Int} (h1 : -1 ≤ p) (h2 : p < h) : ChAt k (w.setCell ⟨k.g, q, none⟩ (.int .i64 p)) h ∧ Only (fun i => i = k.M ∨ i = k.g) w (w.setCell ⟨k.g, q, none⟩ (.int .i64 p)) := by
  obtain ⟨zs, z1, z2, z3⟩ := H.ah
  have hO : Only (fun i => i = k.g) w (w.setCell ⟨k.g, q, none⟩ (.int .i64 p)) := (Only.refl (fun i => i = k.g) w).setCell (p := ⟨k.g, q, none⟩) (.inl rfl) _
  refine ⟨⟨H.ch.only hO (H.ch.ne z3 (by decide)), H.mp.only hO (H.mp.ne z3), ⟨zs.set q p, by simpa using z1, ?_, ?_⟩, H.seen.only hO H.size (fun i hi e => by have := G.g; omega), Nat.le_trans H.size hO.size⟩, hO.mono (fun i _ hi => .inr hi)⟩
  · intro z hz
    rcases List.mem_or_eq_of_mem_set hz with hz | rfl
    · exact z2 z hz
    · exact ⟨h1, .inl h2⟩
  · have := z3.put q (.int .i64 p)
    simpa [iz, List.map_set] using this
theorem ChAt.cellQ {k : Kx} {w : World} {h q : Nat} (H : ChAt k w h) (hq : q < k.L) : ∃ z : Int, -1 ≤ z ∧ (z < h ∨ z = 0) ∧ w.cell? ⟨k.g, q, none⟩ = some (.int .i64 z) ∧ w.frozen? ⟨k.g, q, none⟩ = false := by
  obtain ⟨zs, z1, z2, z3⟩ := H.ah
  have hl : q < zs.length := by omega
  refine ⟨zs[q], (z2 _ (List.getElem_mem hl)).1, (z2 _ (List.getElem_mem hl)).2, ?_, z3.frozen q⟩
  rw [z3.cell q]
  simp [iz, hl]

set_option maxHeartbeats 2000000 in
theorem hang_yes {k : Kx} (G : k.Good) (a : Nat) (ha : a + 3 ≤ k.n) (w : World) (H : ChAt k w a) : Calls Try.prog 21 #[.pointer (some ⟨k.C, 0, none⟩), .int .i64 a] w (Kept k (a + 1) w) := by
  have C1 := Lib.hid (beginning_yes G a a ha w H)
  have hnl := G.long
  have hL := G.L
  obtain ⟨kl, hkl⟩ := key_at G.bytes a
  have HKL := Lib.hid hkl
  have HG := Lib.hid G
  unfold three at C1 HKL hkl
  obtain ⟨y0, e0⟩ : ∃ y, k.bs.getD a 0 = y := ⟨_, rfl⟩
  obtain ⟨y1, e1⟩ : ∃ y, k.bs.getD (a + 1) 0 = y := ⟨_, rfl⟩
  obtain ⟨y2, e2⟩ : ∃ y, k.bs.getD (a + 2) 0 = y := ⟨_, rfl⟩
  rw [e0, e1, e2] at C1 HKL
  clear e0 e1 e2 hkl G
  have HH := Lib.hid H; clear H
  obtain ⟨L, hLe⟩ : ∃ L, k.L = L := ⟨_, rfl⟩
  have HLE := Lib.hid hLe
  rw [hLe] at hL
  obtain ⟨q, hq⟩ : ∃ q, a % L = q := ⟨_, rfl⟩
  have hqL : q < L := by rw [← hq]; exact Nat.mod_lt _ (by omega)
  have hqa : q ≤ a := by rw [← hq]; exact Nat.mod_le _ _
  have eq1 : (a : Int).tmod L = q := by rw [Int.tmod_eq_emod_of_nonneg (by omega)]; omega
  have eq2 : (a : Int) % L = q := by omega
  have L0 : (L : Int) ≠ 0 := by omega
  have L0' : ((L : Int) == 0) = false := by simpa using L0
  have L0'' : L ≠ 0 := by omega
  have q0 : (0 : Int) ≤ q := by omega
  have q1 : (q : Int) < L := by omega
  have wq : IntKind.i64.wrap (q : Int) = q := IntWalk.i64_in _ (by omega)
  have hLs : L ≤ 32768 := by omega
  clear hLe hq hL
  go_enter Try.func21, Try.ntmps21
  go_wp2_with fail
  refine (C1.out).mono ?_; rintro e w1 ⟨rfl, hb1⟩
  have hC1 := HH.out.below hb1
  have hW := Whole.new w1 50 #[.int .u8 y0, .int .u8 y1, .int .u8 y2]
  have hC2 := hC1.alloc (.cells #[.int .u8 y0, .int .u8 y1, .int .u8 y2] 50)
  have hB2 := hb1.alloc hb1.size (.cells #[.int .u8 y0, .int .u8 y1, .int .u8 y2] 50)
  have HW := Lib.hid hW; have HC2 := Lib.hid hC2; have HB2 := Lib.hid hB2
  clear hb1 hC1 hW hC2 hB2
  go_wp2_with fail
  refine (drop_all HG.out a a ha _ HC2.out).mono ?_
  rintro e w3 ⟨rfl, hC3, hO3⟩
  have hM := HC2.out.mp.ne HW.out
  have hg : w1.heap.size ≠ k.g := by
    obtain ⟨zs, _, _, z3⟩ := HC2.out.ah
    exact HW.out.ne z3 (by decide)
  have hW3 := HW.out.only hO3 (fun e => e.elim (fun e => hM e.symm) hg)
  have HC3 := Lib.hid hC3
  have HO3 := Lib.hid ((Only.of_below HB2.out (fun i => i = k.M ∨ i = k.g)).trans hO3)
  obtain ⟨g1, hg1⟩ : ∃ g, w1.heap.size = g := ⟨_, rfl⟩
  rw [hg1] at hW3 hM hg
  have HW3 := Lib.hid hW3
  have HM := Lib.hid hM; have HGG := Lib.hid hg
  clear hC3 hO3 hW3 HW HC2 HB2 hM hg C1 HH
  go_wp2_with fail
  have CN := Lib.hid (fun W (h : ChAt k W a) => newest_any HG.out a a (by omega) W h)
  have c2w := HC3.out.c2
  rw [HLE.out] at c2w
  refine wp_region_held_drew (S := (fun W => ChAt k W a ∧ Only (fun i => i = k.M ∨ i = k.g) w3.drew W)) (by kernel_rfl) ⟨HC3.out.drewN 1, Only.refl _ _⟩ (fun hHeld => ?_)
  refine wpAnyH_take (i := 0) (oi := ⟨some 18, _, _, _, _, _⟩) (v := ?v0) rfl (by kernel_rfl) (by kernel_rfl) (by kernel_rfl) (fun _ _ _ h => h) (Or.inl ⟨by rfl, ?hy0⟩) (by assumption) ?rest0
  case hy0 => intro W hSW; go_simp; try rfl
  try simp only [Act.put, List.setIfInBounds_toArray, List.set_cons_zero, List.set_cons_succ]
  refine wpAnyH_take (i := 1) (oi := ⟨some 19, _, _, _, _, _⟩) (v := ?v1) rfl (by kernel_rfl) (by kernel_rfl) (by kernel_rfl) (fun _ _ _ h => h) (Or.inl ⟨by rfl, ?hy1⟩) (by assumption) ?rest1
  case hy1 => intro W hSW; go_simp; try rfl
  try simp only [Act.put, List.setIfInBounds_toArray, List.set_cons_zero, List.set_cons_succ]
  refine wpAnyH_take (i := 2) (oi := ⟨some 20, _, _, _, _, _⟩) (v := ?v2) rfl (by kernel_rfl) (by kernel_rfl) (by kernel_rfl) (fun _ _ _ h => h) (Or.inl ⟨by rfl, ?hy2⟩) (by assumption) ?rest2
  case hy2 => intro W hSW; go_simp; try rfl
  try simp only [Act.put, List.setIfInBounds_toArray, List.set_cons_zero, List.set_cons_succ]
  refine wpAnyH_take (i := 3) (oi := ⟨some 21, _, _, _, _, _⟩) (v := ?v3) rfl (by kernel_rfl) (by kernel_rfl) (by kernel_rfl) (fun _ _ _ h => h) (Or.inl ⟨by rfl, ?hy3⟩) (by assumption) ?rest3
  case hy3 => intro W hSW; have c2 := hSW.1.c2; rw [HLE.out] at c2; go_simp; try rfl
  try simp only [Act.put, List.setIfInBounds_toArray, List.set_cons_zero, List.set_cons_succ]
  refine wpAnyH_take (i := 4) (oi := ⟨some 22, _, _, _, _, _⟩) (v := ?v4) rfl (by kernel_rfl) (by kernel_rfl) (by kernel_rfl) (fun _ _ _ h => h) (Or.inl ⟨by rfl, ?hy4⟩) (by assumption) ?rest4
  case hy4 => intro W hSW; go_simp; try rfl
  try simp only [Act.put, List.setIfInBounds_toArray, List.set_cons_zero, List.set_cons_succ]
  refine wpAnyH_take (i := 5) (oi := ⟨some 23, _, _, _, _, _⟩) (v := ?v5) rfl (by kernel_rfl) (by kernel_rfl) (by kernel_rfl) (fun _ _ _ h => h) (Or.inl ⟨by rfl, ?hy5⟩) (by assumption) ?rest5
  case hy5 => intro W hSW; go_simp; try rfl
  try simp only [Act.put, List.setIfInBounds_toArray, List.set_cons_zero, List.set_cons_succ]
  refine wpAnyH_take (i := 6) (oi := ⟨some 24, _, _, _, _, _⟩) (v := ?v6) rfl (by kernel_rfl) (by kernel_rfl) (by kernel_rfl) (fun _ _ _ h => h) (Or.inl ⟨by rfl, ?hy6⟩) (by assumption) ?rest6
  case hy6 => intro W hSW; go_simp; try rfl
  try simp only [Act.put, List.setIfInBounds_toArray, List.set_cons_zero, List.set_cons_succ]
  refine wpAnyH_take (i := 7) (oi := ⟨some 25, _, _, _, _, _⟩) (v := ?v7) rfl (by kernel_rfl) (by kernel_rfl) (by kernel_rfl) (fun _ _ _ h => h) (Or.inl ⟨by rfl, ?hy7⟩) (by assumption) ?rest7
  case hy7 => intro W hSW; go_simp; try rfl
  try simp only [Act.put, List.setIfInBounds_toArray, List.set_cons_zero, List.set_cons_succ]
  refine wpAnyH_take (i := 8) (oi := ⟨some 26, _, _, _, _, _⟩) (v := ?v8) rfl (by kernel_rfl) (by kernel_rfl) (by kernel_rfl) (fun _ _ _ h => h) (Or.inl ⟨by rfl, ?hy8⟩) (by assumption) ?rest8
  case hy8 => intro W hSW; have c2 := hSW.1.c2; rw [HLE.out] at c2; go_simp; try rfl
  try simp only [Act.put, List.setIfInBounds_toArray, List.set_cons_zero, List.set_cons_succ]
  refine wpAnyH_take (i := 9) (oi := ⟨some 27, _, _, _, _, _⟩) (v := ?v9) rfl (by kernel_rfl) (by kernel_rfl) (by kernel_rfl) (fun _ _ _ h => h) (Or.inl ⟨by rfl, ?hy9⟩) (by assumption) ?rest9
  case hy9 => intro W hSW; go_simp; try rfl
  try simp only [Act.put, List.setIfInBounds_toArray, List.set_cons_zero, List.set_cons_succ]
  refine wpAnyH_take (i := 10) (oi := ⟨some 28, _, _, _, _, _⟩) (v := ?v10) rfl (by kernel_rfl) (by kernel_rfl) (by kernel_rfl) (fun _ _ _ h => h) (Or.inl ⟨by rfl, ?hy10⟩) (by assumption) ?rest10
  case hy10 => intro W hSW; go_simp; try rfl
  try simp only [Act.put, List.setIfInBounds_toArray, List.set_cons_zero, List.set_cons_succ]
  refine wpAnyH_take (i := 11) (oi := ⟨some 29, _, _, _, _, _⟩) (v := ?v11) rfl (by kernel_rfl) (by kernel_rfl) (by kernel_rfl) (fun _ _ _ h => h) (Or.inl ⟨by rfl, ?hy11⟩) (by assumption) ?rest11
  case hy11 => intro W hSW; go_simp; try rfl
  try simp only [Act.put, List.setIfInBounds_toArray, List.set_cons_zero, List.set_cons_succ]
  refine wpAnyH_take (i := 12) (oi := ⟨some 30, _, _, _, _, _⟩) (v := ?v12) rfl (by kernel_rfl) (by kernel_rfl) (by kernel_rfl) (fun _ _ _ h => h) (Or.inl ⟨by rfl, ?hy12⟩) (by assumption) ?rest12
  case hy12 => intro W hSW; go_simp; try rfl
  try simp only [Act.put, List.setIfInBounds_toArray, List.set_cons_zero, List.set_cons_succ]
  refine wpAnyH_ready (rs := [13]) (by kernel_rfl) (by simp) ?_
  refine AllReadyH.cons (o := ⟨some 31, _, _, _, _, _⟩) rfl (fun K hK => ?_) AllReadyH.nil
  go_simp
  refine (CN.out _ hHeld.1).mono ?_
  rintro e w4 ⟨p, hp1, hp2, rfl, hb4⟩
  have HB4 := Lib.hid hb4; clear hb4
  refine hK.out _ _ ?_ (fun hHeld2 => ?_)
  · exact ⟨hHeld.1.below HB4.out, hHeld.2.trans (Only.of_below HB4.out _)⟩
  clear hK K hHeld
  have hHeld := hHeld2; clear hHeld2
  try simp only [Act.put, List.setIfInBounds_toArray, List.set_cons_zero, List.set_cons_succ]
  refine wpAnyH_take (i := 14) (oi := ⟨some 32, _, _, _, _, _⟩) (v := ?v14) rfl (by kernel_rfl) (by kernel_rfl) (by kernel_rfl) (fun _ _ _ h => h) (Or.inl ⟨by rfl, ?hy14⟩) (by assumption) ?rest14
  case hy14 => intro W hSW; go_simp; try rfl
  try simp only [Act.put, List.setIfInBounds_toArray, List.set_cons_zero, List.set_cons_succ]
  obtain ⟨zq, _, _, cq, fq⟩ := (hHeld.1).cellQ (q := q) (by rw [HLE.out]; exact hqL)
  refine wpAnyH_ready (rs := [15]) (by kernel_rfl) (by simp) ?_
  refine AllReadyH.cons (o := ⟨none, _, _, _, _, _⟩) rfl (fun K hK => ?_) AllReadyH.nil
  go_simp
  refine hK.out _ _ ?_ (fun hHeld2 => ?_)
  · exact ⟨((hHeld.1).put HG.out hp1 hp2).1, hHeld.2.trans ((hHeld.1).put HG.out hp1 hp2).2⟩
  clear hK K hHeld
  have hHeld := hHeld2; clear hHeld2
  try simp only [Act.put, List.setIfInBounds_toArray, List.set_cons_zero, List.set_cons_succ]
  refine wpAnyH_done (by kernel_rfl) ?_ _
  go_wp2_with fail
  have hC5 := hHeld.1
  have hO5 := hHeld.2
  have hW5 := (Whole.drew HW3.out).only hO5 (fun e => e.elim (fun e => HM.out e.symm) HGG.out)
  have c1 := hC5.c1
  have v0 := hW5.cell 0
  have v1 := hW5.cell 1
  have v2 := hW5.cell 2
  simp only [List.getElem?_toArray, List.getElem?_cons_succ, List.getElem?_cons_zero] at v0 v1 v2
  have HC5 := Lib.hid hC5
  have HO5 := Lib.hid (HO3.out.drew.trans hO5)
  clear hC5 hO5 hW5 hHeld cq fq
  generalize w4.setCell ⟨k.g, q, none⟩ (.int .i64 p) = W at *
  obtain ⟨w6, hup, hm6, ho6⟩ := HC5.out.mp.drew.store (by simp only [maxLen]; omega) HKL.out (Nat.le_refl a)
  have HM6 := Lib.hid hm6; have HO6 := Lib.hid ho6
  clear hm6 ho6
  have hup' : (Instr.mapUpdate 46 (.map (some k.M)) (.agg #[.int .u8 y0, .int .u8 y1, .int .u8 y2]) (.int .i64 a)).run Try.prog { W with drawn := W.drawn + 1 } = .ok () w6 := hup
  refine wp_region_still_tail 6 (by kernel_rfl) (by kernel_rfl) ?_
  simp only [List.take_succ_cons, List.take_zero, List.drop_succ_cons, List.drop_zero]
  repeat still_step
  refine wpStill_nil ?_
  go_wp2_with fail
  go_end0
  exact ⟨rfl, ChAt.map HG.out (HC5.out.drewN 1) (by omega) HM6.out HO6.out, HO5.out.drew.trans (HO6.out.mono (fun i _ hi => .inl hi))⟩

theorem hang_any {k : Kx} (G : k.Good) (a : Nat) (ha2 : a ≤ 200000) (w : World) (H : ChAt k w a) : Calls Try.prog 21 #[.pointer (some ⟨k.C, 0, none⟩), .int .i64 a] w (Kept k (a + 1) w) := by
  by_cases ha : a + 3 ≤ k.n
  · exact hang_yes G a ha w H
  · exact hang_no G a (by omega) ha2 w H
end Go.Proofs.Ythlgceeldnhhbaa
