/-
  The document's bytes of records: put, flags. Conditions: numbers of 2 or 4 bytes.
-/
import Derived.Test.YtplilajgncfieaaRE
import Derived.Test.YtplilajgncfieaaC2
namespace Go.Proofs.Ytplilajgncfieaa
open Go.RowKit
set_option maxRecDepth 100000

/-- Sizes and numbers, in turn. -/
def fl (ps : List (Nat × Int)) : List Int := ps.flatMap fun p => [(p.1 : Int), p.2]
/-- Their bytes. -/
def pairsL (ps : List (Nat × Int)) : List Nat := ps.flatMap fun p => leb (u64 p.2) p.1
theorem fl_length (ps : List (Nat × Int)) : (fl ps).length = 2 * ps.length := by
  induction ps with
  | nil => rfl
  | cons p l ih => simp only [fl, List.flatMap_cons, List.length_append, List.length_cons, List.length_nil] at ih ⊢; omega
theorem fl_get (ps : List (Nat × Int)) (j : Nat) (h : j < ps.length) : (fl ps)[2 * j]? = some (ps[j].1 : Int) ∧ (fl ps)[2 * j + 1]? = some ps[j].2 := by
  induction ps generalizing j with
  | nil => simp at h
  | cons p l ih =>
    cases j with
    | zero => exact ⟨rfl, rfl⟩
    | succ j =>
      have hj : j < l.length := by simpa using h
      obtain ⟨h1, h2⟩ := ih j hj
      have e : fl (p :: l) = (p.1 : Int) :: p.2 :: fl l := rfl
      rw [e, show 2 * (j + 1) = 2 * j + 1 + 1 by omega]
      simpa using ⟨h1, h2⟩
theorem pairsL_take (ps : List (Nat × Int)) (j : Nat) (h : j < ps.length) : pairsL (ps.take (j + 1)) = pairsL (ps.take j) ++ leb (u64 ps[j].2) ps[j].1 := by
  unfold pairsL
  rw [List.take_succ_eq_append_getElem h, List.flatMap_append]
  simp
theorem pairsL_le (ps : List (Nat × Int)) (h : ∀ p ∈ ps, p.1 = 2 ∨ p.1 = 4) : (pairsL ps).length ≤ 4 * ps.length := by
  induction ps with
  | nil => simp [pairsL]
  | cons p l ih =>
    have h1 := ih (fun q hq => h q (by simp [hq]))
    have h2 := h p (by simp)
    simp only [pairsL, List.flatMap_cons, List.length_append, leb_length, List.length_cons] at h1 ⊢
    omega

theorem wide24 {k : Nat} (h : k = 2 ∨ k = 4) : Wide (k : Int) := by
  rcases h with rfl | rfl
  · exact .inr (.inl rfl)
  · exact .inr (.inr (.inl rfl))

theorem refFlags_any (b : Bool) (w : World) : Calls Try.prog 30 #[.bool b] w fun e w' => e = .returned (.int .i64 (flagN b)) ∧ w = w' := by
  cases b
  all_goals
    go_enter Try.func30, Try.ntmps30
    go_wp2
    go_ret
    exact ⟨rfl, rfl⟩

set_option linter.unusedSimpArgs false in
set_option maxHeartbeats 2000000 in
theorem refPut_any (An : Option Addr) (cN Bn m2 : Nat) (ps : List (Nat × Int)) (hps : ∀ p ∈ ps, p.1 = 2 ∨ p.1 = 4) (hm : 2 * ps.length = m2) (hle : m2 ≤ 100) (w : World) (hN : Seen w Bn 1 An m2 cN (iv (fl ps))) (hBn : Bn ≤ w.heap.size) (L : List Nat) (hL : pairsL ps = L) (n : Nat) (hn : L.length = n) :
    Calls Try.prog 29 #[.slice An m2 cN] w (GivesRow w 5 1 n (bv L)) := by
  have HN := Lib.hid (hN.more hBn); clear hN hBn Bn
  have HPS := Lib.hid hps; clear hps
  have HL := Lib.hid hL; have HLN := Lib.hid hn; clear hL hn
  obtain ⟨m, hm'⟩ : ∃ m, ps.length = m := ⟨_, rfl⟩
  rw [hm'] at hm
  have HM := Lib.hid hm'; clear hm'
  go_enter Try.func29, Try.ntmps29
  go_wp2_with fail
  go_loopw [3, 4] (fun s i wr => ∃ j q : Nat, j ≤ m ∧ 2 * j = q ∧ i = .int .i64 q ∧ Below w.heap.size w wr ∧ wr.ownsRow w.heap.size 5 1 s (pairsL (ps.take j)).length (bv (pairsL (ps.take j)))) (fun _ i _ => m2 - (intOf i).toNat)
  case atStart => exact ⟨0, 0, Nat.zero_le _, rfl, rfl, Below.refl _ _, World.ownsRow_nil _ _ _ _⟩
  case round =>
    obtain ⟨j, q, hj, hq, rfl, hbel, hown⟩ := hrel
    by_cases hlt : j < m
    · have hjl : j < ps.length := by rw [HM.out]; exact hlt
      obtain ⟨b, o, u, rfl, hbk, hu, hcell⟩ := (HN.out.below hbel).at (k := q) (by omega)
      obtain ⟨q1, hq1⟩ : ∃ q1, q + 1 = q1 := ⟨_, rfl⟩
      obtain ⟨b', o', u', hA, hbk', hu', hcell'⟩ := (HN.out.below hbel).at (k := q1) (by omega)
      obtain ⟨rfl, rfl⟩ : b = b' ∧ o = o' := by injection hA with hA; injection hA with h1 h2; exact ⟨h1, h2⟩
      obtain ⟨g1, g2⟩ := fl_get ps j hjl
      rw [hq] at g1 g2
      rw [hq1] at g2
      have hu1 : u = .int .i64 (ps[j].1 : Nat) := by simp only [iv, List.getElem?_map, g1, Option.map_some] at hu; exact (Option.some.inj hu).symm
      have hu2 : u' = .int .i64 ps[j].2 := by simp only [iv, List.getElem?_map, g2, Option.map_some] at hu'; exact (Option.some.inj hu').symm
      subst hu1 hu2
      clear hu hu' g1 g2 hA hbk'
      have ht := Lib.hid (pairsL_take ps j hjl)
      have hk := Lib.hid (HPS.out ps[j] (List.getElem_mem _))
      have hlen := pairsL_le (ps.take j) (fun p hp => HPS.out p (List.mem_of_mem_take hp))
      rw [List.length_take, HM.out, Nat.min_eq_left hj] at hlen
      generalize ps[j] = y at *
      obtain ⟨k, z⟩ := y
      simp only at hcell hcell' ht hk
      have hk8 : k ≤ 8 := by have := hk.out; omega
      have hc := u64_wrap z
      obtain ⟨A', c', rfl, hc', hseen⟩ := own_seen hown
      have hW : Wide (k : Int) := wide24 hk.out
      have LR := Lib.hid (fun W hs => refLittle_go A' c' wr.heap.size (pairsL (ps.take j)) W hs)
      obtain ⟨ws, hws⟩ : ∃ ws, pairsL (ps.take j) = ws := ⟨_, rfl⟩
      rw [hws] at hlen hseen ht LR ⊢
      have HLR : Hid (∀ W, Below wr.heap.size wr W → Calls Try.prog 47 #[.slice A' ws.length c', .int .u64 (u64 z), .int .i64 k] W (GivesRow W 5 1 (ws.length + k) (bv (ws ++ leb (u64 z) k)))) := Lib.hid (fun W hb => LR.out W (hseen.below hb) hb.size (by omega) (u64 z) (u64_lt z) k hk8 k (.inl ⟨hW, rfl⟩))
      clear LR hseen hown hc' hk hW hlen hws
      have hBE := Lib.hid hbel; clear hbel
      have e1 : ((q : Int) + 1) = (q1 : Int) := by omega
      have w1 : IntKind.i64.wrap (q1 : Int) = (q1 : Int) := nat_wrap64 (by omega)
      have w2 : IntKind.i64.wrap ((q : Int) + 2) = (q : Int) + 2 := IntWalk.i64_in _ (by omega)
      have hj2 : decide ((q : Int) < (m2 : Int)) = true := by simp; omega
      have hbw : b < wr.heap.size := Nat.lt_of_lt_of_le hbk hBE.out.size
      have qa : (0 : Int) ≤ q1 := by omega
      have qb : (q1 : Int) < m2 := by omega
      have qc : (0 : Int) ≤ q := by omega
      have qd : (q : Int) < m2 := by omega
      go_upto_region 5 with fail
      refine wp_region_held_drew (S := (fun W => Below wr.heap.size wr W)) (by kernel_rfl) (Below.refl _ _).drew (fun hHeld => ?_)
      have hHeld0 := hHeld
      generalize hwd : wr.drew = wd at *
      clear hwd hHeld0
      refine wpAnyH_take (i := 0) (oi := ⟨some 11, _, _, _, _, _⟩) (v := ?v0_1) rfl (by kernel_rfl) (by kernel_rfl) (by kernel_rfl) (fun _ _ _ h => h) (Or.inl ⟨by rfl, ?hy0_1⟩) (by assumption) ?rest0_1
      case hy0_1 => intro W hSW; go_simp; try rfl
      try simp only [Act.put, List.setIfInBounds_toArray, List.set_cons_zero, List.set_cons_succ]
      refine wpAnyH_take (i := 1) (oi := ⟨some 12, _, _, _, _, _⟩) (v := ?v1_2) rfl (by kernel_rfl) (by kernel_rfl) (by kernel_rfl) (fun _ _ _ h => h) (Or.inl ⟨by rfl, ?hy1_2⟩) (by assumption) ?rest1_2
      case hy1_2 => intro W hSW; go_simp; try rfl
      try simp only [Act.put, List.setIfInBounds_toArray, List.set_cons_zero, List.set_cons_succ]
      refine wpAnyH_take (i := 2) (oi := ⟨some 13, _, _, _, _, _⟩) (v := ?v2_3) rfl (by kernel_rfl) (by kernel_rfl) (by kernel_rfl) (fun _ _ _ h => h) (Or.inl ⟨by rfl, ?hy2_3⟩) (by assumption) ?rest2_3
      case hy2_3 => intro W hSW; go_simp; try rfl
      try simp only [Act.put, List.setIfInBounds_toArray, List.set_cons_zero, List.set_cons_succ]
      refine wpAnyH_take (i := 3) (oi := ⟨some 14, _, _, _, _, _⟩) (v := ?v3_4) rfl (by kernel_rfl) (by kernel_rfl) (by kernel_rfl) (fun _ _ _ h => h) (Or.inl ⟨by rfl, ?hy3_4⟩) (by assumption) ?rest3_4
      case hy3_4 => intro W hSW; go_simp; try rfl
      try simp only [Act.put, List.setIfInBounds_toArray, List.set_cons_zero, List.set_cons_succ]
      refine wpAnyH_take (i := 4) (oi := ⟨some 15, _, _, _, _, _⟩) (v := ?v4_5) rfl (by kernel_rfl) (by kernel_rfl) (by kernel_rfl) (fun _ _ _ h => h) (Or.inl ⟨by rfl, ?hy4_5⟩) (by assumption) ?rest4_5
      case hy4_5 => intro W hSW; go_simp; try rfl
      try simp only [Act.put, List.setIfInBounds_toArray, List.set_cons_zero, List.set_cons_succ]
      refine wpAnyH_take (i := 5) (oi := ⟨some 16, _, _, _, _, _⟩) (v := ?v5_6) rfl (by kernel_rfl) (by kernel_rfl) (by kernel_rfl) (fun _ _ _ h => h) (Or.inl ⟨by rfl, ?hy5_6⟩) (by assumption) ?rest5_6
      case hy5_6 => intro W hSW; have k1 := (hSW.cell (p := ⟨b, o + q1, none⟩) hbw).trans hcell'; go_simp; try rfl
      try simp only [Act.put, List.setIfInBounds_toArray, List.set_cons_zero, List.set_cons_succ]
      refine wpAnyH_take (i := 6) (oi := ⟨some 17, _, _, _, _, _⟩) (v := ?v6_7) rfl (by kernel_rfl) (by kernel_rfl) (by kernel_rfl) (fun _ _ _ h => h) (Or.inl ⟨by rfl, ?hy6_7⟩) (by assumption) ?rest6_7
      case hy6_7 => intro W hSW; go_simp; try rfl
      try simp only [Act.put, List.setIfInBounds_toArray, List.set_cons_zero, List.set_cons_succ]
      refine wpAnyH_take (i := 7) (oi := ⟨some 18, _, _, _, _, _⟩) (v := ?v7_8) rfl (by kernel_rfl) (by kernel_rfl) (by kernel_rfl) (fun _ _ _ h => h) (Or.inl ⟨by rfl, ?hy7_8⟩) (by assumption) ?rest7_8
      case hy7_8 => intro W hSW; go_simp; try rfl
      try simp only [Act.put, List.setIfInBounds_toArray, List.set_cons_zero, List.set_cons_succ]
      refine wpAnyH_take (i := 8) (oi := ⟨some 19, _, _, _, _, _⟩) (v := ?v8_9) rfl (by kernel_rfl) (by kernel_rfl) (by kernel_rfl) (fun _ _ _ h => h) (Or.inl ⟨by rfl, ?hy8_9⟩) (by assumption) ?rest8_9
      case hy8_9 => intro W hSW; go_simp; try rfl
      try simp only [Act.put, List.setIfInBounds_toArray, List.set_cons_zero, List.set_cons_succ]
      refine wpAnyH_take (i := 9) (oi := ⟨some 20, _, _, _, _, _⟩) (v := ?v9_10) rfl (by kernel_rfl) (by kernel_rfl) (by kernel_rfl) (fun _ _ _ h => h) (Or.inl ⟨by rfl, ?hy9_10⟩) (by assumption) ?rest9_10
      case hy9_10 => intro W hSW; go_simp; try rfl
      try simp only [Act.put, List.setIfInBounds_toArray, List.set_cons_zero, List.set_cons_succ]
      refine wpAnyH_take (i := 10) (oi := ⟨some 21, _, _, _, _, _⟩) (v := ?v10_11) rfl (by kernel_rfl) (by kernel_rfl) (by kernel_rfl) (fun _ _ _ h => h) (Or.inl ⟨by rfl, ?hy10_11⟩) (by assumption) ?rest10_11
      case hy10_11 => intro W hSW; have k1 := (hSW.cell (p := ⟨b, o + q, none⟩) hbw).trans hcell; go_simp; try rfl
      try simp only [Act.put, List.setIfInBounds_toArray, List.set_cons_zero, List.set_cons_succ]
      refine wpAnyH_ready (rs := [11]) (by kernel_rfl) (by simp) ?_
      refine (AllReadyH.cons (o := ⟨some 22, _, _, _, _, _⟩) rfl (fun K hK => ?_) AllReadyH.nil)
      · go_simp
        refine (HLR.out wd hHeld).mono ?_
        rintro e x12 ⟨v1, rfl, NW, hb⟩
        have ho := own_base NW (Nat.le_trans hBE.out.size hHeld.size)
        refine hK.out _ _ ?_ (fun hHeld2 => ?_)
        · exact bel_after hHeld (Nat.le_refl _) hb
        clear hK K hHeld
        have hHeld := hHeld2; clear hHeld2
        try simp only [Act.put, List.setIfInBounds_toArray, List.set_cons_zero, List.set_cons_succ]
        clear hb
        refine wpAnyH_take (i := 12) (oi := ⟨some 3, _, _, _, _, _⟩) (v := ?v12_13) rfl (by kernel_rfl) (by kernel_rfl) (by kernel_rfl) (fun _ _ _ h => h) (Or.inl ⟨by rfl, ?hy12_13⟩) (by assumption) ?rest12_13
        case hy12_13 => intro W hSW; go_simp; try rfl
        try simp only [Act.put, List.setIfInBounds_toArray, List.set_cons_zero, List.set_cons_succ]
        refine wpAnyH_done (by kernel_rfl) ?_ _
        go_wp2_with fail
        go_roundw
        case rel =>
          refine ⟨j + 1, q + 2, by omega, by omega, by go_num, hBE.out.trans (hHeld.mono hBE.out.size), ?_⟩
          rw [ht.out, List.length_append, leb_length]
          exact ho
        case measure => simp [intOf]; omega
    · obtain rfl : m = j := by omega
      have ht : ps.take m = ps := List.take_of_length_le (by rw [HM.out]; exact Nat.le_refl _)
      rw [ht, HL.out, HLN.out] at hown
      have hj2 : decide ((q : Int) < (m2 : Int)) = false := by simp; omega
      have HO := Lib.hid hown; have HB := Lib.hid hbel; clear hown hbel
      go_wp2_with fail
      go_ret
      exact ⟨_, rfl, HO.out, HB.out⟩
end Go.Proofs.Ytplilajgncfieaa
