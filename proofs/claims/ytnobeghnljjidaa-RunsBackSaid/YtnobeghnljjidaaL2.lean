/-
  The walk of RunsBack: it answers true, and changes nothing that was there. Conditions: the slice is read as told (Seen).
-/
import Derived.Test.YtnobeghnljjidaaL1
namespace Go.Proofs.Ytnobeghnljjidaa
open Go.RowKit
set_option maxRecDepth 100000

theorem back_far (A : Option Addr) (n c : Nat) (h : 400 < n) (w : World) :
    Calls Try.prog 4 #[.slice A n c] w fun e w' => e = .returned (.bool true) ∧ Below w.heap.size w w' := by
  have d : decide ((400 : Int) < n) = true := decide_eq_true (by omega)
  go_enter Try.func4, Try.ntmps4
  go_wp2_with fail
  refine (fixed_any _).mono ?_; rintro e w1 ⟨rfl, hb1⟩; have B1 := Lib.hid hb1; clear hb1
  go_wp2_with fail
  go_ret
  exact ⟨rfl, B1.out⟩

/-- The first length that is beyond, if there is one. -/
theorem first_beyond : ∀ (l : List Int), beyond l = true → ∃ m, ∃ h : m < l.length, (∀ j (hj : j < m), ¬ (l[j] < 0) ∧ ¬ (15 < l[j])) ∧ (l[m] < 0 ∨ 15 < l[m])
  | [], h => by cases h
  | y :: l, h => by
    by_cases hy : y < 0 ∨ 15 < y
    · exact ⟨0, by simp, fun j hj => absurd hj (by omega), by simpa using hy⟩
    · have hb : beyond l = true := by
        unfold beyond at h ⊢
        rw [List.any_cons] at h
        have e : (decide (y < 0) || decide (15 < y)) = false := by simp; omega
        rwa [e, Bool.false_or] at h
      obtain ⟨m, hm, h1, h2⟩ := first_beyond l hb
      refine ⟨m + 1, by simp; omega, ?_, by simpa using h2⟩
      intro j hj
      cases j with
      | zero => simp; omega
      | succ j => simpa using h1 j (by omega)

theorem expR_wf : ∀ (rs : List Rn) (o o1 : List Int), expR rs o = (0, o1) → ∀ r ∈ rs, r.more ≤ 9223372036854775807
  | [], _, _, _, _, hr => by cases hr
  | r :: rs, o, o1, h, x, hx => by
    by_cases hw : wrongR r o.length = 0
    · rcases List.mem_cons.1 hx with rfl | hx
      · have h1 := rightR_nums (wrongR_ok hw).1
        have h2 := roomR_pos x.sign
        omega
      · rw [expR_ok hw] at h
        exact expR_wf rs _ _ h x hx
    · rw [expR_er hw] at h
      injection h with h _
      exact absurd h hw

set_option maxHeartbeats 4000000 in
theorem back_beyond (A : Option Addr) (n c : Nat) (h : n ≤ 400) (l : List Int) (hbl : beyond l = true) (hln : l.length = n) (w : World) (hs : Seen w w.heap.size 1 A n c (iv l)) :
    Calls Try.prog 4 #[.slice A n c] w fun e w' => e = .returned (.bool true) ∧ Below w.heap.size w w' := by
  have d : decide ((400 : Int) < n) = false := decide_eq_false (by omega)
  obtain ⟨m, hm, hm1, hm2⟩ := first_beyond l hbl
  have HS := Lib.hid hs
  have HN := Lib.hid hln
  have HBL := Lib.hid hbl
  have HM1 := Lib.hid hm1
  have HM2 := Lib.hid hm2
  have hmn : m < n := by omega
  clear hs hbl hm1 hm2 hln
  go_enter Try.func4, Try.ntmps4
  go_wp2_with fail
  refine (fixed_any _).mono ?_; rintro e w1 ⟨rfl, hb1⟩; have B1 := Lib.hid hb1; clear hb1
  go_wp2_with fail
  refine (of_any A n c w.heap.size l HN.out (by omega) w1 (HS.out.below B1.out) B1.out.size).mono ?_
  rintro e w2 (⟨_, rfl, hb2⟩ | ⟨hq, _⟩ | ⟨hq, _⟩)
  · have B2 := Lib.hid (B1.out.trans (hb2.mono B1.out.size)); clear hb2
    go_wp2_with fail
    go_loopw [6, 25] (fun x i wr => ∃ k : Nat, k ≤ m ∧ i = .int .i64 k ∧ Hid (Below w.heap.size w wr)) (fun _ i _ => n - (intOf i).toNat)
    case atStart => exact ⟨0, Nat.zero_le _, rfl, B2⟩
    case round =>
      obtain ⟨k, hk, rfl, hbel⟩ := hrel
      obtain ⟨b, o, rfl, _, c0⟩ := (HS.out.below hbel.out).int HN.out (show k < n by omega)
      have hk0 : (0 : Int) ≤ k := by omega
      have hkn : (k : Int) < n := by omega
      by_cases hkm : k < m
      · have hy := HM1.out k hkm
        obtain ⟨y, hyy⟩ : ∃ y, l[k]'(by have := HN.out; omega) = y := ⟨_, rfl⟩
        rw [hyy] at c0 hy
        have d1 : decide (y < 0) = false := decide_eq_false (by omega)
        have d2 : decide (15 < y) = false := decide_eq_false (by omega)
        clear hyy hy
        go_wp2_with fail
        go_roundw
        case rel => exact ⟨k + 1, by omega, by go_num, hbel⟩
        case measure => simp [intOf]; omega
      · obtain rfl : k = m := by omega
        have hy := HM2.out
        obtain ⟨y, hyy⟩ : ∃ y, l[k]'(by have := HN.out; omega) = y := ⟨_, rfl⟩
        rw [hyy] at c0 hy
        clear hyy
        by_cases h0 : y < 0
        · have d1 : decide (y < 0) = true := decide_eq_true h0
          clear hy h0
          go_wp2_with fail
          go_ret
          exact ⟨rfl, hbel.out⟩
        · have d1 : decide (y < 0) = false := decide_eq_false h0
          have d2 : decide (15 < y) = true := decide_eq_true (hy.resolve_left h0)
          clear hy h0
          go_wp2_with fail
          go_ret
          exact ⟨rfl, hbel.out⟩
  · rw [HBL.out] at hq; cases hq
  · rw [HBL.out] at hq; cases hq

set_option maxHeartbeats 4000000 in
theorem back_many (A : Option Addr) (n c : Nat) (h : n ≤ 400) (h3 : 320 < n) (l : List Int) (hbl : beyond l = false) (hln : l.length = n) (w : World) (hs : Seen w w.heap.size 1 A n c (iv l)) :
    Calls Try.prog 4 #[.slice A n c] w fun e w' => e = .returned (.bool true) ∧ Below w.heap.size w w' := by
  have d : decide ((400 : Int) < n) = false := decide_eq_false (by omega)
  have d3 : decide ((320 : Int) < n) = true := decide_eq_true (by omega)
  have HS := Lib.hid hs
  have HN := Lib.hid hln
  have HBL := Lib.hid hbl
  clear hs hbl hln
  go_enter Try.func4, Try.ntmps4
  go_wp2_with fail
  refine (fixed_any _).mono ?_; rintro e w1 ⟨rfl, hb1⟩; have B1 := Lib.hid hb1; clear hb1
  go_wp2_with fail
  refine (of_any A n c w.heap.size l HN.out (by omega) w1 (HS.out.below B1.out) B1.out.size).mono ?_
  rintro e w2 (⟨hq, _⟩ | ⟨_, _, rfl, hb2⟩ | ⟨_, hq, _⟩)
  · rw [HBL.out] at hq; cases hq
  · have B2 := Lib.hid (B1.out.trans (hb2.mono B1.out.size)); clear hb2
    go_wp2_with fail
    go_loopw [6, 25] (fun x i wr => ∃ k : Nat, k ≤ n ∧ i = .int .i64 k ∧ Hid (Below w.heap.size w wr)) (fun _ i _ => n - (intOf i).toNat)
    case atStart => exact ⟨0, Nat.zero_le _, rfl, B2⟩
    case round =>
      obtain ⟨k, hk, rfl, hbel⟩ := hrel
      by_cases hlt : k < n
      · obtain ⟨b, o, rfl, _, c0⟩ := (HS.out.below hbel.out).int HN.out hlt
        have hk0 : (0 : Int) ≤ k := by omega
        have hy := beyond_not HBL.out (List.getElem_mem (l := l) (n := k) (by have := HN.out; omega))
        obtain ⟨y, hyy⟩ : ∃ y, l[k]'(by have := HN.out; omega) = y := ⟨_, rfl⟩
        rw [hyy] at c0 hy
        have d1 : decide (y < 0) = false := decide_eq_false (by omega)
        have d2 : decide (15 < y) = false := decide_eq_false (by omega)
        clear hyy hy
        go_wp2_with fail
        go_roundw
        case rel => exact ⟨k + 1, by omega, by go_num, hbel⟩
        case measure => simp [intOf]; omega
      · obtain rfl : k = n := by omega
        go_wp2_with fail
        go_ret
        exact ⟨rfl, hbel.out⟩
  · rw [HN.out] at hq; omega

set_option maxHeartbeats 8000000 in
theorem back_near (A : Option Addr) (n c : Nat) (h : n ≤ 320) (l : List Int) (hbl : beyond l = false) (hln : l.length = n) (w : World) (hs : Seen w w.heap.size 1 A n c (iv l)) :
    Calls Try.prog 4 #[.slice A n c] w fun e w' => e = .returned (.bool true) ∧ Below w.heap.size w w' := by
  obtain ⟨i0, hi0, hz0, hz1, hz2⟩ := info_parts int_info
  have d : decide ((400 : Int) < n) = false := decide_eq_false (by omega)
  have d3 : decide ((320 : Int) < n) = false := decide_eq_false (by omega)
  have HS := Lib.hid hs
  have HN := Lib.hid hln
  have HBL := Lib.hid hbl
  clear hs hbl hln
  go_enter Try.func4, Try.ntmps4
  go_wp2_with fail
  refine (fixed_any _).mono ?_; rintro e w1 ⟨rfl, hb1⟩; have B1 := Lib.hid hb1; clear hb1
  go_wp2_with fail
  refine (of_any A n c w.heap.size l HN.out (by omega) w1 (HS.out.below B1.out) B1.out.size).mono ?_
  rintro e w2 (⟨hq, _⟩ | ⟨_, hq, _⟩ | ⟨_, _, rs, v, rfl, hown, hexp, hlen, hb2⟩)
  · rw [HBL.out] at hq; cases hq
  · rw [HN.out] at hq; omega
  obtain ⟨Ar, cr, rfl, _, hsr⟩ := own_seen hown
  have B2 := Lib.hid (B1.out.trans (hb2.mono B1.out.size))
  have SR := Lib.hid hsr
  have HE := Lib.hid hexp
  rw [HN.out] at hlen
  obtain ⟨q, hq⟩ : ∃ q, rs.length = q := ⟨_, rfl⟩
  rw [hq] at SR hlen ⊢
  have HQ := Lib.hid hq
  have dqn : decide ((q : Int) ≤ n) = true := decide_eq_true (by omega)
  clear hown hexp hb2 hsr hq
  go_wp2_with fail
  go_loopw [6, 25] (fun x i wr => ∃ k : Nat, k ≤ n ∧ i = .int .i64 k ∧ Hid (Below w2.heap.size w2 wr)) (fun _ i _ => n - (intOf i).toNat)
  case atStart => exact ⟨0, Nat.zero_le _, rfl, Lib.hid (Below.refl _ _)⟩
  case round =>
    obtain ⟨k, hk, rfl, hbel⟩ := hrel
    by_cases hlt : k < n
    · obtain ⟨b, o, rfl, _, c0⟩ := (HS.out.below (B2.out.trans (hbel.out.mono B2.out.size))).int HN.out hlt
      have hk0 : (0 : Int) ≤ k := by omega
      have hy := beyond_not HBL.out (List.getElem_mem (l := l) (n := k) (by have := HN.out; omega))
      obtain ⟨y, hyy⟩ : ∃ y, l[k]'(by have := HN.out; omega) = y := ⟨_, rfl⟩
      rw [hyy] at c0 hy
      have d1 : decide (y < 0) = false := decide_eq_false (by omega)
      have d2 : decide (15 < y) = false := decide_eq_false (by omega)
      clear hyy hy
      go_wp2_with fail
      go_roundw
      case rel => exact ⟨k + 1, by omega, by go_num, hbel⟩
      case measure => simp [intOf]; omega
    · obtain rfl : k = n := by omega
      have SR3 := Lib.hid (SR.out.below hbel.out)
      have B3 := Lib.hid (B2.out.trans (hbel.out.mono B2.out.size))
      have hsz23 := hbel.out.size
      clear hbel
      obtain ⟨W3, rfl⟩ : ∃ W, W = wr := ⟨_, rfl⟩
      go_wp2_with fail
      go_loopw [7, 8, 55] (fun s t i wr => ∃ j : Nat, j ≤ q ∧ i = .int .i64 j ∧ Hid (wr.ownsRow W3.heap.size 3 1 s (sgs (rs.take j)).length (iv (sgs (rs.take j))) ∧ wr.ownsRow W3.heap.size 3 1 t (mrs (rs.take j)).length (iv (mrs (rs.take j))) ∧ (∀ j, s.ownBlock = some j → t.ownBlock ≠ some j) ∧ Below W3.heap.size W3 wr)) (fun _ _ i _ => q - (intOf i).toNat)
      case atStart => exact ⟨0, Nat.zero_le _, rfl, Lib.hid ⟨World.ownsRow_nil _ _ _ _, World.ownsRow_nil _ _ _ _, fun j hj => by simp [Value.ownBlock] at hj, Below.refl _ _⟩⟩
      case round =>
        obtain ⟨j, hj, rfl, h4⟩ := hrel
        by_cases hlt2 : j < q
        · obtain ⟨own1, own2, ap, hbel⟩ := h4.out
          have hkl : j < rs.length := by have := HQ.out; omega
          obtain ⟨r, b, of', hr, rfl, hbB, c0, c1⟩ := (SR3.out.below (hbel.mono hsz23)).rn hlt2
          have hrk : rs[j] = r := by
            have := List.getElem?_eq_getElem hkl
            rw [hr] at this
            injection this with this
            exact this.symm
          have htk : rs.take (j + 1) = rs.take j ++ [r] := by rw [← hrk, List.take_append_getElem]
          obtain ⟨ts, tm⟩ := r
          simp only at c0 c1
          have E1 : Hid (sgs (rs.take (j + 1)) = sgs (rs.take j) ++ [ts]) := Lib.hid (by rw [htk]; simp [sgs])
          have E2 : Hid (mrs (rs.take (j + 1)) = mrs (rs.take j) ++ [tm]) := Lib.hid (by rw [htk]; simp [mrs])
          have hXk : (sgs (rs.take j)).length = j := by simp; omega
          have hYk : (mrs (rs.take j)).length = j := by simp; omega
          obtain ⟨X, hX⟩ : ∃ X, sgs (rs.take j) = X := ⟨_, rfl⟩
          obtain ⟨Y, hY⟩ : ∃ Y, mrs (rs.take j) = Y := ⟨_, rfl⟩
          rw [hX] at own1 hXk E1
          rw [hY] at own2 hYk E2
          have hB2 : Below wr.heap.size wr (wr.alloc (.cells #[.int .i64 ts, .int .i64 tm] 26)) := (Below.refl _ _).alloc (Nat.le_refl _) _
          obtain ⟨gp, hgp⟩ : ∃ gp, wr.heap.size = gp := ⟨_, rfl⟩
          have HT : Hid (Two W3 (wr.alloc (.cells #[.int .i64 ts, .int .i64 tm] 26)) gp ts tm _ X _ Y []) := Lib.hid ⟨by rw [← hgp]; exact Whole.new wr 26 _, own_only own1 (Only.of_below hB2 Nob) (fun _ _ h => h), own_only own2 (Only.of_below hB2 Nob) (fun _ _ h => h), ap, hbel.trans (hB2.mono hbel.size), by simp⟩
          have hbr : b < wr.heap.size := by have := hbel.size; omega
          have hne : wr.heap.size ≠ b := by omega
          have hk0 : (0 : Int) ≤ j := by omega
          have hjq : (j : Int) < q := by omega
          clear own1 own2 ap hbel hr hrk htk hX hY hB2 h4
          rw [hgp] at hbr hne
          go_wp2_with fail
          clear c0 c1 hbr hne hgp
          generalize wr.alloc (.cells #[.int .i64 ts, .int .i64 tm] 26) = W0 at *
          refine wp_region_held_drew (S := (fun W => Whole W gp 26 #[.int .i64 ts, .int .i64 tm])) (by kernel_rfl) HT.out.P.drew (fun hHeld => ?_)
          have HT0 := Lib.hid HT.out.drew
          refine wpAnyH_take (i := 0) (oi := ⟨some 59, _, _, _, _, _⟩) (v := ?va0) rfl (by kernel_rfl) (by kernel_rfl) (by kernel_rfl) (fun _ _ _ h => h) (Or.inl ⟨by rfl, ?hya0⟩) (by assumption) ?resta0
          case hya0 => intro W hSW; go_simp; try rfl
          try simp only [Act.put, List.setIfInBounds_toArray, List.set_cons_zero, List.set_cons_succ]
          refine wpAnyH_take (i := 1) (oi := ⟨some 60, _, _, _, _, _⟩) (v := ?va1) rfl (by kernel_rfl) (by kernel_rfl) (by kernel_rfl) (fun _ _ _ h => h) (Or.inl ⟨by rfl, ?hya1⟩) (by assumption) ?resta1
          case hya1 => intro W hSW; go_simp; try rfl
          try simp only [Act.put, List.setIfInBounds_toArray, List.set_cons_zero, List.set_cons_succ]
          refine wpAnyH_take (i := 2) (oi := ⟨some 61, _, _, _, _, _⟩) (v := ?va2) rfl (by kernel_rfl) (by kernel_rfl) (by kernel_rfl) (fun _ _ _ h => h) (Or.inl ⟨by rfl, ?hya2⟩) (by assumption) ?resta2
          case hya2 => intro W hSW; have q0 : W.cell? ⟨gp, 0, none⟩ = some (.int .i64 ts) := hSW.cell 0; go_simp; try rfl
          try simp only [Act.put, List.setIfInBounds_toArray, List.set_cons_zero, List.set_cons_succ]
          refine wpAnyH_take (i := 5) (oi := ⟨some 64, _, _, _, _, _⟩) (v := ?va5) rfl (by kernel_rfl) (by kernel_rfl) (by kernel_rfl) (fun _ _ _ h => h) (Or.inl ⟨by rfl, ?hya5⟩) (by assumption) ?resta5
          case hya5 => intro W hSW; go_simp; try rfl
          try simp only [Act.put, List.setIfInBounds_toArray, List.set_cons_zero, List.set_cons_succ]
          refine wpAnyH_take (i := 6) (oi := ⟨some 65, _, _, _, _, _⟩) (v := ?va6) rfl (by kernel_rfl) (by kernel_rfl) (by kernel_rfl) (fun _ _ _ h => h) (Or.inl ⟨by rfl, ?hya6⟩) (by assumption) ?resta6
          case hya6 => intro W hSW; go_simp; try rfl
          try simp only [Act.put, List.setIfInBounds_toArray, List.set_cons_zero, List.set_cons_succ]
          refine wpAnyH_take (i := 7) (oi := ⟨some 66, _, _, _, _, _⟩) (v := ?va7) rfl (by kernel_rfl) (by kernel_rfl) (by kernel_rfl) (fun _ _ _ h => h) (Or.inl ⟨by rfl, ?hya7⟩) (by assumption) ?resta7
          case hya7 => intro W hSW; have q1 : W.cell? ⟨gp, 1, none⟩ = some (.int .i64 tm) := hSW.cell 1; go_simp; try rfl
          try simp only [Act.put, List.setIfInBounds_toArray, List.set_cons_zero, List.set_cons_succ]
          refine wpAnyH_ready (rs := [3, 8]) (by kernel_rfl) (by simp) ?_
          refine (AllReadyH.cons (o := ⟨some 62, _, _, _, _, _⟩) rfl (fun K hK => ?_) (AllReadyH.cons (o := ⟨some 67, _, _, _, _, _⟩) rfl (fun K hK => ?_) AllReadyH.nil))
          · go_simp
            have HT1 := Lib.hid (HT0.out.alloc ts)
            refine hK.out _ _ HT1.out.P (fun hHeld2 => ?_)
            clear hK K hHeld
            have hHeld := hHeld2; clear hHeld2
            try simp only [Act.put, List.setIfInBounds_toArray, List.set_cons_zero, List.set_cons_succ]
            refine wpAnyH_ready (rs := [4, 8]) (by kernel_rfl) (by simp) ?_
            refine (AllReadyH.cons (o := ⟨some 63, _, _, _, _, _⟩) rfl (fun K hK => ?_) (AllReadyH.cons (o := ⟨some 67, _, _, _, _, _⟩) rfl (fun K hK => ?_) AllReadyH.nil))
            · have hbsp2 := (HT1.out.bs _ (List.mem_cons_self)).1
              try simp at hbsp2
              refine step_append_seen _ (by rfl) _ _ _ (by rfl) W3.heap.size 3 i0 _ 1 8 Try.underlying24 hi0 hz0 hz1 hz2 rfl (by omega) _ X.length (iv X) (by rfl) (HT1.out.os) _ _ 1 1 [.int .i64 ts] (by rfl) (seen_whole hbsp2) (one_int _) (by simp only [maxLen]; omega) (by omega) HT1.out.bl.size ?_
              intro vp2 wp2 hownp2 hgp2 hatp2
              have HT2 := Lib.hid (HT1.out.push1 ts hownp2 hgp2 hatp2)
              clear hbsp2 hownp2 hgp2 hatp2
              refine hK.out _ _ HT2.out.P (fun hHeld2 => ?_)
              clear hK K hHeld
              have hHeld := hHeld2; clear hHeld2
              try simp only [Act.put, List.setIfInBounds_toArray, List.set_cons_zero, List.set_cons_succ]
              refine wpAnyH_ready (rs := [8]) (by kernel_rfl) (by simp) ?_
              refine (AllReadyH.cons (o := ⟨some 67, _, _, _, _, _⟩) rfl (fun K hK => ?_) AllReadyH.nil)
              · go_simp
                have HT3 := Lib.hid (HT2.out.alloc tm)
                refine hK.out _ _ HT3.out.P (fun hHeld2 => ?_)
                clear hK K hHeld
                have hHeld := hHeld2; clear hHeld2
                try simp only [Act.put, List.setIfInBounds_toArray, List.set_cons_zero, List.set_cons_succ]
                refine wpAnyH_ready (rs := [9]) (by kernel_rfl) (by simp) ?_
                refine (AllReadyH.cons (o := ⟨some 68, _, _, _, _, _⟩) rfl (fun K hK => ?_) AllReadyH.nil)
                · have hbsp4 := (HT3.out.bs _ (List.mem_cons_self)).1
                  try simp at hbsp4
                  refine step_append_seen _ (by rfl) _ _ _ (by rfl) W3.heap.size 3 i0 _ 1 8 Try.underlying24 hi0 hz0 hz1 hz2 rfl (by omega) _ Y.length (iv Y) (by rfl) (HT3.out.ot) _ _ 1 1 [.int .i64 tm] (by rfl) (seen_whole hbsp4) (one_int _) (by simp only [maxLen]; omega) (by omega) HT3.out.bl.size ?_
                  intro vp4 wp4 hownp4 hgp4 hatp4
                  have HT4 := Lib.hid (HT3.out.push2 tm hownp4 hgp4 hatp4)
                  clear hbsp4 hownp4 hgp4 hatp4
                  refine hK.out _ _ HT4.out.P (fun hHeld2 => ?_)
                  clear hK K hHeld
                  have hHeld := hHeld2; clear hHeld2
                  try simp only [Act.put, List.setIfInBounds_toArray, List.set_cons_zero, List.set_cons_succ]
                  refine wpAnyH_take (i := 10) (oi := ⟨some 7, _, _, _, _, _⟩) (v := ?vz348910) rfl (by kernel_rfl) (by kernel_rfl) (by kernel_rfl) (fun _ _ _ h => h) (Or.inl ⟨by rfl, ?hyz348910⟩) (by assumption) ?restz348910
                  case hyz348910 => intro W hSW; go_simp; try rfl
                  try simp only [Act.put, List.setIfInBounds_toArray, List.set_cons_zero, List.set_cons_succ]
                  refine wpAnyH_take (i := 11) (oi := ⟨some 8, _, _, _, _, _⟩) (v := ?vz348911) rfl (by kernel_rfl) (by kernel_rfl) (by kernel_rfl) (fun _ _ _ h => h) (Or.inl ⟨by rfl, ?hyz348911⟩) (by assumption) ?restz348911
                  case hyz348911 => intro W hSW; go_simp; try rfl
                  try simp only [Act.put, List.setIfInBounds_toArray, List.set_cons_zero, List.set_cons_succ]
                  refine wpAnyH_done (by kernel_rfl) ?_ _
                  have HF := HT4
                  go_wp2_with fail
                  go_roundw
                  case rel => exact ⟨j + 1, by omega, by go_num, Lib.hid ⟨by rw [E1.out]; exact HF.out.os, by rw [E2.out]; exact HF.out.ot, HF.out.ap, HF.out.bl⟩⟩
                  case measure => simp [intOf]; omega
            · go_simp
              have HT5 := Lib.hid (HT1.out.alloc tm)
              refine hK.out _ _ HT5.out.P (fun hHeld2 => ?_)
              clear hK K hHeld
              have hHeld := hHeld2; clear hHeld2
              try simp only [Act.put, List.setIfInBounds_toArray, List.set_cons_zero, List.set_cons_succ]
              refine wpAnyH_ready (rs := [4]) (by kernel_rfl) (by simp) ?_
              refine (AllReadyH.cons (o := ⟨some 63, _, _, _, _, _⟩) rfl (fun K hK => ?_) AllReadyH.nil)
              · have hbsp6 := (HT5.out.bs _ (List.mem_cons_of_mem _ List.mem_cons_self)).1
                try simp at hbsp6
                refine step_append_seen _ (by rfl) _ _ _ (by rfl) W3.heap.size 3 i0 _ 1 8 Try.underlying24 hi0 hz0 hz1 hz2 rfl (by omega) _ X.length (iv X) (by rfl) (HT5.out.os) _ _ 1 1 [.int .i64 ts] (by rfl) (seen_whole hbsp6) (one_int _) (by simp only [maxLen]; omega) (by omega) HT5.out.bl.size ?_
                intro vp6 wp6 hownp6 hgp6 hatp6
                have HT6 := Lib.hid (HT5.out.push1 ts hownp6 hgp6 hatp6)
                clear hbsp6 hownp6 hgp6 hatp6
                refine hK.out _ _ HT6.out.P (fun hHeld2 => ?_)
                clear hK K hHeld
                have hHeld := hHeld2; clear hHeld2
                try simp only [Act.put, List.setIfInBounds_toArray, List.set_cons_zero, List.set_cons_succ]
                refine wpAnyH_ready (rs := [9]) (by kernel_rfl) (by simp) ?_
                refine (AllReadyH.cons (o := ⟨some 68, _, _, _, _, _⟩) rfl (fun K hK => ?_) AllReadyH.nil)
                · have hbsp7 := (HT6.out.bs _ (List.mem_cons_self)).1
                  try simp at hbsp7
                  refine step_append_seen _ (by rfl) _ _ _ (by rfl) W3.heap.size 3 i0 _ 1 8 Try.underlying24 hi0 hz0 hz1 hz2 rfl (by omega) _ Y.length (iv Y) (by rfl) (HT6.out.ot) _ _ 1 1 [.int .i64 tm] (by rfl) (seen_whole hbsp7) (one_int _) (by simp only [maxLen]; omega) (by omega) HT6.out.bl.size ?_
                  intro vp7 wp7 hownp7 hgp7 hatp7
                  have HT7 := Lib.hid (HT6.out.push2 tm hownp7 hgp7 hatp7)
                  clear hbsp7 hownp7 hgp7 hatp7
                  refine hK.out _ _ HT7.out.P (fun hHeld2 => ?_)
                  clear hK K hHeld
                  have hHeld := hHeld2; clear hHeld2
                  try simp only [Act.put, List.setIfInBounds_toArray, List.set_cons_zero, List.set_cons_succ]
                  refine wpAnyH_take (i := 10) (oi := ⟨some 7, _, _, _, _, _⟩) (v := ?vz384910) rfl (by kernel_rfl) (by kernel_rfl) (by kernel_rfl) (fun _ _ _ h => h) (Or.inl ⟨by rfl, ?hyz384910⟩) (by assumption) ?restz384910
                  case hyz384910 => intro W hSW; go_simp; try rfl
                  try simp only [Act.put, List.setIfInBounds_toArray, List.set_cons_zero, List.set_cons_succ]
                  refine wpAnyH_take (i := 11) (oi := ⟨some 8, _, _, _, _, _⟩) (v := ?vz384911) rfl (by kernel_rfl) (by kernel_rfl) (by kernel_rfl) (fun _ _ _ h => h) (Or.inl ⟨by rfl, ?hyz384911⟩) (by assumption) ?restz384911
                  case hyz384911 => intro W hSW; go_simp; try rfl
                  try simp only [Act.put, List.setIfInBounds_toArray, List.set_cons_zero, List.set_cons_succ]
                  refine wpAnyH_done (by kernel_rfl) ?_ _
                  have HF := HT7
                  go_wp2_with fail
                  go_roundw
                  case rel => exact ⟨j + 1, by omega, by go_num, Lib.hid ⟨by rw [E1.out]; exact HF.out.os, by rw [E2.out]; exact HF.out.ot, HF.out.ap, HF.out.bl⟩⟩
                  case measure => simp [intOf]; omega
          · go_simp
            have HT8 := Lib.hid (HT0.out.alloc tm)
            refine hK.out _ _ HT8.out.P (fun hHeld2 => ?_)
            clear hK K hHeld
            have hHeld := hHeld2; clear hHeld2
            try simp only [Act.put, List.setIfInBounds_toArray, List.set_cons_zero, List.set_cons_succ]
            refine wpAnyH_ready (rs := [3]) (by kernel_rfl) (by simp) ?_
            refine (AllReadyH.cons (o := ⟨some 62, _, _, _, _, _⟩) rfl (fun K hK => ?_) AllReadyH.nil)
            · go_simp
              have HT9 := Lib.hid (HT8.out.alloc ts)
              refine hK.out _ _ HT9.out.P (fun hHeld2 => ?_)
              clear hK K hHeld
              have hHeld := hHeld2; clear hHeld2
              try simp only [Act.put, List.setIfInBounds_toArray, List.set_cons_zero, List.set_cons_succ]
              refine wpAnyH_ready (rs := [4]) (by kernel_rfl) (by simp) ?_
              refine (AllReadyH.cons (o := ⟨some 63, _, _, _, _, _⟩) rfl (fun K hK => ?_) AllReadyH.nil)
              · have hbsp10 := (HT9.out.bs _ (List.mem_cons_self)).1
                try simp at hbsp10
                refine step_append_seen _ (by rfl) _ _ _ (by rfl) W3.heap.size 3 i0 _ 1 8 Try.underlying24 hi0 hz0 hz1 hz2 rfl (by omega) _ X.length (iv X) (by rfl) (HT9.out.os) _ _ 1 1 [.int .i64 ts] (by rfl) (seen_whole hbsp10) (one_int _) (by simp only [maxLen]; omega) (by omega) HT9.out.bl.size ?_
                intro vp10 wp10 hownp10 hgp10 hatp10
                have HT10 := Lib.hid (HT9.out.push1 ts hownp10 hgp10 hatp10)
                clear hbsp10 hownp10 hgp10 hatp10
                refine hK.out _ _ HT10.out.P (fun hHeld2 => ?_)
                clear hK K hHeld
                have hHeld := hHeld2; clear hHeld2
                try simp only [Act.put, List.setIfInBounds_toArray, List.set_cons_zero, List.set_cons_succ]
                refine wpAnyH_ready (rs := [9]) (by kernel_rfl) (by simp) ?_
                refine (AllReadyH.cons (o := ⟨some 68, _, _, _, _, _⟩) rfl (fun K hK => ?_) AllReadyH.nil)
                · have hbsp11 := (HT10.out.bs _ (List.mem_cons_of_mem _ List.mem_cons_self)).1
                  try simp at hbsp11
                  refine step_append_seen _ (by rfl) _ _ _ (by rfl) W3.heap.size 3 i0 _ 1 8 Try.underlying24 hi0 hz0 hz1 hz2 rfl (by omega) _ Y.length (iv Y) (by rfl) (HT10.out.ot) _ _ 1 1 [.int .i64 tm] (by rfl) (seen_whole hbsp11) (one_int _) (by simp only [maxLen]; omega) (by omega) HT10.out.bl.size ?_
                  intro vp11 wp11 hownp11 hgp11 hatp11
                  have HT11 := Lib.hid (HT10.out.push2 tm hownp11 hgp11 hatp11)
                  clear hbsp11 hownp11 hgp11 hatp11
                  refine hK.out _ _ HT11.out.P (fun hHeld2 => ?_)
                  clear hK K hHeld
                  have hHeld := hHeld2; clear hHeld2
                  try simp only [Act.put, List.setIfInBounds_toArray, List.set_cons_zero, List.set_cons_succ]
                  refine wpAnyH_take (i := 10) (oi := ⟨some 7, _, _, _, _, _⟩) (v := ?vz834910) rfl (by kernel_rfl) (by kernel_rfl) (by kernel_rfl) (fun _ _ _ h => h) (Or.inl ⟨by rfl, ?hyz834910⟩) (by assumption) ?restz834910
                  case hyz834910 => intro W hSW; go_simp; try rfl
                  try simp only [Act.put, List.setIfInBounds_toArray, List.set_cons_zero, List.set_cons_succ]
                  refine wpAnyH_take (i := 11) (oi := ⟨some 8, _, _, _, _, _⟩) (v := ?vz834911) rfl (by kernel_rfl) (by kernel_rfl) (by kernel_rfl) (fun _ _ _ h => h) (Or.inl ⟨by rfl, ?hyz834911⟩) (by assumption) ?restz834911
                  case hyz834911 => intro W hSW; go_simp; try rfl
                  try simp only [Act.put, List.setIfInBounds_toArray, List.set_cons_zero, List.set_cons_succ]
                  refine wpAnyH_done (by kernel_rfl) ?_ _
                  have HF := HT11
                  go_wp2_with fail
                  go_roundw
                  case rel => exact ⟨j + 1, by omega, by go_num, Lib.hid ⟨by rw [E1.out]; exact HF.out.os, by rw [E2.out]; exact HF.out.ot, HF.out.ap, HF.out.bl⟩⟩
                  case measure => simp [intOf]; omega

        · obtain rfl : j = q := by omega
          obtain ⟨own1, own2, ap, hbel⟩ := h4.out
          have htk : rs.take j = rs := List.take_of_length_le (by rw [HQ.out]; exact Nat.le_refl _)
          rw [htk] at own1 own2
          obtain ⟨A1, c1, rfl, _⟩ := own_form own1
          obtain ⟨A2, c2, rfl, _⟩ := own_form own2
          have hl1 : (sgs rs).length = j := by rw [sgs_length]; exact HQ.out
          have hl2 : (mrs rs).length = j := by rw [mrs_length]; exact HQ.out
          rw [hl1] at own1 ⊢
          rw [hl2] at own2 ⊢
          have CR := Lib.hid (rexpand_any A1 A2 j c1 c2 wr.heap.size rs (expR_wf rs _ _ HE.out) (by omega) wr (Seen.of_own own1) (Seen.of_own own2) (Nat.le_refl _))
          have B4 := Lib.hid (B3.out.trans (hbel.mono B3.out.size))
          clear own1 own2 ap hbel htk hl1 hl2 h4
          go_wp2_with fail
          refine CR.out.mono ?_
          rintro e w5 (⟨o', v', hx', rfl, hown', hol', hb5⟩ | ⟨er, he0, _, hx', _⟩)
          · have ho : l = o' := by rw [HE.out] at hx'; injection hx'
            subst ho
            obtain ⟨Ao, co, rfl, _⟩ := own_form hown'
            rw [HN.out] at hown' ⊢
            have B5 := Lib.hid (B4.out.trans (hb5.mono B4.out.size))
            have CS := Lib.hid (same_any Ao A k co k c w5.heap.size l l HN.out HN.out (by omega) (by omega) w5 (Nat.le_refl _) (Seen.of_own hown') ((HS.out.below B5.out).more B5.out.size))
            have hdd : decide (l = l) = true := decide_eq_true rfl
            rw [hdd] at CS
            clear hx' hown' hb5
            go_wp2_with fail
            refine CS.out.mono ?_
            rintro e w6 ⟨rfl, hb6⟩
            have B6 := Lib.hid (B5.out.trans (hb6.mono B5.out.size))
            clear hb6
            go_wp2_with fail
            go_ret
            exact ⟨by simp, B6.out⟩
          · rw [HE.out] at hx'
            injection hx' with hx' _
            exact absurd hx'.symm he0

theorem back_law (A : Option Addr) (n cp : Nat) (_ : n ≤ 9223372036854775807) (w : World)
    (hp : ∃ l : List Int, l.length = n ∧ (∀ y ∈ l, -9223372036854775808 ≤ y ∧ y < 9223372036854775808) ∧ Seen w w.heap.size 1 A n cp (iv l)) :
    Calls Try.prog 4 #[.slice A n cp] w fun e w' => e = .returned (.bool true) ∧ Below w.heap.size w w' := by
  obtain ⟨l, h1, h2, h3⟩ := hp
  by_cases hf : 400 < n
  · exact back_far A n cp hf w
  · cases hb : beyond l with
    | true => exact back_beyond A n cp (by omega) l hb h1 w h3
    | false =>
      by_cases h320 : 320 < n
      · exact back_many A n cp (by omega) h320 l hb h1 w h3
      · exact back_near A n cp (by omega) l hb h1 w h3
end Go.Proofs.Ytnobeghnljjidaa
