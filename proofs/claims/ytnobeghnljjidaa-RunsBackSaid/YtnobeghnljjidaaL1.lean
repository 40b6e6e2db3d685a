/-
  The walk of RunsExpand: it answers true, and changes nothing that was there. Conditions: the slice is read as told (Seen).
-/
import Derived.Test.YtnobeghnljjidaaQ
import Derived.Test.YtnobeghnljjidaaK
import Derived.Test.YtnobeghnljjidaaO
namespace Go.Proofs.Ytnobeghnljjidaa
open Go.RowKit
set_option maxRecDepth 100000

theorem Two.below {W0 W W' : World} {gp : Nat} {a b : Int} {s t : Value} {X Y : List Int} {bs : List (Nat × Int)} (h : Two W0 W gp a b s X t Y bs) (hb : Below W.heap.size W W') : Two W0 W' gp a b s X t Y bs :=
  ⟨h.P.only (Only.of_below hb Nob) (fun h => h), own_only h.os (Only.of_below hb Nob) (fun _ _ h => h), own_only h.ot (Only.of_below hb Nob) (fun _ _ h => h), h.ap, h.bl.trans (hb.mono h.bl.size), fun p hp => ⟨(h.bs p hp).1.only (Only.of_below hb Nob) (fun h => h), (h.bs p hp).2⟩⟩

theorem expand_far (A : Option Addr) (n c : Nat) (h : 400 < n) (w : World) :
    Calls Try.prog 3 #[.slice A n c] w fun e w' => e = .returned (.bool true) ∧ Below w.heap.size w w' := by
  have d : decide ((400 : Int) < n) = true := decide_eq_true (by omega)
  go_enter Try.func3, Try.ntmps3
  go_wp2_with fail
  refine (fixed_any _).mono ?_; rintro e w1 ⟨rfl, hb1⟩; have B1 := Lib.hid hb1; clear hb1
  go_wp2_with fail
  go_ret
  exact ⟨rfl, B1.out⟩

set_option maxHeartbeats 4000000 in
theorem expand_near (A : Option Addr) (n c : Nat) (h : n ≤ 400) (l : List Rn) (hwf : ∀ r ∈ l, WfR r) (w : World) (hs : Seen w w.heap.size 2 A n c (rvs l)) :
    Calls Try.prog 3 #[.slice A n c] w fun e w' => e = .returned (.bool true) ∧ Below w.heap.size w w' := by
  obtain ⟨i0, hi0, hz0, hz1, hz2⟩ := info_parts int_info
  have hln : l.length = n := by have := hs.1; rw [rvs_length] at this; omega
  have d : decide ((400 : Int) < n) = false := decide_eq_false (by omega)
  have HS := Lib.hid hs; clear hs
  have HN := Lib.hid hln; clear hln
  have HWF := Lib.hid hwf; clear hwf
  go_enter Try.func3, Try.ntmps3
  go_wp2_with fail
  refine (fixed_any _).mono ?_; rintro e w1 ⟨rfl, hb1⟩; have B1 := Lib.hid hb1; clear hb1
  go_wp2_with fail
  go_loopw [3, 4, 18] (fun s t i wr => ∃ k : Nat, k ≤ n ∧ i = .int .i64 k ∧ Hid (wr.ownsRow w.heap.size 3 1 s (sgs (l.take k)).length (iv (sgs (l.take k))) ∧ wr.ownsRow w.heap.size 3 1 t (mrs (l.take k)).length (iv (mrs (l.take k))) ∧ (∀ j, s.ownBlock = some j → t.ownBlock ≠ some j) ∧ Below w.heap.size w wr)) (fun _ _ i _ => n - (intOf i).toNat)
  case atStart => exact ⟨0, Nat.zero_le _, rfl, Lib.hid ⟨World.ownsRow_nil _ _ _ _, World.ownsRow_nil _ _ _ _, fun j hj => by simp [Value.ownBlock] at hj, B1.out⟩⟩
  case round =>
    obtain ⟨k, hk, rfl, h4⟩ := hrel
    by_cases hlt : k < n
    · obtain ⟨own1, own2, ap, hbel⟩ := h4.out
      have hkl : k < l.length := by have := HN.out; omega
      obtain ⟨r, b, of', hr, rfl, hbB, c0, c1⟩ := (HS.out.below hbel).rn hlt
      have hrk : l[k] = r := by
        have := List.getElem?_eq_getElem hkl
        rw [hr] at this
        injection this with this
        exact this.symm
      have hwr := HWF.out r (by rw [← hrk]; exact List.getElem_mem hkl)
      have htk : l.take (k + 1) = l.take k ++ [r] := by rw [← hrk, List.take_append_getElem]
      obtain ⟨ts, tm⟩ := r
      simp only at c0 c1
      have E1 : Hid (sgs (l.take (k + 1)) = sgs (l.take k) ++ [ts]) := Lib.hid (by rw [htk]; simp [sgs])
      have E2 : Hid (mrs (l.take (k + 1)) = mrs (l.take k) ++ [tm]) := Lib.hid (by rw [htk]; simp [mrs])
      have hXk : (sgs (l.take k)).length = k := by simp; omega
      have hYk : (mrs (l.take k)).length = k := by simp; omega
      obtain ⟨X, hX⟩ : ∃ X, sgs (l.take k) = X := ⟨_, rfl⟩
      obtain ⟨Y, hY⟩ : ∃ Y, mrs (l.take k) = Y := ⟨_, rfl⟩
      rw [hX] at own1 hXk E1
      rw [hY] at own2 hYk E2
      have hB2 : Below wr.heap.size wr (wr.alloc (.cells #[.int .i64 ts, .int .i64 tm] 26)) := (Below.refl _ _).alloc (Nat.le_refl _) _
      obtain ⟨gp, hgp⟩ : ∃ gp, wr.heap.size = gp := ⟨_, rfl⟩
      have HT : Hid (Two w (wr.alloc (.cells #[.int .i64 ts, .int .i64 tm] 26)) gp ts tm _ X _ Y []) := Lib.hid ⟨by rw [← hgp]; exact Whole.new wr 26 _, own_only own1 (Only.of_below hB2 Nob) (fun _ _ h => h), own_only own2 (Only.of_below hB2 Nob) (fun _ _ h => h), ap, hbel.trans (hB2.mono hbel.size), by simp⟩
      have CB1 := Lib.hid (fun W => bits_any ts W)
      have CB2 := Lib.hid (fun W => rbits_any ts W)
      obtain ⟨bt, hbt⟩ : ∃ bt, bitsR ts = bt := ⟨_, rfl⟩
      rw [hbt] at CB1 CB2
      have CR1 := Lib.hid (fun W => right_any ts tm W)
      have CR2 := Lib.hid (fun W => rright_any ts tm (by have := hwr.2; simp only at this; omega) W)
      obtain ⟨R, hR⟩ : ∃ R, rightR ⟨ts, tm⟩ = R := ⟨_, rfl⟩
      rw [hR] at CR1 CR2
      have dR : (R != R) = false := by simp
      have dB : (bt != bt) = false := by simp
      have hbr : b < wr.heap.size := by have := hbel.size; omega
      have hne : wr.heap.size ≠ b := by omega
      have hk0 : (0 : Int) ≤ k := by omega
      clear own1 own2 ap hbel hr hrk hwr htk hX hY hB2 hbt hR h4
      rw [hgp] at hbr hne
      go_wp2_with fail
      clear c0 c1 hbr hne hgp
      generalize wr.alloc (.cells #[.int .i64 ts, .int .i64 tm] 26) = W0 at *
      refine wp_region_held_drew (S := (fun W => Whole W gp 26 #[.int .i64 ts, .int .i64 tm])) (by kernel_rfl) HT.out.P.drew (fun hHeld => ?_)
      have HT0 := Lib.hid HT.out.drew
      refine wpAnyH_take (i := 0) (oi := ⟨some 22, _, _, _, _, _⟩) (v := ?va0) rfl (by kernel_rfl) (by kernel_rfl) (by kernel_rfl) (fun _ _ _ h => h) (Or.inl ⟨by rfl, ?hya0⟩) (by assumption) ?resta0
      case hya0 => intro W hSW; go_simp; try rfl
      try simp only [Act.put, List.setIfInBounds_toArray, List.set_cons_zero, List.set_cons_succ]
      refine wpAnyH_take (i := 1) (oi := ⟨some 23, _, _, _, _, _⟩) (v := ?va1) rfl (by kernel_rfl) (by kernel_rfl) (by kernel_rfl) (fun _ _ _ h => h) (Or.inl ⟨by rfl, ?hya1⟩) (by assumption) ?resta1
      case hya1 => intro W hSW; go_simp; try rfl
      try simp only [Act.put, List.setIfInBounds_toArray, List.set_cons_zero, List.set_cons_succ]
      refine wpAnyH_take (i := 2) (oi := ⟨some 24, _, _, _, _, _⟩) (v := ?va2) rfl (by kernel_rfl) (by kernel_rfl) (by kernel_rfl) (fun _ _ _ h => h) (Or.inl ⟨by rfl, ?hya2⟩) (by assumption) ?resta2
      case hya2 => intro W hSW; have q0 : W.cell? ⟨gp, 0, none⟩ = some (.int .i64 ts) := hSW.cell 0; go_simp; try rfl
      try simp only [Act.put, List.setIfInBounds_toArray, List.set_cons_zero, List.set_cons_succ]
      refine wpAnyH_take (i := 5) (oi := ⟨some 27, _, _, _, _, _⟩) (v := ?va5) rfl (by kernel_rfl) (by kernel_rfl) (by kernel_rfl) (fun _ _ _ h => h) (Or.inl ⟨by rfl, ?hya5⟩) (by assumption) ?resta5
      case hya5 => intro W hSW; go_simp; try rfl
      try simp only [Act.put, List.setIfInBounds_toArray, List.set_cons_zero, List.set_cons_succ]
      refine wpAnyH_take (i := 6) (oi := ⟨some 28, _, _, _, _, _⟩) (v := ?va6) rfl (by kernel_rfl) (by kernel_rfl) (by kernel_rfl) (fun _ _ _ h => h) (Or.inl ⟨by rfl, ?hya6⟩) (by assumption) ?resta6
      case hya6 => intro W hSW; go_simp; try rfl
      try simp only [Act.put, List.setIfInBounds_toArray, List.set_cons_zero, List.set_cons_succ]
      refine wpAnyH_take (i := 7) (oi := ⟨some 29, _, _, _, _, _⟩) (v := ?va7) rfl (by kernel_rfl) (by kernel_rfl) (by kernel_rfl) (fun _ _ _ h => h) (Or.inl ⟨by rfl, ?hya7⟩) (by assumption) ?resta7
      case hya7 => intro W hSW; have q1 : W.cell? ⟨gp, 1, none⟩ = some (.int .i64 tm) := hSW.cell 1; go_simp; try rfl
      try simp only [Act.put, List.setIfInBounds_toArray, List.set_cons_zero, List.set_cons_succ]
      refine wpAnyH_ready (rs := [3, 8]) (by kernel_rfl) (by simp) ?_
      refine (AllReadyH.cons (o := ⟨some 25, _, _, _, _, _⟩) rfl (fun K hK => ?_) (AllReadyH.cons (o := ⟨some 30, _, _, _, _, _⟩) rfl (fun K hK => ?_) AllReadyH.nil))
      · go_simp
        have HT1 := Lib.hid (HT0.out.alloc ts)
        refine hK.out _ _ HT1.out.P (fun hHeld2 => ?_)
        clear hK K hHeld
        have hHeld := hHeld2; clear hHeld2
        try simp only [Act.put, List.setIfInBounds_toArray, List.set_cons_zero, List.set_cons_succ]
        refine wpAnyH_ready (rs := [4, 8]) (by kernel_rfl) (by simp) ?_
        refine (AllReadyH.cons (o := ⟨some 26, _, _, _, _, _⟩) rfl (fun K hK => ?_) (AllReadyH.cons (o := ⟨some 30, _, _, _, _, _⟩) rfl (fun K hK => ?_) AllReadyH.nil))
        · have hbsp2 := (HT1.out.bs _ (List.mem_cons_self)).1
          try simp at hbsp2
          refine step_append_seen _ (by rfl) _ _ _ (by rfl) w.heap.size 3 i0 _ 1 8 Try.underlying24 hi0 hz0 hz1 hz2 rfl (by omega) _ X.length (iv X) (by rfl) (HT1.out.os) _ _ 1 1 [.int .i64 ts] (by rfl) (seen_whole hbsp2) (one_int _) (by simp only [maxLen]; omega) (by omega) HT1.out.bl.size ?_
          intro vp2 wp2 hownp2 hgp2 hatp2
          have HT2 := Lib.hid (HT1.out.push1 ts hownp2 hgp2 hatp2)
          clear hbsp2 hownp2 hgp2 hatp2
          refine hK.out _ _ HT2.out.P (fun hHeld2 => ?_)
          clear hK K hHeld
          have hHeld := hHeld2; clear hHeld2
          try simp only [Act.put, List.setIfInBounds_toArray, List.set_cons_zero, List.set_cons_succ]
          refine wpAnyH_ready (rs := [8]) (by kernel_rfl) (by simp) ?_
          refine (AllReadyH.cons (o := ⟨some 30, _, _, _, _, _⟩) rfl (fun K hK => ?_) AllReadyH.nil)
          · go_simp
            have HT3 := Lib.hid (HT2.out.alloc tm)
            refine hK.out _ _ HT3.out.P (fun hHeld2 => ?_)
            clear hK K hHeld
            have hHeld := hHeld2; clear hHeld2
            try simp only [Act.put, List.setIfInBounds_toArray, List.set_cons_zero, List.set_cons_succ]
            refine wpAnyH_ready (rs := [9]) (by kernel_rfl) (by simp) ?_
            refine (AllReadyH.cons (o := ⟨some 31, _, _, _, _, _⟩) rfl (fun K hK => ?_) AllReadyH.nil)
            · have hbsp4 := (HT3.out.bs _ (List.mem_cons_self)).1
              try simp at hbsp4
              refine step_append_seen _ (by rfl) _ _ _ (by rfl) w.heap.size 3 i0 _ 1 8 Try.underlying24 hi0 hz0 hz1 hz2 rfl (by omega) _ Y.length (iv Y) (by rfl) (HT3.out.ot) _ _ 1 1 [.int .i64 tm] (by rfl) (seen_whole hbsp4) (one_int _) (by simp only [maxLen]; omega) (by omega) HT3.out.bl.size ?_
              intro vp4 wp4 hownp4 hgp4 hatp4
              have HT4 := Lib.hid (HT3.out.push2 tm hownp4 hgp4 hatp4)
              clear hbsp4 hownp4 hgp4 hatp4
              refine hK.out _ _ HT4.out.P (fun hHeld2 => ?_)
              clear hK K hHeld
              have hHeld := hHeld2; clear hHeld2
              try simp only [Act.put, List.setIfInBounds_toArray, List.set_cons_zero, List.set_cons_succ]
              refine wpAnyH_take (i := 10) (oi := ⟨some 3, _, _, _, _, _⟩) (v := ?vz348910) rfl (by kernel_rfl) (by kernel_rfl) (by kernel_rfl) (fun _ _ _ h => h) (Or.inl ⟨by rfl, ?hyz348910⟩) (by assumption) ?restz348910
              case hyz348910 => intro W hSW; go_simp; try rfl
              try simp only [Act.put, List.setIfInBounds_toArray, List.set_cons_zero, List.set_cons_succ]
              refine wpAnyH_take (i := 11) (oi := ⟨some 4, _, _, _, _, _⟩) (v := ?vz348911) rfl (by kernel_rfl) (by kernel_rfl) (by kernel_rfl) (fun _ _ _ h => h) (Or.inl ⟨by rfl, ?hyz348911⟩) (by assumption) ?restz348911
              case hyz348911 => intro W hSW; go_simp; try rfl
              try simp only [Act.put, List.setIfInBounds_toArray, List.set_cons_zero, List.set_cons_succ]
              refine wpAnyH_done (by kernel_rfl) ?_ _
              have HF := HT4
              go_wp2_with fail
              refine wp_region_held_drew (S := (fun W => Two w W gp ts tm _ _ _ _ _)) (by kernel_rfl) HF.out.drew (fun hHeld => ?_)
              refine wpAnyH_take (i := 0) (oi := ⟨some 32, _, _, _, _, _⟩) (v := ?vra0) rfl (by kernel_rfl) (by kernel_rfl) (by kernel_rfl) (fun _ _ _ h => h) (Or.inl ⟨by rfl, ?hyra0⟩) (by assumption) ?restra0
              case hyra0 => intro W hSW; go_simp; try rfl
              try simp only [Act.put, List.setIfInBounds_toArray, List.set_cons_zero, List.set_cons_succ]
              refine wpAnyH_take (i := 1) (oi := ⟨some 33, _, _, _, _, _⟩) (v := ?vra1) rfl (by kernel_rfl) (by kernel_rfl) (by kernel_rfl) (fun _ _ _ h => h) (Or.inl ⟨by rfl, ?hyra1⟩) (by assumption) ?restra1
              case hyra1 => intro W hSW; have q0 : W.cell? ⟨gp, 0, none⟩ = some (.int .i64 ts) := hSW.P.cell 0; have q1 : W.cell? ⟨gp, 1, none⟩ = some (.int .i64 tm) := hSW.P.cell 1; go_simp; try rfl
              try simp only [Act.put, List.setIfInBounds_toArray, List.set_cons_zero, List.set_cons_succ]
              refine wpAnyH_take (i := 3) (oi := ⟨some 35, _, _, _, _, _⟩) (v := ?vra3) rfl (by kernel_rfl) (by kernel_rfl) (by kernel_rfl) (fun _ _ _ h => h) (Or.inl ⟨by rfl, ?hyra3⟩) (by assumption) ?restra3
              case hyra3 => intro W hSW; go_simp; try rfl
              try simp only [Act.put, List.setIfInBounds_toArray, List.set_cons_zero, List.set_cons_succ]
              refine wpAnyH_take (i := 4) (oi := ⟨some 36, _, _, _, _, _⟩) (v := ?vra4) rfl (by kernel_rfl) (by kernel_rfl) (by kernel_rfl) (fun _ _ _ h => h) (Or.inl ⟨by rfl, ?hyra4⟩) (by assumption) ?restra4
              case hyra4 => intro W hSW; have q0 : W.cell? ⟨gp, 0, none⟩ = some (.int .i64 ts) := hSW.P.cell 0; have q1 : W.cell? ⟨gp, 1, none⟩ = some (.int .i64 tm) := hSW.P.cell 1; go_simp; try rfl
              try simp only [Act.put, List.setIfInBounds_toArray, List.set_cons_zero, List.set_cons_succ]
              refine wpAnyH_ready (rs := [2]) (by kernel_rfl) (by simp) ?_
              refine AllReadyH.cons (o := ⟨some 34, _, _, _, _, _⟩) rfl (fun K hK => ?_) AllReadyH.nil
              go_simp
              refine (CB1.out _).mono ?_
              rintro e waa ⟨rfl, rfl⟩
              refine hK.out _ _ ?_ (fun hHeld2 => ?_)
              · exact hHeld
              clear hK K hHeld
              have hHeld := hHeld2; clear hHeld2
              try simp only [Act.put, List.setIfInBounds_toArray, List.set_cons_zero, List.set_cons_succ]
              refine wpAnyH_ready (rs := [5]) (by kernel_rfl) (by simp) ?_
              refine AllReadyH.cons (o := ⟨some 37, _, _, _, _, _⟩) rfl (fun K hK => ?_) AllReadyH.nil
              go_simp
              refine (CB2.out _).mono ?_
              rintro e wba ⟨rfl, rfl⟩
              refine hK.out _ _ ?_ (fun hHeld2 => ?_)
              · exact hHeld
              clear hK K hHeld
              have hHeld := hHeld2; clear hHeld2
              try simp only [Act.put, List.setIfInBounds_toArray, List.set_cons_zero, List.set_cons_succ]
              refine wpAnyH_take (i := 6) (oi := ⟨some 38, _, _, _, _, _⟩) (v := ?vra6) rfl (by kernel_rfl) (by kernel_rfl) (by kernel_rfl) (fun _ _ _ h => h) (Or.inl ⟨by rfl, ?hyra6⟩) (by assumption) ?restra6
              case hyra6 => intro W hSW; go_simp; try rfl
              try simp only [Act.put, List.setIfInBounds_toArray, List.set_cons_zero, List.set_cons_succ]
              refine wpAnyH_take (i := 7) (oi := ⟨some 39, _, _, _, _, _⟩) (v := ?vra7) rfl (by kernel_rfl) (by kernel_rfl) (by kernel_rfl) (fun _ _ _ h => h) (Or.inl ⟨by rfl, ?hyra7⟩) (by assumption) ?restra7
              case hyra7 => intro W hSW; go_simp; try rfl
              try simp only [Act.put, List.setIfInBounds_toArray, List.set_cons_zero, List.set_cons_succ]
              refine wpAnyH_take (i := 8) (oi := ⟨some 40, _, _, _, _, _⟩) (v := ?vra8) rfl (by kernel_rfl) (by kernel_rfl) (by kernel_rfl) (fun _ _ _ h => h) (Or.inl ⟨by rfl, ?hyra8⟩) (by assumption) ?restra8
              case hyra8 => intro W hSW; have q0 : W.cell? ⟨gp, 0, none⟩ = some (.int .i64 ts) := hSW.P.cell 0; have q1 : W.cell? ⟨gp, 1, none⟩ = some (.int .i64 tm) := hSW.P.cell 1; go_simp; try rfl
              try simp only [Act.put, List.setIfInBounds_toArray, List.set_cons_zero, List.set_cons_succ]
              refine wpAnyH_take (i := 10) (oi := ⟨some 42, _, _, _, _, _⟩) (v := ?vra10) rfl (by kernel_rfl) (by kernel_rfl) (by kernel_rfl) (fun _ _ _ h => h) (Or.inl ⟨by rfl, ?hyra10⟩) (by assumption) ?restra10
              case hyra10 => intro W hSW; go_simp; try rfl
              try simp only [Act.put, List.setIfInBounds_toArray, List.set_cons_zero, List.set_cons_succ]
              refine wpAnyH_take (i := 11) (oi := ⟨some 43, _, _, _, _, _⟩) (v := ?vra11) rfl (by kernel_rfl) (by kernel_rfl) (by kernel_rfl) (fun _ _ _ h => h) (Or.inl ⟨by rfl, ?hyra11⟩) (by assumption) ?restra11
              case hyra11 => intro W hSW; have q0 : W.cell? ⟨gp, 0, none⟩ = some (.int .i64 ts) := hSW.P.cell 0; have q1 : W.cell? ⟨gp, 1, none⟩ = some (.int .i64 tm) := hSW.P.cell 1; go_simp; try rfl
              try simp only [Act.put, List.setIfInBounds_toArray, List.set_cons_zero, List.set_cons_succ]
              refine wpAnyH_take (i := 12) (oi := ⟨some 44, _, _, _, _, _⟩) (v := ?vra12) rfl (by kernel_rfl) (by kernel_rfl) (by kernel_rfl) (fun _ _ _ h => h) (Or.inl ⟨by rfl, ?hyra12⟩) (by assumption) ?restra12
              case hyra12 => intro W hSW; go_simp; try rfl
              try simp only [Act.put, List.setIfInBounds_toArray, List.set_cons_zero, List.set_cons_succ]
              refine wpAnyH_take (i := 13) (oi := ⟨some 45, _, _, _, _, _⟩) (v := ?vra13) rfl (by kernel_rfl) (by kernel_rfl) (by kernel_rfl) (fun _ _ _ h => h) (Or.inl ⟨by rfl, ?hyra13⟩) (by assumption) ?restra13
              case hyra13 => intro W hSW; have q0 : W.cell? ⟨gp, 0, none⟩ = some (.int .i64 ts) := hSW.P.cell 0; have q1 : W.cell? ⟨gp, 1, none⟩ = some (.int .i64 tm) := hSW.P.cell 1; go_simp; try rfl
              try simp only [Act.put, List.setIfInBounds_toArray, List.set_cons_zero, List.set_cons_succ]
              refine wpAnyH_ready (rs := [9]) (by kernel_rfl) (by simp) ?_
              refine AllReadyH.cons (o := ⟨some 41, _, _, _, _, _⟩) rfl (fun K hK => ?_) AllReadyH.nil
              go_simp
              refine (CR1.out _).mono ?_
              rintro e wca ⟨rfl, hbca⟩
              refine hK.out _ _ ?_ (fun hHeld2 => ?_)
              · exact hHeld.below hbca
              clear hK K hHeld
              have hHeld := hHeld2; clear hHeld2
              try simp only [Act.put, List.setIfInBounds_toArray, List.set_cons_zero, List.set_cons_succ]
              refine wpAnyH_ready (rs := [14]) (by kernel_rfl) (by simp) ?_
              refine AllReadyH.cons (o := ⟨some 46, _, _, _, _, _⟩) rfl (fun K hK => ?_) AllReadyH.nil
              go_simp
              refine (CR2.out _).mono ?_
              rintro e wda ⟨rfl, rfl⟩
              refine hK.out _ _ ?_ (fun hHeld2 => ?_)
              · exact hHeld
              clear hK K hHeld
              have hHeld := hHeld2; clear hHeld2
              try simp only [Act.put, List.setIfInBounds_toArray, List.set_cons_zero, List.set_cons_succ]
              refine wpAnyH_take (i := 15) (oi := ⟨some 47, _, _, _, _, _⟩) (v := ?vra15) rfl (by kernel_rfl) (by kernel_rfl) (by kernel_rfl) (fun _ _ _ h => h) (Or.inl ⟨by rfl, ?hyra15⟩) (by assumption) ?restra15
              case hyra15 => intro W hSW; go_simp; try rfl
              try simp only [Act.put, List.setIfInBounds_toArray, List.set_cons_zero, List.set_cons_succ]
              refine wpAnyH_take (i := 16) (oi := ⟨some 48, _, _, _, _, _⟩) (v := ?vra16) rfl (by kernel_rfl) (by kernel_rfl) (by kernel_rfl) (fun _ _ _ h => h) (Or.inl ⟨by rfl, ?hyra16⟩) (by assumption) ?restra16
              case hyra16 => intro W hSW; go_simp; try rfl
              try simp only [Act.put, List.setIfInBounds_toArray, List.set_cons_zero, List.set_cons_succ]
              refine wpAnyH_done (by kernel_rfl) ?_ _
              go_wp2_with fail
              go_roundw
              case rel => exact ⟨k + 1, by omega, by go_num, Lib.hid ⟨by rw [E1.out]; exact hHeld.os, by rw [E2.out]; exact hHeld.ot, hHeld.ap, hHeld.bl⟩⟩
              case measure => simp [intOf]; omega
        · go_simp
          have HT5 := Lib.hid (HT1.out.alloc tm)
          refine hK.out _ _ HT5.out.P (fun hHeld2 => ?_)
          clear hK K hHeld
          have hHeld := hHeld2; clear hHeld2
          try simp only [Act.put, List.setIfInBounds_toArray, List.set_cons_zero, List.set_cons_succ]
          refine wpAnyH_ready (rs := [4]) (by kernel_rfl) (by simp) ?_
          refine (AllReadyH.cons (o := ⟨some 26, _, _, _, _, _⟩) rfl (fun K hK => ?_) AllReadyH.nil)
          · have hbsp6 := (HT5.out.bs _ (List.mem_cons_of_mem _ List.mem_cons_self)).1
            try simp at hbsp6
            refine step_append_seen _ (by rfl) _ _ _ (by rfl) w.heap.size 3 i0 _ 1 8 Try.underlying24 hi0 hz0 hz1 hz2 rfl (by omega) _ X.length (iv X) (by rfl) (HT5.out.os) _ _ 1 1 [.int .i64 ts] (by rfl) (seen_whole hbsp6) (one_int _) (by simp only [maxLen]; omega) (by omega) HT5.out.bl.size ?_
            intro vp6 wp6 hownp6 hgp6 hatp6
            have HT6 := Lib.hid (HT5.out.push1 ts hownp6 hgp6 hatp6)
            clear hbsp6 hownp6 hgp6 hatp6
            refine hK.out _ _ HT6.out.P (fun hHeld2 => ?_)
            clear hK K hHeld
            have hHeld := hHeld2; clear hHeld2
            try simp only [Act.put, List.setIfInBounds_toArray, List.set_cons_zero, List.set_cons_succ]
            refine wpAnyH_ready (rs := [9]) (by kernel_rfl) (by simp) ?_
            refine (AllReadyH.cons (o := ⟨some 31, _, _, _, _, _⟩) rfl (fun K hK => ?_) AllReadyH.nil)
            · have hbsp7 := (HT6.out.bs _ (List.mem_cons_self)).1
              try simp at hbsp7
              refine step_append_seen _ (by rfl) _ _ _ (by rfl) w.heap.size 3 i0 _ 1 8 Try.underlying24 hi0 hz0 hz1 hz2 rfl (by omega) _ Y.length (iv Y) (by rfl) (HT6.out.ot) _ _ 1 1 [.int .i64 tm] (by rfl) (seen_whole hbsp7) (one_int _) (by simp only [maxLen]; omega) (by omega) HT6.out.bl.size ?_
              intro vp7 wp7 hownp7 hgp7 hatp7
              have HT7 := Lib.hid (HT6.out.push2 tm hownp7 hgp7 hatp7)
              clear hbsp7 hownp7 hgp7 hatp7
              refine hK.out _ _ HT7.out.P (fun hHeld2 => ?_)
              clear hK K hHeld
              have hHeld := hHeld2; clear hHeld2
              try simp only [Act.put, List.setIfInBounds_toArray, List.set_cons_zero, List.set_cons_succ]
              refine wpAnyH_take (i := 10) (oi := ⟨some 3, _, _, _, _, _⟩) (v := ?vz384910) rfl (by kernel_rfl) (by kernel_rfl) (by kernel_rfl) (fun _ _ _ h => h) (Or.inl ⟨by rfl, ?hyz384910⟩) (by assumption) ?restz384910
              case hyz384910 => intro W hSW; go_simp; try rfl
              try simp only [Act.put, List.setIfInBounds_toArray, List.set_cons_zero, List.set_cons_succ]
              refine wpAnyH_take (i := 11) (oi := ⟨some 4, _, _, _, _, _⟩) (v := ?vz384911) rfl (by kernel_rfl) (by kernel_rfl) (by kernel_rfl) (fun _ _ _ h => h) (Or.inl ⟨by rfl, ?hyz384911⟩) (by assumption) ?restz384911
              case hyz384911 => intro W hSW; go_simp; try rfl
              try simp only [Act.put, List.setIfInBounds_toArray, List.set_cons_zero, List.set_cons_succ]
              refine wpAnyH_done (by kernel_rfl) ?_ _
              have HF := HT7
              go_wp2_with fail
              refine wp_region_held_drew (S := (fun W => Two w W gp ts tm _ _ _ _ _)) (by kernel_rfl) HF.out.drew (fun hHeld => ?_)
              refine wpAnyH_take (i := 0) (oi := ⟨some 32, _, _, _, _, _⟩) (v := ?vrb0) rfl (by kernel_rfl) (by kernel_rfl) (by kernel_rfl) (fun _ _ _ h => h) (Or.inl ⟨by rfl, ?hyrb0⟩) (by assumption) ?restrb0
              case hyrb0 => intro W hSW; go_simp; try rfl
              try simp only [Act.put, List.setIfInBounds_toArray, List.set_cons_zero, List.set_cons_succ]
              refine wpAnyH_take (i := 1) (oi := ⟨some 33, _, _, _, _, _⟩) (v := ?vrb1) rfl (by kernel_rfl) (by kernel_rfl) (by kernel_rfl) (fun _ _ _ h => h) (Or.inl ⟨by rfl, ?hyrb1⟩) (by assumption) ?restrb1
              case hyrb1 => intro W hSW; have q0 : W.cell? ⟨gp, 0, none⟩ = some (.int .i64 ts) := hSW.P.cell 0; have q1 : W.cell? ⟨gp, 1, none⟩ = some (.int .i64 tm) := hSW.P.cell 1; go_simp; try rfl
              try simp only [Act.put, List.setIfInBounds_toArray, List.set_cons_zero, List.set_cons_succ]
              refine wpAnyH_take (i := 3) (oi := ⟨some 35, _, _, _, _, _⟩) (v := ?vrb3) rfl (by kernel_rfl) (by kernel_rfl) (by kernel_rfl) (fun _ _ _ h => h) (Or.inl ⟨by rfl, ?hyrb3⟩) (by assumption) ?restrb3
              case hyrb3 => intro W hSW; go_simp; try rfl
              try simp only [Act.put, List.setIfInBounds_toArray, List.set_cons_zero, List.set_cons_succ]
              refine wpAnyH_take (i := 4) (oi := ⟨some 36, _, _, _, _, _⟩) (v := ?vrb4) rfl (by kernel_rfl) (by kernel_rfl) (by kernel_rfl) (fun _ _ _ h => h) (Or.inl ⟨by rfl, ?hyrb4⟩) (by assumption) ?restrb4
              case hyrb4 => intro W hSW; have q0 : W.cell? ⟨gp, 0, none⟩ = some (.int .i64 ts) := hSW.P.cell 0; have q1 : W.cell? ⟨gp, 1, none⟩ = some (.int .i64 tm) := hSW.P.cell 1; go_simp; try rfl
              try simp only [Act.put, List.setIfInBounds_toArray, List.set_cons_zero, List.set_cons_succ]
              refine wpAnyH_ready (rs := [2]) (by kernel_rfl) (by simp) ?_
              refine AllReadyH.cons (o := ⟨some 34, _, _, _, _, _⟩) rfl (fun K hK => ?_) AllReadyH.nil
              go_simp
              refine (CB1.out _).mono ?_
              rintro e wab ⟨rfl, rfl⟩
              refine hK.out _ _ ?_ (fun hHeld2 => ?_)
              · exact hHeld
              clear hK K hHeld
              have hHeld := hHeld2; clear hHeld2
              try simp only [Act.put, List.setIfInBounds_toArray, List.set_cons_zero, List.set_cons_succ]
              refine wpAnyH_ready (rs := [5]) (by kernel_rfl) (by simp) ?_
              refine AllReadyH.cons (o := ⟨some 37, _, _, _, _, _⟩) rfl (fun K hK => ?_) AllReadyH.nil
              go_simp
              refine (CB2.out _).mono ?_
              rintro e wbb ⟨rfl, rfl⟩
              refine hK.out _ _ ?_ (fun hHeld2 => ?_)
              · exact hHeld
              clear hK K hHeld
              have hHeld := hHeld2; clear hHeld2
              try simp only [Act.put, List.setIfInBounds_toArray, List.set_cons_zero, List.set_cons_succ]
              refine wpAnyH_take (i := 6) (oi := ⟨some 38, _, _, _, _, _⟩) (v := ?vrb6) rfl (by kernel_rfl) (by kernel_rfl) (by kernel_rfl) (fun _ _ _ h => h) (Or.inl ⟨by rfl, ?hyrb6⟩) (by assumption) ?restrb6
              case hyrb6 => intro W hSW; go_simp; try rfl
              try simp only [Act.put, List.setIfInBounds_toArray, List.set_cons_zero, List.set_cons_succ]
              refine wpAnyH_take (i := 7) (oi := ⟨some 39, _, _, _, _, _⟩) (v := ?vrb7) rfl (by kernel_rfl) (by kernel_rfl) (by kernel_rfl) (fun _ _ _ h => h) (Or.inl ⟨by rfl, ?hyrb7⟩) (by assumption) ?restrb7
              case hyrb7 => intro W hSW; go_simp; try rfl
              try simp only [Act.put, List.setIfInBounds_toArray, List.set_cons_zero, List.set_cons_succ]
              refine wpAnyH_take (i := 8) (oi := ⟨some 40, _, _, _, _, _⟩) (v := ?vrb8) rfl (by kernel_rfl) (by kernel_rfl) (by kernel_rfl) (fun _ _ _ h => h) (Or.inl ⟨by rfl, ?hyrb8⟩) (by assumption) ?restrb8
              case hyrb8 => intro W hSW; have q0 : W.cell? ⟨gp, 0, none⟩ = some (.int .i64 ts) := hSW.P.cell 0; have q1 : W.cell? ⟨gp, 1, none⟩ = some (.int .i64 tm) := hSW.P.cell 1; go_simp; try rfl
              try simp only [Act.put, List.setIfInBounds_toArray, List.set_cons_zero, List.set_cons_succ]
              refine wpAnyH_take (i := 10) (oi := ⟨some 42, _, _, _, _, _⟩) (v := ?vrb10) rfl (by kernel_rfl) (by kernel_rfl) (by kernel_rfl) (fun _ _ _ h => h) (Or.inl ⟨by rfl, ?hyrb10⟩) (by assumption) ?restrb10
              case hyrb10 => intro W hSW; go_simp; try rfl
              try simp only [Act.put, List.setIfInBounds_toArray, List.set_cons_zero, List.set_cons_succ]
              refine wpAnyH_take (i := 11) (oi := ⟨some 43, _, _, _, _, _⟩) (v := ?vrb11) rfl (by kernel_rfl) (by kernel_rfl) (by kernel_rfl) (fun _ _ _ h => h) (Or.inl ⟨by rfl, ?hyrb11⟩) (by assumption) ?restrb11
              case hyrb11 => intro W hSW; have q0 : W.cell? ⟨gp, 0, none⟩ = some (.int .i64 ts) := hSW.P.cell 0; have q1 : W.cell? ⟨gp, 1, none⟩ = some (.int .i64 tm) := hSW.P.cell 1; go_simp; try rfl
              try simp only [Act.put, List.setIfInBounds_toArray, List.set_cons_zero, List.set_cons_succ]
              refine wpAnyH_take (i := 12) (oi := ⟨some 44, _, _, _, _, _⟩) (v := ?vrb12) rfl (by kernel_rfl) (by kernel_rfl) (by kernel_rfl) (fun _ _ _ h => h) (Or.inl ⟨by rfl, ?hyrb12⟩) (by assumption) ?restrb12
              case hyrb12 => intro W hSW; go_simp; try rfl
              try simp only [Act.put, List.setIfInBounds_toArray, List.set_cons_zero, List.set_cons_succ]
              refine wpAnyH_take (i := 13) (oi := ⟨some 45, _, _, _, _, _⟩) (v := ?vrb13) rfl (by kernel_rfl) (by kernel_rfl) (by kernel_rfl) (fun _ _ _ h => h) (Or.inl ⟨by rfl, ?hyrb13⟩) (by assumption) ?restrb13
              case hyrb13 => intro W hSW; have q0 : W.cell? ⟨gp, 0, none⟩ = some (.int .i64 ts) := hSW.P.cell 0; have q1 : W.cell? ⟨gp, 1, none⟩ = some (.int .i64 tm) := hSW.P.cell 1; go_simp; try rfl
              try simp only [Act.put, List.setIfInBounds_toArray, List.set_cons_zero, List.set_cons_succ]
              refine wpAnyH_ready (rs := [9]) (by kernel_rfl) (by simp) ?_
              refine AllReadyH.cons (o := ⟨some 41, _, _, _, _, _⟩) rfl (fun K hK => ?_) AllReadyH.nil
              go_simp
              refine (CR1.out _).mono ?_
              rintro e wcb ⟨rfl, hbcb⟩
              refine hK.out _ _ ?_ (fun hHeld2 => ?_)
              · exact hHeld.below hbcb
              clear hK K hHeld
              have hHeld := hHeld2; clear hHeld2
              try simp only [Act.put, List.setIfInBounds_toArray, List.set_cons_zero, List.set_cons_succ]
              refine wpAnyH_ready (rs := [14]) (by kernel_rfl) (by simp) ?_
              refine AllReadyH.cons (o := ⟨some 46, _, _, _, _, _⟩) rfl (fun K hK => ?_) AllReadyH.nil
              go_simp
              refine (CR2.out _).mono ?_
              rintro e wdb ⟨rfl, rfl⟩
              refine hK.out _ _ ?_ (fun hHeld2 => ?_)
              · exact hHeld
              clear hK K hHeld
              have hHeld := hHeld2; clear hHeld2
              try simp only [Act.put, List.setIfInBounds_toArray, List.set_cons_zero, List.set_cons_succ]
              refine wpAnyH_take (i := 15) (oi := ⟨some 47, _, _, _, _, _⟩) (v := ?vrb15) rfl (by kernel_rfl) (by kernel_rfl) (by kernel_rfl) (fun _ _ _ h => h) (Or.inl ⟨by rfl, ?hyrb15⟩) (by assumption) ?restrb15
              case hyrb15 => intro W hSW; go_simp; try rfl
              try simp only [Act.put, List.setIfInBounds_toArray, List.set_cons_zero, List.set_cons_succ]
              refine wpAnyH_take (i := 16) (oi := ⟨some 48, _, _, _, _, _⟩) (v := ?vrb16) rfl (by kernel_rfl) (by kernel_rfl) (by kernel_rfl) (fun _ _ _ h => h) (Or.inl ⟨by rfl, ?hyrb16⟩) (by assumption) ?restrb16
              case hyrb16 => intro W hSW; go_simp; try rfl
              try simp only [Act.put, List.setIfInBounds_toArray, List.set_cons_zero, List.set_cons_succ]
              refine wpAnyH_done (by kernel_rfl) ?_ _
              go_wp2_with fail
              go_roundw
              case rel => exact ⟨k + 1, by omega, by go_num, Lib.hid ⟨by rw [E1.out]; exact hHeld.os, by rw [E2.out]; exact hHeld.ot, hHeld.ap, hHeld.bl⟩⟩
              case measure => simp [intOf]; omega
      · go_simp
        have HT8 := Lib.hid (HT0.out.alloc tm)
        refine hK.out _ _ HT8.out.P (fun hHeld2 => ?_)
        clear hK K hHeld
        have hHeld := hHeld2; clear hHeld2
        try simp only [Act.put, List.setIfInBounds_toArray, List.set_cons_zero, List.set_cons_succ]
        refine wpAnyH_ready (rs := [3]) (by kernel_rfl) (by simp) ?_
        refine (AllReadyH.cons (o := ⟨some 25, _, _, _, _, _⟩) rfl (fun K hK => ?_) AllReadyH.nil)
        · go_simp
          have HT9 := Lib.hid (HT8.out.alloc ts)
          refine hK.out _ _ HT9.out.P (fun hHeld2 => ?_)
          clear hK K hHeld
          have hHeld := hHeld2; clear hHeld2
          try simp only [Act.put, List.setIfInBounds_toArray, List.set_cons_zero, List.set_cons_succ]
          refine wpAnyH_ready (rs := [4]) (by kernel_rfl) (by simp) ?_
          refine (AllReadyH.cons (o := ⟨some 26, _, _, _, _, _⟩) rfl (fun K hK => ?_) AllReadyH.nil)
          · have hbsp10 := (HT9.out.bs _ (List.mem_cons_self)).1
            try simp at hbsp10
            refine step_append_seen _ (by rfl) _ _ _ (by rfl) w.heap.size 3 i0 _ 1 8 Try.underlying24 hi0 hz0 hz1 hz2 rfl (by omega) _ X.length (iv X) (by rfl) (HT9.out.os) _ _ 1 1 [.int .i64 ts] (by rfl) (seen_whole hbsp10) (one_int _) (by simp only [maxLen]; omega) (by omega) HT9.out.bl.size ?_
            intro vp10 wp10 hownp10 hgp10 hatp10
            have HT10 := Lib.hid (HT9.out.push1 ts hownp10 hgp10 hatp10)
            clear hbsp10 hownp10 hgp10 hatp10
            refine hK.out _ _ HT10.out.P (fun hHeld2 => ?_)
            clear hK K hHeld
            have hHeld := hHeld2; clear hHeld2
            try simp only [Act.put, List.setIfInBounds_toArray, List.set_cons_zero, List.set_cons_succ]
            refine wpAnyH_ready (rs := [9]) (by kernel_rfl) (by simp) ?_
            refine (AllReadyH.cons (o := ⟨some 31, _, _, _, _, _⟩) rfl (fun K hK => ?_) AllReadyH.nil)
            · have hbsp11 := (HT10.out.bs _ (List.mem_cons_of_mem _ List.mem_cons_self)).1
              try simp at hbsp11
              refine step_append_seen _ (by rfl) _ _ _ (by rfl) w.heap.size 3 i0 _ 1 8 Try.underlying24 hi0 hz0 hz1 hz2 rfl (by omega) _ Y.length (iv Y) (by rfl) (HT10.out.ot) _ _ 1 1 [.int .i64 tm] (by rfl) (seen_whole hbsp11) (one_int _) (by simp only [maxLen]; omega) (by omega) HT10.out.bl.size ?_
              intro vp11 wp11 hownp11 hgp11 hatp11
              have HT11 := Lib.hid (HT10.out.push2 tm hownp11 hgp11 hatp11)
              clear hbsp11 hownp11 hgp11 hatp11
              refine hK.out _ _ HT11.out.P (fun hHeld2 => ?_)
              clear hK K hHeld
              have hHeld := hHeld2; clear hHeld2
              try simp only [Act.put, List.setIfInBounds_toArray, List.set_cons_zero, List.set_cons_succ]
              refine wpAnyH_take (i := 10) (oi := ⟨some 3, _, _, _, _, _⟩) (v := ?vz834910) rfl (by kernel_rfl) (by kernel_rfl) (by kernel_rfl) (fun _ _ _ h => h) (Or.inl ⟨by rfl, ?hyz834910⟩) (by assumption) ?restz834910
              case hyz834910 => intro W hSW; go_simp; try rfl
              try simp only [Act.put, List.setIfInBounds_toArray, List.set_cons_zero, List.set_cons_succ]
              refine wpAnyH_take (i := 11) (oi := ⟨some 4, _, _, _, _, _⟩) (v := ?vz834911) rfl (by kernel_rfl) (by kernel_rfl) (by kernel_rfl) (fun _ _ _ h => h) (Or.inl ⟨by rfl, ?hyz834911⟩) (by assumption) ?restz834911
              case hyz834911 => intro W hSW; go_simp; try rfl
              try simp only [Act.put, List.setIfInBounds_toArray, List.set_cons_zero, List.set_cons_succ]
              refine wpAnyH_done (by kernel_rfl) ?_ _
              have HF := HT11
              go_wp2_with fail
              refine wp_region_held_drew (S := (fun W => Two w W gp ts tm _ _ _ _ _)) (by kernel_rfl) HF.out.drew (fun hHeld => ?_)
              refine wpAnyH_take (i := 0) (oi := ⟨some 32, _, _, _, _, _⟩) (v := ?vrc0) rfl (by kernel_rfl) (by kernel_rfl) (by kernel_rfl) (fun _ _ _ h => h) (Or.inl ⟨by rfl, ?hyrc0⟩) (by assumption) ?restrc0
              case hyrc0 => intro W hSW; go_simp; try rfl
              try simp only [Act.put, List.setIfInBounds_toArray, List.set_cons_zero, List.set_cons_succ]
              refine wpAnyH_take (i := 1) (oi := ⟨some 33, _, _, _, _, _⟩) (v := ?vrc1) rfl (by kernel_rfl) (by kernel_rfl) (by kernel_rfl) (fun _ _ _ h => h) (Or.inl ⟨by rfl, ?hyrc1⟩) (by assumption) ?restrc1
              case hyrc1 => intro W hSW; have q0 : W.cell? ⟨gp, 0, none⟩ = some (.int .i64 ts) := hSW.P.cell 0; have q1 : W.cell? ⟨gp, 1, none⟩ = some (.int .i64 tm) := hSW.P.cell 1; go_simp; try rfl
              try simp only [Act.put, List.setIfInBounds_toArray, List.set_cons_zero, List.set_cons_succ]
              refine wpAnyH_take (i := 3) (oi := ⟨some 35, _, _, _, _, _⟩) (v := ?vrc3) rfl (by kernel_rfl) (by kernel_rfl) (by kernel_rfl) (fun _ _ _ h => h) (Or.inl ⟨by rfl, ?hyrc3⟩) (by assumption) ?restrc3
              case hyrc3 => intro W hSW; go_simp; try rfl
              try simp only [Act.put, List.setIfInBounds_toArray, List.set_cons_zero, List.set_cons_succ]
              refine wpAnyH_take (i := 4) (oi := ⟨some 36, _, _, _, _, _⟩) (v := ?vrc4) rfl (by kernel_rfl) (by kernel_rfl) (by kernel_rfl) (fun _ _ _ h => h) (Or.inl ⟨by rfl, ?hyrc4⟩) (by assumption) ?restrc4
              case hyrc4 => intro W hSW; have q0 : W.cell? ⟨gp, 0, none⟩ = some (.int .i64 ts) := hSW.P.cell 0; have q1 : W.cell? ⟨gp, 1, none⟩ = some (.int .i64 tm) := hSW.P.cell 1; go_simp; try rfl
              try simp only [Act.put, List.setIfInBounds_toArray, List.set_cons_zero, List.set_cons_succ]
              refine wpAnyH_ready (rs := [2]) (by kernel_rfl) (by simp) ?_
              refine AllReadyH.cons (o := ⟨some 34, _, _, _, _, _⟩) rfl (fun K hK => ?_) AllReadyH.nil
              go_simp
              refine (CB1.out _).mono ?_
              rintro e wac ⟨rfl, rfl⟩
              refine hK.out _ _ ?_ (fun hHeld2 => ?_)
              · exact hHeld
              clear hK K hHeld
              have hHeld := hHeld2; clear hHeld2
              try simp only [Act.put, List.setIfInBounds_toArray, List.set_cons_zero, List.set_cons_succ]
              refine wpAnyH_ready (rs := [5]) (by kernel_rfl) (by simp) ?_
              refine AllReadyH.cons (o := ⟨some 37, _, _, _, _, _⟩) rfl (fun K hK => ?_) AllReadyH.nil
              go_simp
              refine (CB2.out _).mono ?_
              rintro e wbc ⟨rfl, rfl⟩
              refine hK.out _ _ ?_ (fun hHeld2 => ?_)
              · exact hHeld
              clear hK K hHeld
              have hHeld := hHeld2; clear hHeld2
              try simp only [Act.put, List.setIfInBounds_toArray, List.set_cons_zero, List.set_cons_succ]
              refine wpAnyH_take (i := 6) (oi := ⟨some 38, _, _, _, _, _⟩) (v := ?vrc6) rfl (by kernel_rfl) (by kernel_rfl) (by kernel_rfl) (fun _ _ _ h => h) (Or.inl ⟨by rfl, ?hyrc6⟩) (by assumption) ?restrc6
              case hyrc6 => intro W hSW; go_simp; try rfl
              try simp only [Act.put, List.setIfInBounds_toArray, List.set_cons_zero, List.set_cons_succ]
              refine wpAnyH_take (i := 7) (oi := ⟨some 39, _, _, _, _, _⟩) (v := ?vrc7) rfl (by kernel_rfl) (by kernel_rfl) (by kernel_rfl) (fun _ _ _ h => h) (Or.inl ⟨by rfl, ?hyrc7⟩) (by assumption) ?restrc7
              case hyrc7 => intro W hSW; go_simp; try rfl
              try simp only [Act.put, List.setIfInBounds_toArray, List.set_cons_zero, List.set_cons_succ]
              refine wpAnyH_take (i := 8) (oi := ⟨some 40, _, _, _, _, _⟩) (v := ?vrc8) rfl (by kernel_rfl) (by kernel_rfl) (by kernel_rfl) (fun _ _ _ h => h) (Or.inl ⟨by rfl, ?hyrc8⟩) (by assumption) ?restrc8
              case hyrc8 => intro W hSW; have q0 : W.cell? ⟨gp, 0, none⟩ = some (.int .i64 ts) := hSW.P.cell 0; have q1 : W.cell? ⟨gp, 1, none⟩ = some (.int .i64 tm) := hSW.P.cell 1; go_simp; try rfl
              try simp only [Act.put, List.setIfInBounds_toArray, List.set_cons_zero, List.set_cons_succ]
              refine wpAnyH_take (i := 10) (oi := ⟨some 42, _, _, _, _, _⟩) (v := ?vrc10) rfl (by kernel_rfl) (by kernel_rfl) (by kernel_rfl) (fun _ _ _ h => h) (Or.inl ⟨by rfl, ?hyrc10⟩) (by assumption) ?restrc10
              case hyrc10 => intro W hSW; go_simp; try rfl
              try simp only [Act.put, List.setIfInBounds_toArray, List.set_cons_zero, List.set_cons_succ]
              refine wpAnyH_take (i := 11) (oi := ⟨some 43, _, _, _, _, _⟩) (v := ?vrc11) rfl (by kernel_rfl) (by kernel_rfl) (by kernel_rfl) (fun _ _ _ h => h) (Or.inl ⟨by rfl, ?hyrc11⟩) (by assumption) ?restrc11
              case hyrc11 => intro W hSW; have q0 : W.cell? ⟨gp, 0, none⟩ = some (.int .i64 ts) := hSW.P.cell 0; have q1 : W.cell? ⟨gp, 1, none⟩ = some (.int .i64 tm) := hSW.P.cell 1; go_simp; try rfl
              try simp only [Act.put, List.setIfInBounds_toArray, List.set_cons_zero, List.set_cons_succ]
              refine wpAnyH_take (i := 12) (oi := ⟨some 44, _, _, _, _, _⟩) (v := ?vrc12) rfl (by kernel_rfl) (by kernel_rfl) (by kernel_rfl) (fun _ _ _ h => h) (Or.inl ⟨by rfl, ?hyrc12⟩) (by assumption) ?restrc12
              case hyrc12 => intro W hSW; go_simp; try rfl
              try simp only [Act.put, List.setIfInBounds_toArray, List.set_cons_zero, List.set_cons_succ]
              refine wpAnyH_take (i := 13) (oi := ⟨some 45, _, _, _, _, _⟩) (v := ?vrc13) rfl (by kernel_rfl) (by kernel_rfl) (by kernel_rfl) (fun _ _ _ h => h) (Or.inl ⟨by rfl, ?hyrc13⟩) (by assumption) ?restrc13
              case hyrc13 => intro W hSW; have q0 : W.cell? ⟨gp, 0, none⟩ = some (.int .i64 ts) := hSW.P.cell 0; have q1 : W.cell? ⟨gp, 1, none⟩ = some (.int .i64 tm) := hSW.P.cell 1; go_simp; try rfl
              try simp only [Act.put, List.setIfInBounds_toArray, List.set_cons_zero, List.set_cons_succ]
              refine wpAnyH_ready (rs := [9]) (by kernel_rfl) (by simp) ?_
              refine AllReadyH.cons (o := ⟨some 41, _, _, _, _, _⟩) rfl (fun K hK => ?_) AllReadyH.nil
              go_simp
              refine (CR1.out _).mono ?_
              rintro e wcc ⟨rfl, hbcc⟩
              refine hK.out _ _ ?_ (fun hHeld2 => ?_)
              · exact hHeld.below hbcc
              clear hK K hHeld
              have hHeld := hHeld2; clear hHeld2
              try simp only [Act.put, List.setIfInBounds_toArray, List.set_cons_zero, List.set_cons_succ]
              refine wpAnyH_ready (rs := [14]) (by kernel_rfl) (by simp) ?_
              refine AllReadyH.cons (o := ⟨some 46, _, _, _, _, _⟩) rfl (fun K hK => ?_) AllReadyH.nil
              go_simp
              refine (CR2.out _).mono ?_
              rintro e wdc ⟨rfl, rfl⟩
              refine hK.out _ _ ?_ (fun hHeld2 => ?_)
              · exact hHeld
              clear hK K hHeld
              have hHeld := hHeld2; clear hHeld2
              try simp only [Act.put, List.setIfInBounds_toArray, List.set_cons_zero, List.set_cons_succ]
              refine wpAnyH_take (i := 15) (oi := ⟨some 47, _, _, _, _, _⟩) (v := ?vrc15) rfl (by kernel_rfl) (by kernel_rfl) (by kernel_rfl) (fun _ _ _ h => h) (Or.inl ⟨by rfl, ?hyrc15⟩) (by assumption) ?restrc15
              case hyrc15 => intro W hSW; go_simp; try rfl
              try simp only [Act.put, List.setIfInBounds_toArray, List.set_cons_zero, List.set_cons_succ]
              refine wpAnyH_take (i := 16) (oi := ⟨some 48, _, _, _, _, _⟩) (v := ?vrc16) rfl (by kernel_rfl) (by kernel_rfl) (by kernel_rfl) (fun _ _ _ h => h) (Or.inl ⟨by rfl, ?hyrc16⟩) (by assumption) ?restrc16
              case hyrc16 => intro W hSW; go_simp; try rfl
              try simp only [Act.put, List.setIfInBounds_toArray, List.set_cons_zero, List.set_cons_succ]
              refine wpAnyH_done (by kernel_rfl) ?_ _
              go_wp2_with fail
              go_roundw
              case rel => exact ⟨k + 1, by omega, by go_num, Lib.hid ⟨by rw [E1.out]; exact hHeld.os, by rw [E2.out]; exact hHeld.ot, hHeld.ap, hHeld.bl⟩⟩
              case measure => simp [intOf]; omega

    · obtain rfl : k = n := by omega
      obtain ⟨own1, own2, ap, hbel⟩ := h4.out
      have htk : l.take k = l := List.take_of_length_le (by rw [HN.out]; exact Nat.le_refl _)
      rw [htk] at own1 own2
      obtain ⟨A1, c1, rfl, _⟩ := own_form own1
      obtain ⟨A2, c2, rfl, _⟩ := own_form own2
      have hl1 : (sgs l).length = k := by rw [sgs_length]; exact HN.out
      have hl2 : (mrs l).length = k := by rw [mrs_length]; exact HN.out
      rw [hl1] at own1 ⊢
      rw [hl2] at own2 ⊢
      have HO1 := Lib.hid own1; have HO2 := Lib.hid own2; have BEL := Lib.hid hbel
      have hsz := hbel.size
      have CE := Lib.hid (expand_any A k c w.heap.size l (by omega) wr (HS.out.below hbel) hsz)
      clear own1 own2 ap hbel htk hl1 hl2 h4
      go_wp2_with fail
      refine CE.out.mono ?_
      have hre : ∀ W, Below wr.heap.size wr W → Calls Try.prog 11 #[.slice A1 k c1, .slice A2 k c2] W (ExpRes l W) := fun W hW =>
        rexpand_any A1 A2 k c1 c2 W.heap.size l (fun r hr => by have := (HWF.out r hr).2; omega) (by omega) W (Seen.of_own (own_only HO1.out (Only.of_below hW Nob) (fun _ _ h => h))) (Seen.of_own (own_only HO2.out (Only.of_below hW Nob) (fun _ _ h => h))) (Nat.le_refl _)
      have HRE := Lib.hid hre; clear hre
      rintro e w2 (⟨o, v, hx, rfl, hown, hol, hb2⟩ | ⟨er, he0, he100, hx, rfl, hb2⟩)
      · obtain ⟨Ao, co, rfl, _⟩ := own_form hown
        have HX := Lib.hid hx; have HOW := Lib.hid hown; have HB2 := Lib.hid hb2
        have CR := Lib.hid (HRE.out w2 hb2)
        clear hx hown hb2
        go_wp2_with fail
        refine CR.out.mono ?_
        rintro e w3 (⟨o', v', hx', rfl, hown', hol', hb3⟩ | ⟨er, he0, _, hx', _⟩)
        · have ho : o = o' := by rw [HX.out] at hx'; injection hx'
          subst ho
          obtain ⟨Ao', co', rfl, _⟩ := own_form hown'
          have CS := Lib.hid (fun W (hW : Below w3.heap.size w3 W) => same_any Ao Ao' o.length co o.length co' w3.heap.size o o rfl rfl (by omega) (by omega) W hW.size ((Seen.of_own (own_only HOW.out (Only.of_below hb3 Nob) (fun _ _ h => h))).below hW) ((Seen.of_own hown').below hW))
          have B3 := Lib.hid ((BEL.out.trans (HB2.out.mono hsz)).trans (hb3.mono (Nat.le_trans hsz HB2.out.size)))
          have hdd : decide (o = o) = true := decide_eq_true rfl
          rw [hdd] at CS
          clear hx' hown' hb3
          go_wp2_with fail
          refine (CS.out _ (Below.refl _ _)).mono ?_
          rintro e w4 ⟨rfl, hb4⟩
          have B4 := Lib.hid (B3.out.trans (hb4.mono B3.out.size))
          clear hb4
          go_wp2_with fail
          go_ret
          exact ⟨by simp, B4.out⟩
        · rw [HX.out] at hx'
          injection hx' with hx' _
          exact absurd hx'.symm he0
      · have HX := Lib.hid hx; have HB2 := Lib.hid hb2
        have CR := Lib.hid (HRE.out w2 hb2)
        clear hx hb2
        go_wp2_with fail
        refine CR.out.mono ?_
        rintro e w3 (⟨o', v', hx', _⟩ | ⟨er', _, _, hx', rfl, hb3⟩)
        · rw [HX.out] at hx'
          injection hx' with hx' _
          exact absurd hx' he0
        · have he : er = er' := by rw [HX.out] at hx'; injection hx'
          subst he
          have CS := Lib.hid (fun W => same_any none none 0 0 0 0 0 [] [] rfl rfl (by omega) (by omega) W (Nat.zero_le _) (seen_nil W 0) (seen_nil W 0))
          have hdd : decide (([] : List Int) = []) = true := rfl
          rw [hdd] at CS
          have B3 := Lib.hid ((BEL.out.trans (HB2.out.mono hsz)).trans (hb3.mono (Nat.le_trans hsz HB2.out.size)))
          have dee : ((er : Int) == er) = true := by simp
          clear hx' hb3
          go_wp2_with fail
          refine (CS.out _).mono ?_
          rintro e w4 ⟨rfl, hb4⟩
          have B4 := Lib.hid (B3.out.trans (hb4.mono B3.out.size))
          clear hb4
          go_wp2_with fail
          go_ret
          exact ⟨by simp, B4.out⟩

theorem expands_law (A : Option Addr) (n cp : Nat) (_ : n ≤ 9223372036854775807) (w : World)
    (hp : ∃ l : List Rn, l.length = n ∧ (∀ r ∈ l, WfR r) ∧ Seen w w.heap.size 2 A n cp (rvs l)) :
    Calls Try.prog 3 #[.slice A n cp] w fun e w' => e = .returned (.bool true) ∧ Below w.heap.size w w' := by
  obtain ⟨l, h1, h2, h3⟩ := hp
  by_cases hf : 400 < n
  · exact expand_far A n cp hf w
  · exact expand_near A n cp (by omega) l h2 w h3
end Go.Proofs.Ytnobeghnljjidaa
