/-
  Before. Conditions: dates and clocks are numbers of 16 bits.
-/
import Derived.Test.YtdoclbgmbneggaaDoorH
namespace Go.Proofs.YtdoclbgmbneggaaDoor
open Go.RowKit
set_option maxRecDepth 100000

set_option maxHeartbeats 1000000 in
theorem before_any (d c d2 c2 : Nat) (hd : d < 65536) (hc : c < 65536) (hd2 : d2 < 65536) (hc2 : c2 < 65536) (w : World) : Calls Tryd.prog 13 #[.agg #[.int .u16 d, .int .u16 c], .agg #[.int .u16 d2, .int .u16 c2]] w (Gives w (.bool (decide (d * 65536 + c < d2 * 65536 + c2)))) := by
  have ba := fun W => bits_any d c hd hc W
  have bb := fun W => bits_any d2 c2 hd2 hc2 W
  obtain ⟨x, hx⟩ : ∃ x, d * 65536 + c = x := ⟨_, rfl⟩
  obtain ⟨y, hy⟩ : ∃ x, d2 * 65536 + c2 = x := ⟨_, rfl⟩
  rw [hx] at ba ⊢
  rw [hy] at bb ⊢
  have BA := Lib.hid ba
  have BB := Lib.hid bb
  clear ba bb hx hy
  clear hd hc hd2 hc2
  have P0 := Lib.hid ((Whole.new w 24 (mom d c)).bel ((Below.refl _ _).alloc (Nat.le_refl _) (.cells (mom d2 c2) 24)))
  have P1 := Lib.hid (Whole.new (w.alloc (.cells (mom d c) 24)) 24 (mom d2 c2))
  have B0 := Lib.hid (((Below.refl w.heap.size w).alloc (Nat.le_refl _) (.cells (mom d c) 24)).alloc (by simp) (.cells (mom d2 c2) 24))
  obtain ⟨w0, hw0⟩ : ∃ W, (w.alloc (.cells (mom d c) 24)).alloc (.cells (mom d2 c2) 24) = W := ⟨_, rfl⟩
  rw [hw0] at P0 P1 B0
  rw [show (w.alloc (.cells (mom d c) 24)).heap.size = w.heap.size + 1 by simp] at P1
  simp only [mom] at hw0
  go_enter Tryd.func13, Tryd.ntmps13
  go_upto_region 1 with fail

  clear hw0
  obtain ⟨g, hg⟩ : ∃ g, w.heap.size = g := ⟨_, rfl⟩
  rw [hg] at P0 P1 ⊢
  have HG := Lib.hid hg; clear hg
  refine wp_region_held_drew (S := (fun W => Below w0.heap.size w0 W)) (by kernel_rfl) (Below.refl _ _).drew (fun hHeld => ?_)
  refine wpAnyH_take (i := 0) (oi := ⟨some 5, _, _, _, _, _⟩) (v := ?vb0) rfl (by kernel_rfl) (by kernel_rfl) (by kernel_rfl) (fun _ _ _ h => h) (Or.inl ⟨by rfl, ?hyb0⟩) (by assumption) ?restb0
  case hyb0 => intro W hSW; have HP := Whole.bel P0.out hSW; have q0 : W.cell? ⟨g, 0, none⟩ = some (.int .u16 d) := HP.cell 0; have q1 : W.cell? ⟨g, 1, none⟩ = some (.int .u16 c) := HP.cell 1; go_simp; try rfl
  try simp only [Act.put, List.setIfInBounds_toArray, List.set_cons_zero, List.set_cons_succ]
  refine wpAnyH_take (i := 2) (oi := ⟨some 7, _, _, _, _, _⟩) (v := ?vb2) rfl (by kernel_rfl) (by kernel_rfl) (by kernel_rfl) (fun _ _ _ h => h) (Or.inl ⟨by rfl, ?hyb2⟩) (by assumption) ?restb2
  case hyb2 => intro W hSW; have HP := Whole.bel P1.out hSW; have q0 : W.cell? ⟨(g + 1), 0, none⟩ = some (.int .u16 d2) := HP.cell 0; have q1 : W.cell? ⟨(g + 1), 1, none⟩ = some (.int .u16 c2) := HP.cell 1; go_simp; try rfl
  try simp only [Act.put, List.setIfInBounds_toArray, List.set_cons_zero, List.set_cons_succ]
  refine wpAnyH_ready (rs := [1]) (by kernel_rfl) (by simp) ?_
  refine AllReadyH.cons (o := ⟨some 6, _, _, _, _, _⟩) rfl (fun K hK => ?_) AllReadyH.nil
  go_simp
  refine (BA.out _).mono ?_
  rintro e wa ⟨rfl, hba⟩
  refine hK.out _ _ ?_ (fun hHeld2 => ?_)
  · exact hHeld.trans (hba.mono hHeld.size)
  clear hK K hHeld
  have hHeld := hHeld2; clear hHeld2
  try simp only [Act.put, List.setIfInBounds_toArray, List.set_cons_zero, List.set_cons_succ]
  have hA := Lib.hid hba
  refine wpAnyH_ready (rs := [3]) (by kernel_rfl) (by simp) ?_
  refine AllReadyH.cons (o := ⟨some 8, _, _, _, _, _⟩) rfl (fun K hK => ?_) AllReadyH.nil
  go_simp
  refine (BB.out _).mono ?_
  rintro e wb ⟨rfl, hbb⟩
  refine hK.out _ _ ?_ (fun hHeld2 => ?_)
  · exact hHeld.trans (hbb.mono hHeld.size)
  clear hK K hHeld
  have hHeld := hHeld2; clear hHeld2
  try simp only [Act.put, List.setIfInBounds_toArray, List.set_cons_zero, List.set_cons_succ]
  refine wpAnyH_take (i := 4) (oi := ⟨some 9, _, _, _, _, _⟩) (v := ?vb4) rfl (by kernel_rfl) (by kernel_rfl) (by kernel_rfl) (fun _ _ _ h => h) (Or.inl ⟨by rfl, ?hyb4⟩) (by assumption) ?restb4
  case hyb4 => intro W hSW; go_simp; try rfl
  try simp only [Act.put, List.setIfInBounds_toArray, List.set_cons_zero, List.set_cons_succ]
  refine wpAnyH_take (i := 5) (oi := ⟨some 4, _, _, _, _, _⟩) (v := ?vb5) rfl (by kernel_rfl) (by kernel_rfl) (by kernel_rfl) (fun _ _ _ h => h) (Or.inl ⟨by rfl, ?hyb5⟩) (by assumption) ?restb5
  case hyb5 => intro W hSW; go_simp; try rfl
  try simp only [Act.put, List.setIfInBounds_toArray, List.set_cons_zero, List.set_cons_succ]
  refine wpAnyH_done (by kernel_rfl) ?_ _
  go_wp2_with fail
  go_ret
  exact ⟨rfl, B0.out.trans (hHeld.mono B0.out.size)⟩
end Go.Proofs.YtdoclbgmbneggaaDoor
