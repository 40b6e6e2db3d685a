/-
  Contracts of write, of no tokens. Conditions: lengths are right, the end's sign has a word.
-/
import Derived.Test.YtnnpiblnjflceaaG3
namespace Go.Proofs.Ytnnpiblnjflceaa
open Go.RowKit
set_option maxRecDepth 100000

theorem WriterAt.below {w w' : World} {B g : Nat} {sv : Value} {l : List Bool} (h : WriterAt w B g sv l) (hb : Below w.heap.size w w') : WriterAt w' B g sv l :=
  ⟨h.1, h.2.1.only (Only.of_below hb Nob) (fun h => h), own_only h.2.2 (Only.of_below hb Nob) (fun _ _ h => h)⟩

/-- Lengths that stay readable while bits are written. -/
def Lens (w : World) (A : Option Addr) (n c : Nat) (l : List Int) : Prop := ∀ W, Tw w W → ∃ B, B ≤ W.heap.size ∧ Seen W B 1 A n c (iv l)
theorem Lens.tw {w w' : World} {A : Option Addr} {n c : Nat} {l : List Int} (h : Lens w A n c l) (ht : Tw w w') : Lens w' A n c l := fun W hW => h W (ht.trans hW)

set_option maxHeartbeats 2000000 in
theorem write_nil (F : Nat → Int) (A1 : Option Addr) (n1 c1 : Nat) (A2 : Option Addr) (n2 c2 : Nat) (l1 l2 : List Int) (hl1 : l1.length = n1) (hl2 : l2.length = n2) (hn1 : n1 ≤ 1000) (hn2 : n2 ≤ 1000) (hk1 : kindOf l1 ≠ 0) (hk2 : kindOf l2 ≠ 0) (h256 : 256 < n1) (h0 : len l1 256 ≠ 0) (B g : Nat) (sv : Value) (bits : List Bool) (hb : bits.length ≤ 800000) (last : Bool) (w : World) (hw : WriterAt w B g sv bits) (hL1 : Lens w A1 n1 c1 l1) (hL2 : Lens w A2 n2 c2 l2) :
    Calls Try.prog 39 #[.agg (blkC F A1 n1 c1 A2 n2 c2 (.func (.func 47) #[] #[])), .pointer (some ⟨g, 0, none⟩), .slice none 0 0, .bool last] w fun e w' => e = .returned (.tuple #[]) ∧ PutPost w B g sv (bits ++ headB 1 last ++ wb l1 256) w' := by
  obtain ⟨G0, G1, G2, G3⟩ := blkC_get F A1 n1 c1 A2 n2 c2 (.func (.func 47) #[] #[])
  obtain ⟨C, hC⟩ : ∃ C, blkC F A1 n1 c1 A2 n2 c2 (.func (.func 47) #[] #[]) = C := ⟨_, rfl⟩
  rw [hC] at G1 G2 G3 ⊢
  have HG1 := Lib.hid G1; have HG2 := Lib.hid G2
  have HN1 := Lib.hid hl1; have HN2 := Lib.hid hl2; have HK1 := Lib.hid hk1; have HK2 := Lib.hid hk2
  have hB0 : Below w.heap.size w (w.alloc (.cells C 65)) := (Below.refl _ _).alloc (Nat.le_refl _) _
  have WB := Whole.new w 65 C
  have cf : (w.alloc (.cells C 65)).cell? ⟨w.heap.size, 319, none⟩ = some (.func (.func 47) #[] #[]) := (WB.cell 319).trans G3
  have L1 := Lib.hid (hL1.tw (Tw.of_below hB0))
  have L2 := Lib.hid (hL2.tw (Tw.of_below hB0))
  have HW0 := Lib.hid (hw.below hB0)
  have TW0 := Lib.hid (Tw.of_below hB0)
  have WB0 := Lib.hid WB
  have BB0 := Lib.hid hB0
  obtain ⟨gb, hgb⟩ : ∃ gb, w.heap.size = gb := ⟨_, rfl⟩
  rw [hgb] at WB0 cf
  clear G0 G1 G2 G3 hC hl1 hl2 hk1 hk2 hL1 hL2 hw hB0 WB
  go_enter Try.func39, Try.ntmps39
  go_wp2_with fail
  clear cf
  generalize w.alloc (.cells C 65) = W0 at *
  refine (head47_any B g sv bits last W0 HW0.out (by omega)).mono ?_
  rintro e w1 ⟨rfl, hp⟩
  have TW1 := Lib.hid (Tw.of_put HW0.out hp)
  obtain ⟨sv1, p1, p2, p3⟩ := hp
  have P1 := Lib.hid p1; have P2 := Lib.hid p2; have P3 := Lib.hid p3
  have HBX := Lib.hid (WB0.out.tw TW1.out (by decide) (by decide))
  clear p1 p2 p3
  go_wp2_with fail
  refine wp_region_held_drew (S := (fun W => Whole W gb 65 C ∧ Below w1.heap.size w1 W)) (by kernel_rfl) ⟨HBX.out.drew, below_drew (Below.refl _ _)⟩ (fun hHeld => ?_)
  refine wpAnyH_take (i := 0) (oi := ⟨some 17, _, _, _, _, _⟩) (v := ?v0) rfl (by kernel_rfl) (by kernel_rfl) (by kernel_rfl) (fun _ _ _ h => h) (Or.inl ⟨by rfl, ?hy0⟩) (by assumption) ?rest0
  case hy0 => intro W hSW; go_simp; try rfl
  try simp only [Act.put, List.setIfInBounds_toArray, List.set_cons_zero, List.set_cons_succ]
  refine wpAnyH_take (i := 1) (oi := ⟨some 18, _, _, _, _, _⟩) (v := ?v1) rfl (by kernel_rfl) (by kernel_rfl) (by kernel_rfl) (fun _ _ _ h => h) (Or.inl ⟨by rfl, ?hy1⟩) (by assumption) ?rest1
  case hy1 => intro W hSW; have q1 : W.cell? ⟨gb, 317, none⟩ = some (.slice A1 n1 c1) := (hSW.1.cell 317).trans HG1.out; have q2 : W.cell? ⟨gb, 318, none⟩ = some (.slice A2 n2 c2) := (hSW.1.cell 318).trans HG2.out; go_simp; try rfl
  try simp only [Act.put, List.setIfInBounds_toArray, List.set_cons_zero, List.set_cons_succ]
  refine wpAnyH_take (i := 3) (oi := ⟨some 20, _, _, _, _, _⟩) (v := ?v3) rfl (by kernel_rfl) (by kernel_rfl) (by kernel_rfl) (fun _ _ _ h => h) (Or.inl ⟨by rfl, ?hy3⟩) (by assumption) ?rest3
  case hy3 => intro W hSW; go_simp; try rfl
  try simp only [Act.put, List.setIfInBounds_toArray, List.set_cons_zero, List.set_cons_succ]
  refine wpAnyH_take (i := 4) (oi := ⟨some 21, _, _, _, _, _⟩) (v := ?v4) rfl (by kernel_rfl) (by kernel_rfl) (by kernel_rfl) (fun _ _ _ h => h) (Or.inl ⟨by rfl, ?hy4⟩) (by assumption) ?rest4
  case hy4 => intro W hSW; have q1 : W.cell? ⟨gb, 317, none⟩ = some (.slice A1 n1 c1) := (hSW.1.cell 317).trans HG1.out; have q2 : W.cell? ⟨gb, 318, none⟩ = some (.slice A2 n2 c2) := (hSW.1.cell 318).trans HG2.out; go_simp; try rfl
  try simp only [Act.put, List.setIfInBounds_toArray, List.set_cons_zero, List.set_cons_succ]
  refine wpAnyH_ready (rs := [2]) (by kernel_rfl) (by simp) ?_
  refine AllReadyH.cons (o := ⟨some 19, _, _, _, _, _⟩) rfl (fun K hK => ?_) AllReadyH.nil
  go_simp
  obtain ⟨Bx, hBx, hsx⟩ := L1.out _ ((TW1.out.trans (Tw.of_below (hHeld.2)))) 
  refine (codeOf_any A1 n1 c1 Bx l1 HN1.out hn1 HK1.out _ hsx hBx).mono ?_
  rintro e w2 ⟨gc, rfl, hc2, hb2⟩
  have HC2 := Lib.hid hc2; have HB2 := Lib.hid hb2; clear hc2 hb2 hsx hBx
  refine hK.out _ _ ?_ (fun hHeld2 => ?_)
  · exact ⟨hHeld.1.only (Only.of_below HB2.out Nob) (fun h => h), hHeld.2.trans (HB2.out.mono hHeld.2.size)⟩
  clear hK K hHeld
  have hHeld := hHeld2; clear hHeld2
  try simp only [Act.put, List.setIfInBounds_toArray, List.set_cons_zero, List.set_cons_succ]
  have BB2 := Lib.hid hHeld.2
  refine wpAnyH_ready (rs := [5]) (by kernel_rfl) (by simp) ?_
  refine AllReadyH.cons (o := ⟨some 22, _, _, _, _, _⟩) rfl (fun K hK => ?_) AllReadyH.nil
  go_simp
  obtain ⟨By, hBy, hsy⟩ := L2.out _ ((TW1.out.trans (Tw.of_below (hHeld.2)))) 
  refine (codeOf_any A2 n2 c2 By l2 HN2.out hn2 HK2.out _ hsy hBy).mono ?_
  rintro e w3 ⟨gd, rfl, hc3, hb3⟩
  have HC3 := Lib.hid (HC2.out.below hb3); have HD3 := Lib.hid hc3; have HB3 := Lib.hid hb3; clear hc3 hb3 hsy hBy
  refine hK.out _ _ ?_ (fun hHeld2 => ?_)
  · exact ⟨hHeld.1.only (Only.of_below HB3.out Nob) (fun h => h), hHeld.2.trans (HB3.out.mono hHeld.2.size)⟩
  clear hK K hHeld
  have hHeld := hHeld2; clear hHeld2
  try simp only [Act.put, List.setIfInBounds_toArray, List.set_cons_zero, List.set_cons_succ]
  refine wpAnyH_take (i := 6) (oi := ⟨some 8, _, _, _, _, _⟩) (v := ?v6) rfl (by kernel_rfl) (by kernel_rfl) (by kernel_rfl) (fun _ _ _ h => h) (Or.inl ⟨by rfl, ?hy6⟩) (by assumption) ?rest6
  case hy6 => intro W hSW; go_simp; try rfl
  try simp only [Act.put, List.setIfInBounds_toArray, List.set_cons_zero, List.set_cons_succ]
  refine wpAnyH_take (i := 7) (oi := ⟨some 9, _, _, _, _, _⟩) (v := ?v7) rfl (by kernel_rfl) (by kernel_rfl) (by kernel_rfl) (fun _ _ _ h => h) (Or.inl ⟨by rfl, ?hy7⟩) (by assumption) ?rest7
  case hy7 => intro W hSW; go_simp; try rfl
  try simp only [Act.put, List.setIfInBounds_toArray, List.set_cons_zero, List.set_cons_succ]
  refine wpAnyH_done (by kernel_rfl) ?_ _
  have HW3 := Lib.hid (P1.out.below hHeld.2)
  have ON3 : Hid (Only (Foot g sv) w w3) := Lib.hid (((Only.of_below BB0.out (Foot g sv)).trans P2.out).trans (Only.of_below hHeld.2 (Foot g sv)))
  have AT3 : Hid (∀ k, sv1.ownBlock = some k → sv.ownBlock = some k ∨ w.heap.size ≤ k) := Lib.hid (fun k hk => (P3.out k hk).imp id (fun h => Nat.le_trans BB0.out.size h))
  clear hHeld
  go_wp2_with fail
  go_loopw [25] (fun i wr => i = .int .i64 0 ∧ wr = w3) (fun _ _ => 0)
  case atStart => exact ⟨rfl, rfl⟩
  case round =>
    obtain ⟨rfl, rfl⟩ := hrel
    go_wp2_with fail
    refine (codePut_yes wr.heap.size gc l1 n1 HN1.out HK1.out B g sv1 _ 256 wr HC3.out.seen HW3.out (by rw [List.length_append]; have := hb; simp [headB]; omega) h256 h0).mono ?_
    rintro e w4 ⟨rfl, hp⟩
    have PP := Lib.hid (PutPost.then ON3.out AT3.out hp); clear hp
    go_wp2_with fail
    go_end0
    exact ⟨rfl, PP.out⟩
end Go.Proofs.Ytnnpiblnjflceaa
