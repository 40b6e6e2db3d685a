/-
  The walk of MatchExpands: it answers true, and changes nothing that was there. Conditions: the slice of tokens is read as told (Seen).
-/
import Derived.Test.YthlgceeldnhhbaaL1
namespace Go.Proofs.Ythlgceeldnhhbaa
open Go.RowKit
set_option maxRecDepth 100000

theorem conv_nil (w : World) : (convert 24 9 (.slice none 0 0)).run Try.prog w = .ok (.string (strOf [])) w := conv_seen (bs := []) (seen_nil w 0)

theorem expands_far (A : Option Addr) (n cp : Nat) (most : Int) (h : 100 < n) (w : World) : Calls Try.prog 3 #[.slice A n cp, .int .i64 most] w (Gives w (.bool true)) := by
  have d1 : decide (100 < (n : Int)) = true := decide_eq_true (by omega)
  go_enter Try.func3, Try.ntmps3
  go_wp2_with fail
  refine (fixed_any w).mono ?_; rintro e w1 ⟨rfl, hb1⟩; have B1 := Lib.hid hb1; clear hb1
  go_wp2_with fail
  go_ret
  exact ⟨rfl, B1.out⟩

/-- Both answers are alike: a row that converts to one text, an error. -/
def Alike (w : World) (T : ByteArray) (er : Nat) (e : Ending) (w' : World) : Prop := ∃ v, e = .returned (.tuple #[v, .int .i64 er]) ∧ Below w.heap.size w w' ∧ ∀ W, Below w'.heap.size w' W → (convert 24 9 v).run Try.prog W = .ok (.string T) W

theorem alike_of {most : Int} {l : List Tok} : ∃ (T : ByteArray) (er : Nat), ∀ (w : World) (e : Ending) (w' : World), ExpRes most l w e w' → Alike w T er e w' := by
  obtain ⟨r, hr⟩ : ∃ r, expT most l [] = r := ⟨_, rfl⟩
  obtain ⟨er, o⟩ := r
  refine ⟨strOf o, er, fun w e w' h => ?_⟩
  rcases h with ⟨o', v, h1, h2, h3, h4⟩ | ⟨er', h0, _, h1, h2, h4⟩
  · rw [hr] at h1
    injection h1 with e1 e2
    subst e1 e2
    obtain ⟨A, c, rfl, _, hs⟩ := own_seen h3
    exact ⟨_, h2, h4, fun W hW => conv_seen (hs.below hW)⟩
  · rw [hr] at h1
    injection h1 with e1 e2
    subst e1 e2
    exact ⟨_, h2, h4, fun W _ => conv_nil W⟩

/-- The two calls answer alike, whatever most is. -/
theorem both_alike (A : Option Addr) (n c B : Nat) (l : List Tok) (hn : n ≤ 100) (most : Int) :
    ∃ (T : ByteArray) (er : Nat), ∀ w : World, Seen w B 3 A n c (tvs l) → B ≤ w.heap.size → Calls Try.prog 8 #[.slice A n c, .int .i64 most] w (Alike w T er) ∧ Calls Try.prog 9 #[.slice A n c, .int .i64 most] w (Alike w T er) := by
  by_cases h : most < 0 ∨ 16777216 < most
  · refine ⟨strOf [], 1, fun w _ _ => ⟨(expand_arg A n c most h w).mono ?_, (rexpand_arg A n c most h w).mono ?_⟩⟩
    · rintro e w' ⟨rfl, rfl⟩
      exact ⟨_, rfl, Below.refl _ _, fun W _ => conv_nil W⟩
    · rintro e w' ⟨rfl, rfl⟩
      exact ⟨_, rfl, Below.refl _ _, fun W _ => conv_nil W⟩
  · obtain ⟨T, er, hT⟩ := alike_of (most := most) (l := l)
    refine ⟨T, er, fun w hs hB => ⟨(expand_any A n c B l (by omega) most (by omega) (by omega) w hs hB).mono fun e w' h => hT _ _ _ h, (rexpand_any A n c B l (by omega) most (by omega) (by omega) w hs hB).mono fun e w' h => hT _ _ _ h⟩⟩

set_option maxHeartbeats 2000000 in
theorem expands_near (A : Option Addr) (n cp : Nat) (most : Int) (hn : n ≤ 100) (l : List Tok) (w : World) (hs : Seen w w.heap.size 3 A n cp (tvs l)) : Calls Try.prog 3 #[.slice A n cp, .int .i64 most] w (Gives w (.bool true)) := by
  have d1 : decide (100 < (n : Int)) = false := decide_eq_false (by omega)
  obtain ⟨T, er, hTE⟩ := both_alike A n cp w.heap.size l hn most
  have C1 := Lib.hid (fun W (hB : Below w.heap.size w W) => (hTE W (hs.below hB) hB.size).1)
  have C2 := Lib.hid (fun W (hB : Below w.heap.size w W) => (hTE W (hs.below hB) hB.size).2)
  have HS := Lib.hid hs
  clear hs hTE
  go_enter Try.func3, Try.ntmps3
  go_wp2_with fail
  refine (fixed_any w).mono ?_; rintro e w1 ⟨rfl, hb1⟩; have B1 := Lib.hid hb1; clear hb1
  go_wp2_with fail
  refine (C1.out _ B1.out).mono ?_; rintro e w2 ⟨va, rfl, hb2, hca⟩
  have B2 := Lib.hid (B1.out.trans (hb2.mono B1.out.size)); have CA := Lib.hid hca; clear hb2 hca
  go_wp2_with fail
  refine (C2.out _ B2.out).mono ?_; rintro e w3 ⟨vb, rfl, hb3, hcb⟩
  have B3 := Lib.hid (B2.out.trans (hb3.mono B2.out.size)); have CB := Lib.hid hcb
  have CA3 : Hid (∀ W, Below w3.heap.size w3 W → (convert 24 9 va).run Try.prog W = .ok (.string T) W) := Lib.hid (fun W hW => CA.out W (hb3.trans (hW.mono hb3.size)))
  clear hb3 hcb CA
  go_wp2_with fail
  go_loopw [30] (fun i wr => ∃ k : Nat, k ≤ n ∧ i = .int .i64 k ∧ Below w3.heap.size w3 wr) (fun i _ => n - (intOf i).toNat)
  case atStart => exact ⟨0, Nat.zero_le _, rfl, Below.refl _ _⟩
  case round =>
    obtain ⟨k, hk, rfl, hbel⟩ := hrel
    have hBw := B3.out.trans (hbel.mono B3.out.size)
    by_cases hlt : k < n
    · obtain ⟨t, b, of', _, rfl, hbB, c0, c1, c2⟩ := (HS.out.below hBw).tok hlt
      have hbr : b < wr.heap.size := by have := hBw.size; omega
      have hne : wr.heap.size ≠ b := by omega
      obtain ⟨tl, tn, td⟩ := t
      simp only at c0 c1 c2
      have R1 := Lib.hid (fun W => right_any tl tn td W)
      have R2 := Lib.hid (fun W => rright_any tl tn td W)
      obtain ⟨R, hR⟩ : ∃ R, rightT ⟨tl, tn, td⟩ = R := ⟨_, rfl⟩
      rw [hR] at R1 R2
      have hk0 : (0 : Int) ≤ k := by omega
      have HBel := Lib.hid hbel
      have HBA := Lib.hid (hbel.alloc hbel.size (.cells #[.int .u8 tl, .int .i64 tn, .int .i64 td] 29))
      have HW0 : Hid (Whole (wr.alloc (.cells #[.int .u8 tl, .int .i64 tn, .int .i64 td] 29)) wr.heap.size 29 #[.int .u8 tl, .int .i64 tn, .int .i64 td]) := Lib.hid (Whole.new _ _ _)
      have dR : (R != R) = false := by simp
      obtain ⟨g1, hg1⟩ : ∃ g, wr.heap.size = g := ⟨_, rfl⟩
      rw [hg1] at HW0
      clear hbel hBw hR
      go_wp2_with fail
      clear c0 c1 c2 hbr hne hg1
      generalize wr.alloc (.cells #[.int .u8 tl, .int .i64 tn, .int .i64 td] 29) = W0 at *
      refine wp_region_held_drew (S := (fun W => Whole W g1 29 #[.int .u8 tl, .int .i64 tn, .int .i64 td] ∧ Below w3.heap.size w3 W)) (by kernel_rfl) ⟨HW0.out.drew, below_drew HBA.out⟩ (fun hHeld => ?_)
      refine wpAnyH_take (i := 0) (oi := ⟨some 34, _, _, _, _, _⟩) (v := ?v0) rfl (by kernel_rfl) (by kernel_rfl) (by kernel_rfl) (fun _ _ _ h => h) (Or.inl ⟨by rfl, ?hy0⟩) (by assumption) ?rest0
      case hy0 => intro W hSW; have q0 : W.cell? ⟨g1, 0, none⟩ = some (.int .u8 tl) := hSW.1.cell 0; have q1 : W.cell? ⟨g1, 1, none⟩ = some (.int .i64 tn) := hSW.1.cell 1; have q2 : W.cell? ⟨g1, 2, none⟩ = some (.int .i64 td) := hSW.1.cell 2; go_simp; try rfl
      try simp only [Act.put, List.setIfInBounds_toArray, List.set_cons_zero, List.set_cons_succ]
      refine wpAnyH_take (i := 2) (oi := ⟨some 36, _, _, _, _, _⟩) (v := ?v2) rfl (by kernel_rfl) (by kernel_rfl) (by kernel_rfl) (fun _ _ _ h => h) (Or.inl ⟨by rfl, ?hy2⟩) (by assumption) ?rest2
      case hy2 => intro W hSW; have q0 : W.cell? ⟨g1, 0, none⟩ = some (.int .u8 tl) := hSW.1.cell 0; have q1 : W.cell? ⟨g1, 1, none⟩ = some (.int .i64 tn) := hSW.1.cell 1; have q2 : W.cell? ⟨g1, 2, none⟩ = some (.int .i64 td) := hSW.1.cell 2; go_simp; try rfl
      try simp only [Act.put, List.setIfInBounds_toArray, List.set_cons_zero, List.set_cons_succ]
      refine wpAnyH_ready (rs := [1]) (by kernel_rfl) (by simp) ?_
      refine AllReadyH.cons (o := ⟨some 35, _, _, _, _, _⟩) rfl (fun K hK => ?_) AllReadyH.nil
      go_simp
      refine (R1.out _).mono ?_
      rintro e w5 ⟨rfl, hbw5⟩
      refine hK.out _ _ ?_ (fun hHeld2 => ?_)
      · exact ⟨hHeld.1.only (Only.of_below hbw5 Nob) (fun h => h), hHeld.2.trans (hbw5.mono hHeld.2.size)⟩
      clear hK K hHeld
      have hHeld := hHeld2; clear hHeld2
      try simp only [Act.put, List.setIfInBounds_toArray, List.set_cons_zero, List.set_cons_succ]
      refine wpAnyH_ready (rs := [3]) (by kernel_rfl) (by simp) ?_
      refine AllReadyH.cons (o := ⟨some 37, _, _, _, _, _⟩) rfl (fun K hK => ?_) AllReadyH.nil
      go_simp
      refine (R2.out _).mono ?_
      rintro e w6 ⟨rfl, hbw6⟩
      refine hK.out _ _ ?_ (fun hHeld2 => ?_)
      · exact ⟨hHeld.1.only (Only.of_below hbw6 Nob) (fun h => h), hHeld.2.trans (hbw6.mono hHeld.2.size)⟩
      clear hK K hHeld
      have hHeld := hHeld2; clear hHeld2
      try simp only [Act.put, List.setIfInBounds_toArray, List.set_cons_zero, List.set_cons_succ]
      refine wpAnyH_take (i := 4) (oi := ⟨some 38, _, _, _, _, _⟩) (v := ?v4) rfl (by kernel_rfl) (by kernel_rfl) (by kernel_rfl) (fun _ _ _ h => h) (Or.inl ⟨by rfl, ?hy4⟩) (by assumption) ?rest4
      case hy4 => intro W hSW; go_simp; try rfl
      try simp only [Act.put, List.setIfInBounds_toArray, List.set_cons_zero, List.set_cons_succ]
      refine wpAnyH_done (by kernel_rfl) ?_ _
      go_wp2_with fail
      go_roundw
      case rel => exact ⟨k + 1, by omega, by go_num, hHeld.2⟩
      case measure => simp [intOf]; omega
    · obtain rfl : k = n := by omega
      have cv1 := CA3.out wr hbel
      have cv2 := CB.out wr hbel
      have B5 := Lib.hid hBw
      clear hbel hBw
      go_wp2_with fail
      go_ret
      exact ⟨by simp, B5.out⟩

theorem expands_law (A : Option Addr) (n cp : Nat) (_ : n ≤ 9223372036854775807) (most : Int) (_ : (Lit.int .i64 most).wf = true) (w : World)
    (hp : ∃ l : List Tok, l.length = n ∧ Seen w w.heap.size 3 A n cp (tvs l)) :
    Calls Try.prog 3 #[.slice A n cp, .int .i64 most] w fun e w' => e = .returned (.bool true) ∧ Below w.heap.size w w' := by
  obtain ⟨l, h1, h3⟩ := hp
  by_cases hf : 100 < n
  · exact expands_far A n cp most hf w
  · exact expands_near A n cp most (by omega) l w h3
end Go.Proofs.Ythlgceeldnhhbaa
