/-
  The contract of signs: a block's signs, up to the one that ends it. Conditions: the state stands as told (StAt), its things are where they should be (Cx.Good), both codes are right.
-/
import Derived.Test.YtobchlakjgeadaaT3
namespace Go.Proofs.Ytobchlakjgeadaa
open Go.RowKit
set_option maxRecDepth 100000

theorem getSign2 {c : Cx} (hg : c.Good) (ov p q : Value) (a : Nat) (o : List Nat) (lo g : Nat) (l : List Int) (n : Nat) (hn : l.length = n) (hl : n ≤ 1000) (hr : kindOf l ≠ 0) (w : World) (hc : CodeOwn w lo g l n) (h : StAt c w ov p q a o) :
    Calls Try.prog 61 #[.pointer (some ⟨g, 0, none⟩), .pointer (some ⟨c.gr, 0, none⟩)] w fun e w' =>
      ∃ j er a' : Nat, e = .returned (.tuple #[.int .i64 j, .int .i64 er]) ∧ StAt c w' ov p q a' o ∧ Fr c.B0 w w' ∧
        ((er = 0 ∧ signAt l c.L a = .ok (j, a') ∧ j < n ∧ a < a' ∧ a' ≤ 8 * c.bs.length) ∨ (0 < er ∧ er < 100 ∧ signAt l c.L a = .er er)) := by
  refine (getSign_any hg ov p q a o lo g l n hn hl hr w hc h).mono ?_
  rintro e w' (⟨j, a', h1, h2, h3, h4, rfl, h5, h6⟩ | ⟨er, h1, h2, h3, rfl, h5, h6⟩)
  · exact ⟨j, 0, a', rfl, h5, h6, .inl ⟨rfl, h1, h2, h3, h4⟩⟩
  · exact ⟨0, er, a, rfl, h5, h6, .inr ⟨h1, h2, h3⟩⟩

def SignsRes (c : Cx) (x y : List Int) (a : Nat) (o : List Nat) (p q : Value) (w : World) (e : Ending) (w' : World) : Prop :=
  (∃ a' o', Runs (signStep x y c.L c.most) (a, o) (.ok (a', o')) ∧ a ≤ a' ∧ e = .returned (.int .i64 0) ∧ (∃ ov', StAt c w' ov' p q a' o') ∧ Fr c.B0 w w') ∨
  (∃ er : Nat, 0 < er ∧ er < 100 ∧ Runs (signStep x y c.L c.most) (a, o) (.er er) ∧ e = .returned (.int .i64 er) ∧ Fr c.B0 w w')

/-- Within signs: so far. -/
def SignsIn (c : Cx) (x y : List Int) (a : Nat) (o : List Nat) (p q : Value) (w : World) (gb g1 g2 : Nat) (b : Nat) (u : List Nat) (ov : Value) (wr : World) : Prop :=
  a ≤ b ∧ b ≤ 8 * c.bs.length ∧ StAt c wr ov p q b u ∧ Fr c.B0 w wr ∧ Whole wr gb 49 #[.pointer (some ⟨g1, 0, none⟩), .pointer (some ⟨g2, 0, none⟩)] ∧ (∀ r, Runs (signStep x y c.L c.most) (b, u) r → Runs (signStep x y c.L c.most) (a, o) r)

theorem Fr.whole {B : Nat} {w w' : World} {g : Nat} {t : TypeId} {cs : Array Value} (h : Fr B w w') (hw : Whole w g t cs) (h1 : t ≠ 75) (h2 : t ≠ 51) (h3 : t ≠ 5) : Whole w' g t cs :=
  hw.only h.only (fun hs => by
    obtain ⟨t', cs', ht, hh⟩ := hs
    rcases hh with rfl | rfl | rfl
    · exact hw.ne ht h1 rfl
    · exact hw.ne ht h2 rfl
    · exact hw.ne ht h3 rfl)

theorem step_er {x y : List Int} {L : List Bool} {most b : Nat} {u : List Nat} {er : Nat} (h : signAt x L b = .er er) : signStep x y L most (b, u) = .er er := by
  simp [signStep, h]
theorem step_fin {x y : List Int} {L : List Bool} {most b b' : Nat} {u : List Nat} (h : signAt x L b = .ok (256, b')) : signStep x y L most (b, u) = .fin (b', u) := by
  simp [signStep, h]
theorem step_long {x y : List Int} {L : List Bool} {most b b' j : Nat} {u : List Nat} (h : signAt x L b = .ok (j, b')) (hj : j < 256) (hm : most ≤ u.length) : signStep x y L most (b, u) = .er 3 := by
  simp only [signStep, h]
  rw [if_neg (by omega), if_pos hj, if_pos hm]
theorem step_lone {x y : List Int} {L : List Bool} {most b b' j : Nat} {u : List Nat} (h : signAt x L b = .ok (j, b')) (hj : j < 256) (hm : u.length < most) : signStep x y L most (b, u) = .go (b', u ++ [j]) := by
  simp only [signStep, h]
  rw [if_neg (by omega), if_pos hj, if_neg (by omega)]
theorem step_copy {x y : List Int} {L : List Bool} {most b b' j : Nat} {u : List Nat} {t : Nat × List Nat} (h : signAt x L b = .ok (j, b')) (hj : 256 < j) (hc : copyAt y L most j b' u = .ok t) : signStep x y L most (b, u) = .go t := by
  simp only [signStep, h]
  rw [if_neg (by omega), if_neg (by omega), hc]
theorem step_copy_er {x y : List Int} {L : List Bool} {most b b' j er : Nat} {u : List Nat} (h : signAt x L b = .ok (j, b')) (hj : 256 < j) (hc : copyAt y L most j b' u = .er er) : signStep x y L most (b, u) = .er er := by
  simp only [signStep, h]
  rw [if_neg (by omega), if_neg (by omega), hc]

set_option maxHeartbeats 2000000 in
theorem signsCall_any {c : Cx} (hg : c.Good) (ov p q : Value) (a : Nat) (o : List Nat) (lo g1 g2 : Nat) (x y : List Int) (n m : Nat) (hn : x.length = n) (hm : y.length = m) (hl : n ≤ 1000) (hl2 : m ≤ 1000) (hr : kindOf x ≠ 0) (hr2 : kindOf y ≠ 0) (w : World) (hc : CodeOwn w lo g1 x n) (hc2 : CodeOwn w lo g2 y m) (h : StAt c w ov p q a o) :
    Calls Try.prog 54 #[.pointer (some ⟨c.gs, 0, none⟩), .agg #[.pointer (some ⟨g1, 0, none⟩), .pointer (some ⟨g2, 0, none⟩)]] w (SignsRes c x y a o p q w) := by
  have H := Lib.hid h
  have HC := Lib.hid hc; clear hc
  have HC2 := Lib.hid hc2; clear hc2
  have HN := Lib.hid hn; clear hn
  have HM := Lib.hid hm; clear hm
  have HR := Lib.hid hr; clear hr
  have HR2 := Lib.hid hr2; clear hr2
  have hpl := h.place
  have hmo := hg.most
  clear h
  obtain ⟨gb, hgb⟩ : ∃ gb, w.heap.size = gb := ⟨_, rfl⟩
  have HGB := Lib.hid hgb
  have H0 : Hid (∃ ov', SignsIn c x y a o p q w gb g1 g2 a o ov' (w.alloc (.cells #[.pointer (some ⟨g1, 0, none⟩), .pointer (some ⟨g2, 0, none⟩)] 49))) := Lib.hid (by
    refine ⟨ov, Nat.le_refl _, hpl, H.out.below ((Below.refl _ _).alloc (Nat.le_refl _) _), Fr.of_below ((Below.refl _ _).alloc (Nat.le_refl _) _) _, ?_, fun r h => h⟩
    rw [← hgb]
    exact Whole.new _ _ _)
  unfold SignsRes
  go_enter Try.func54, Try.ntmps54
  go_wp2_with fail
  try rw [hgb]
  clear hgb
  go_loopg [5, 6] (8 * c.bs.length - a) (fun k _ _ wr => ∃ (b : Nat) (u : List Nat) (ov' : Value), k = 8 * c.bs.length - b ∧ SignsIn c x y a o p q w gb g1 g2 b u ov' wr)
  case atStart =>
    obtain ⟨ov', h0⟩ := H0.out
    exact ⟨a, o, ov', rfl, h0⟩
  case round =>
    obtain ⟨b, u, ov', rfl, hin⟩ := hrel
    have hab := hin.1
    have hb8 := hin.2.1
    have hs := hin.2.2.1
    have hroom := hs.room
    have HIn := Lib.hid hin; clear hin
    have q0 : wr.cell? ⟨gb, 0, none⟩ = some (.pointer (some ⟨g1, 0, none⟩)) := HIn.out.2.2.2.2.1.cell 0
    have q1 : wr.cell? ⟨gb, 1, none⟩ = some (.pointer (some ⟨g2, 0, none⟩)) := HIn.out.2.2.2.2.1.cell 1
    have q2 : wr.cell? ⟨c.gs, 0, none⟩ = some (.pointer (some ⟨c.gr, 0, none⟩)) := hs.c0
    have HS := Lib.hid hs; clear hs
    go_wp2_with fail
    refine wp_region_held_drew (S := (fun W => W.cell? ⟨gb, 0, none⟩ = some (.pointer (some ⟨g1, 0, none⟩)) ∧ W.cell? ⟨c.gs, 0, none⟩ = some (.pointer (some ⟨c.gr, 0, none⟩)))) (by kernel_rfl) ⟨q0, q2⟩ (fun hHeld => ?_)
    refine wpAnyH_take (i := 0) (oi := ⟨some 8, _, _, _, _, _⟩) (v := ?v0) rfl (by kernel_rfl) (by kernel_rfl) (by kernel_rfl) (fun _ _ _ h => h) (Or.inl ⟨by rfl, ?hy0⟩) (by assumption) ?rest0
    case hy0 => intro W hSW; go_simp; try rfl
    try simp only [Act.put, List.setIfInBounds_toArray, List.set_cons_zero, List.set_cons_succ]
    refine wpAnyH_take (i := 1) (oi := ⟨some 9, _, _, _, _, _⟩) (v := ?v1) rfl (by kernel_rfl) (by kernel_rfl) (by kernel_rfl) (fun _ _ _ h => h) (Or.inl ⟨by rfl, ?hy1⟩) (by assumption) ?rest1
    case hy1 => intro W hSW; have s1 := hSW.1; have s2 := hSW.2; go_simp; try rfl
    try simp only [Act.put, List.setIfInBounds_toArray, List.set_cons_zero, List.set_cons_succ]
    refine wpAnyH_take (i := 2) (oi := ⟨some 10, _, _, _, _, _⟩) (v := ?v2) rfl (by kernel_rfl) (by kernel_rfl) (by kernel_rfl) (fun _ _ _ h => h) (Or.inl ⟨by rfl, ?hy2⟩) (by assumption) ?rest2
    case hy2 => intro W hSW; go_simp; try rfl
    try simp only [Act.put, List.setIfInBounds_toArray, List.set_cons_zero, List.set_cons_succ]
    refine wpAnyH_take (i := 3) (oi := ⟨some 11, _, _, _, _, _⟩) (v := ?v3) rfl (by kernel_rfl) (by kernel_rfl) (by kernel_rfl) (fun _ _ _ h => h) (Or.inl ⟨by rfl, ?hy3⟩) (by assumption) ?rest3
    case hy3 => intro W hSW; go_simp; try rfl
    try simp only [Act.put, List.setIfInBounds_toArray, List.set_cons_zero, List.set_cons_succ]
    refine wpAnyH_take (i := 4) (oi := ⟨some 12, _, _, _, _, _⟩) (v := ?v4) rfl (by kernel_rfl) (by kernel_rfl) (by kernel_rfl) (fun _ _ _ h => h) (Or.inl ⟨by rfl, ?hy4⟩) (by assumption) ?rest4
    case hy4 => intro W hSW; go_simp; try rfl
    try simp only [Act.put, List.setIfInBounds_toArray, List.set_cons_zero, List.set_cons_succ]
    refine wpAnyH_take (i := 5) (oi := ⟨some 13, _, _, _, _, _⟩) (v := ?v5) rfl (by kernel_rfl) (by kernel_rfl) (by kernel_rfl) (fun _ _ _ h => h) (Or.inl ⟨by rfl, ?hy5⟩) (by assumption) ?rest5
    case hy5 => intro W hSW; have s1 := hSW.1; have s2 := hSW.2; go_simp; try rfl
    try simp only [Act.put, List.setIfInBounds_toArray, List.set_cons_zero, List.set_cons_succ]
    refine wpAnyH_ready (rs := [6]) (by kernel_rfl) (by simp) ?_
    refine AllReadyH.cons (o := ⟨some 14, _, _, _, _, _⟩) rfl (fun K hK => ?_) AllReadyH.nil
    go_simp
    refine (getSign2 hg ov' p q b u lo g1 x n HN.out hl HR.out _ (HIn.out.2.2.2.1.drew.code HC.out) HS.out.drew).mono ?_
    rintro e w1 ⟨j, er, b', rfl, hs1, hf1, hcase⟩
    have S1 := Lib.hid hs1; have F1 := Lib.hid (hf1.undrew); have CS := Lib.hid hcase; clear hs1 hf1 hcase
    refine hK.out _ _ ?_ (fun hHeld2 => ?_)
    · exact ⟨(F1.out.whole HIn.out.2.2.2.2.1 (by decide) (by decide) (by decide)).cell 0, S1.out.c0⟩
    clear hK K hHeld
    have hHeld := hHeld2; clear hHeld2
    try simp only [Act.put, List.setIfInBounds_toArray, List.set_cons_zero, List.set_cons_succ]
    refine wpAnyH_take (i := 7) (oi := ⟨some 7, _, _, _, _, _⟩) (v := ?v7) rfl (by kernel_rfl) (by kernel_rfl) (by kernel_rfl) (fun _ _ _ h => h) (Or.inl ⟨by rfl, ?hy7⟩) (by assumption) ?rest7
    case hy7 => intro W hSW; go_simp; try rfl
    try simp only [Act.put, List.setIfInBounds_toArray, List.set_cons_zero, List.set_cons_succ]
    refine wpAnyH_take (i := 8) (oi := ⟨some 15, _, _, _, _, _⟩) (v := ?v8) rfl (by kernel_rfl) (by kernel_rfl) (by kernel_rfl) (fun _ _ _ h => h) (Or.inl ⟨by rfl, ?hy8⟩) (by assumption) ?rest8
    case hy8 => intro W hSW; go_simp; try rfl
    try simp only [Act.put, List.setIfInBounds_toArray, List.set_cons_zero, List.set_cons_succ]
    refine wpAnyH_take (i := 10) (oi := ⟨some 5, _, _, _, _, _⟩) (v := ?v10) rfl (by kernel_rfl) (by kernel_rfl) (by kernel_rfl) (fun _ _ _ h => h) (Or.inl ⟨by rfl, ?hy10⟩) (by assumption) ?rest10
    case hy10 => intro W hSW; go_simp; try rfl
    try simp only [Act.put, List.setIfInBounds_toArray, List.set_cons_zero, List.set_cons_succ]
    refine wpAnyH_take (i := 9) (oi := ⟨some 16, _, _, _, _, _⟩) (v := ?v9) rfl (by kernel_rfl) (by kernel_rfl) (by kernel_rfl) (fun _ _ _ h => h) (Or.inl ⟨by rfl, ?hy9⟩) (by assumption) ?rest9
    case hy9 => intro W hSW; go_simp; try rfl
    try simp only [Act.put, List.setIfInBounds_toArray, List.set_cons_zero, List.set_cons_succ]
    refine wpAnyH_take (i := 11) (oi := ⟨some 6, _, _, _, _, _⟩) (v := ?v11) rfl (by kernel_rfl) (by kernel_rfl) (by kernel_rfl) (fun _ _ _ h => h) (Or.inl ⟨by rfl, ?hy11⟩) (by assumption) ?rest11
    case hy11 => intro W hSW; go_simp; try rfl
    try simp only [Act.put, List.setIfInBounds_toArray, List.set_cons_zero, List.set_cons_succ]
    refine wpAnyH_done (by kernel_rfl) ?_ _
    have F2 := Lib.hid (HIn.out.2.2.2.1.trans F1.out)
    have WB := Lib.hid (F1.out.whole HIn.out.2.2.2.2.1 (by decide) (by decide) (by decide))
    have HK := Lib.hid HIn.out.2.2.2.2.2
    clear HIn HS F1 q0 q1 q2
    rcases CS.out with ⟨rfl, hsig, hj, hbb, hb9⟩ | ⟨he0, he1, hsig⟩
    · have HSG := Lib.hid hsig; clear hsig CS
      by_cases h256 : j = 256
      · subst h256
        go_wp2_with fail
        go_ret
        exact .inl ⟨b', u, HK.out _ (.fin (step_fin HSG.out)), by omega, rfl, ⟨_, S1.out⟩, F2.out⟩
      · have d1 : (j == 256) = false := by simpa using h256
        have d2 : ((j : Int) == 256) = false := by simp; omega
        have d3 : ¬ (j : Int) = 256 := by omega
        by_cases hlt : j < 256
        · have wj : IntKind.u8.wrap (j : Int) = j := IntWalk.u8_in _ (by omega)
          by_cases hrm : u.length < c.most
          · go_wp2_with fail
            refine (lone_yes hg ov' p q b' u j hrm _ S1.out).mono ?_
            rintro e w2 ⟨rfl, ⟨ov2, hs2⟩, hf2⟩
            have S2 := Lib.hid hs2
            have F3 := Lib.hid (F2.out.trans hf2)
            have WB2 := Lib.hid (hf2.whole WB.out (by decide) (by decide) (by decide))
            clear hs2 hf2
            go_wp2_with fail
            go_roundg (8 * c.bs.length - b')
            case rel => exact ⟨b', u ++ [j], ov2, rfl, by omega, hb9, S2.out, F3.out, WB2.out, fun r h => HK.out r (.go (step_lone HSG.out hlt hrm) h)⟩
            case measure => omega
          · go_wp2_with fail
            refine (lone_no hg ov' p q b' u j (by omega) _ S1.out).mono ?_
            rintro e w2 ⟨rfl, hf2⟩
            have F3 := Lib.hid (F2.out.trans hf2)
            clear hf2
            go_wp2_with fail
            go_ret
            exact .inr ⟨3, by omega, by omega, HK.out _ (.er (step_long HSG.out hlt (by omega))), rfl, F3.out⟩
        · have d4 : decide (j < 256) = false := decide_eq_false hlt
          have d5 : decide ((j : Int) < 256) = false := decide_eq_false (by omega)
          have q1 : w1.cell? ⟨gb, 1, none⟩ = some (.pointer (some ⟨g2, 0, none⟩)) := WB.out.cell 1
          go_wp2_with fail
          refine (copied_any hg ov' p q b' u lo g2 y m HM.out hl2 HR2.out j _ (F2.out.code HC2.out) S1.out).mono ?_
          rintro e w2 (⟨b2, u2, hcp, hb2, rfl, ⟨ov2, hs2⟩, hf2⟩ | ⟨er, e0, e1, hcp, rfl, hf2⟩)
          · have S2 := Lib.hid hs2
            have F3 := Lib.hid (F2.out.trans hf2)
            have WB2 := Lib.hid (hf2.whole WB.out (by decide) (by decide) (by decide))
            have HCP := Lib.hid hcp
            have pl := hs2.place
            clear hs2 hf2 hcp q1
            go_wp2_with fail
            go_roundg (8 * c.bs.length - b2)
            case rel => exact ⟨b2, u2, ov2, rfl, by omega, pl, S2.out, F3.out, WB2.out, fun r h => HK.out r (.go (step_copy HSG.out (by omega) HCP.out) h)⟩
            case measure => omega
          · have F3 := Lib.hid (F2.out.trans hf2)
            have HCP := Lib.hid hcp
            clear hf2 hcp q1
            have e2 : ((er : Int) == 0) = false := by simp; omega
            have e3 : ¬ (er : Int) = 0 := by omega
            have e4 : (er == 0) = false := by simp; omega
            go_wp2_with fail
            go_ret
            exact .inr ⟨er, e0, e1, HK.out _ (.er (step_copy_er HSG.out (by omega) HCP.out)), rfl, F3.out⟩
    · have HSG := Lib.hid hsig; clear hsig CS
      have e2 : ((er : Int) == 0) = false := by simp; omega
      have e3 : ¬ (er : Int) = 0 := by omega
      have e4 : (er == 0) = false := by simp; omega
      go_wp2_with fail
      go_ret
      exact .inr ⟨er, he0, he1, HK.out _ (.er (step_er HSG.out)), rfl, F2.out⟩
end Go.Proofs.Ytobchlakjgeadaa
