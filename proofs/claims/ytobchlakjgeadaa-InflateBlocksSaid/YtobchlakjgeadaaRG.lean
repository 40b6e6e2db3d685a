/-
  The document's signs of a block. Conditions: its state stands as told (RSt), its things are where they should be (Rx.Good); there are more than 256 lengths of signs.
-/
import Derived.Test.YtobchlakjgeadaaRD
import Derived.Test.YtobchlakjgeadaaZ
namespace Go.Proofs.Ytobchlakjgeadaa
open Go.RowKit
set_option maxRecDepth 100000

theorem rsigns_no {c : Rx} (ov : Value) (a : Nat) (o : List Nat) (e : Nat) (he : e ≠ 0) (U V : Value) (w : World) (h : RSt c w ov a o e) :
    Calls Try.prog 25 #[.pointer (some ⟨c.gs, 0, none⟩), U, V] w fun r w' => r = .returned (.tuple #[]) ∧ w = w' := by
  have c3 := h.c3
  clear h
  have d0 : (e == 0) = false := by simpa using he
  have d1 : ((e : Int) == 0) = false := by simp; omega
  have d2 : ¬ (e : Int) = 0 := by omega
  go_enter Try.func25, Try.ntmps25
  go_wp2
  refine bodyPost_ret (results_none rfl _ _ _) rfl ?_
  exact ⟨rfl, rfl⟩

/-- How far the signs may go on. -/
def meas (n b e : Nat) : Nat := if e = 0 then n - b + 1 else 0

/-- Within the signs. -/
def RSIn (c : Rx) (x y : List Int) (a : Nat) (o : List Nat) (w : World) (b : Nat) (u : List Nat) (ov : Value) (e : Nat) (wr : World) : Prop :=
  RSt c wr ov b u e ∧ Fq c.B0 w wr ∧ (e = 0 → ∀ r, Runs (signStep x y c.L c.most) (b, u) r → Runs (signStep x y c.L c.most) (a, o) r) ∧ (e ≠ 0 → e < 100 ∧ Runs (signStep x y c.L c.most) (a, o) (.er e))

set_option maxHeartbeats 2000000 in
theorem rsigns_good {c : Rx} (hg : c.Good) (ov : Value) (a : Nat) (o : List Nat) (x y : List Int) (n m : Nat) (hn : x.length = n) (hm : y.length = m) (hl : n ≤ 1000) (hl2 : m ≤ 1000) (h257 : 256 < n) (hr : kindOf x ≠ 0) (hr2 : kindOf y ≠ 0) (hx0 : x.getD 256 0 ≠ 0) (A1 A2 : Option Addr) (c1 c2 : Nat) (w : World)
    (hs1 : Seen w w.heap.size 1 A1 n c1 (iv x)) (hs2 : Seen w w.heap.size 1 A2 m c2 (iv y)) (h : RSt c w ov a o 0) :
    Calls Try.prog 25 #[.pointer (some ⟨c.gs, 0, none⟩), .slice A1 n c1, .slice A2 m c2] w (RRes c (runF (signStep x y c.L c.most) (a, o)) w) := by
  obtain ⟨i0, hi0, hz0, hz1, hz2⟩ := info_parts byte_info
  have HI0 := Lib.hid hi0; clear hi0
  have hmo := hg.most
  have q3 := h.c3
  have H := Lib.hid h; clear h
  have HS1 := Lib.hid hs1; clear hs1
  have HS2 := Lib.hid hs2; clear hs2
  have HN := Lib.hid hn; clear hn
  have HM := Lib.hid hm; clear hm
  have HR := Lib.hid hr; clear hr
  have HR2 := Lib.hid hr2; clear hr2
  have hxl : 256 < x.length := by rw [HN.out]; exact h257
  obtain ⟨y0, hy0⟩ : ∃ y0, x[256] = y0 := ⟨_, rfl⟩
  have hyn : y0 ≠ 0 := by
    rw [← hy0]
    simpa [List.getD, hxl] using hx0
  have HY0 := Lib.hid hy0; clear hy0 hx0
  obtain ⟨R, hR⟩ : ∃ R, runF (signStep x y c.L c.most) (a, o) = R := ⟨_, rfl⟩
  rw [hR]
  have HRF := Lib.hid hR; clear hR
  go_enter Try.func25, Try.ntmps25
  go_wp2_with fail
  refine (refWords_any A1 n c1 w.heap.size x HN.out hl HR.out w HS1.out (Nat.le_refl _)).mono ?_
  rintro r w1 ⟨v1, rfl, hw1, hb1⟩
  obtain ⟨Aw, cw, rfl, _⟩ := own_form hw1
  have W1 := Lib.hid hw1; have B1 := Lib.hid hb1
  clear hw1 hb1
  go_wp2_with fail
  refine (refWords_any A2 m c2 w.heap.size y HM.out hl2 HR2.out w1 (HS2.out.below B1.out) B1.out.size).mono ?_
  rintro r w2 ⟨v2, rfl, hw2, hb2⟩
  obtain ⟨Av, cv, rfl, _⟩ := own_form hw2
  have W2 := Lib.hid hw2
  have W12 := Lib.hid (own_only W1.out (Only.of_below hb2 Nob) (fun _ _ h => h))
  have B2 := Lib.hid (B1.out.trans (hb2.mono B1.out.size))
  clear hw2 hb2 q3 B1 W1
  obtain ⟨b, of, rfl, _, cy⟩ := (HS1.out.below B2.out).int HN.out h257
  rw [HY0.out] at cy
  have n256 : (256 : Int) < n := by omega
  have y1 : (y0 == 0) = false := by simpa using hyn
  have S2 := Lib.hid (H.out.below B2.out)
  have H0 : Hid (∃ ov', RSIn c x y a o w a o ov' 0 w2) := Lib.hid ⟨_, S2.out, Fq.of_below B2.out _, fun _ r h => h, fun h => absurd rfl h⟩
  go_wp2_with fail
  go_loopg [10] (8 * c.bs.length - a + 1) (fun k _ wr => ∃ (b : Nat) (u : List Nat) (ov' : Value) (e : Nat), k = meas (8 * c.bs.length) b e ∧ Fq c.B0 w2 wr ∧ RSIn c x y a o w b u ov' e wr)
  case atStart =>
    obtain ⟨ov', h0⟩ := H0.out
    exact ⟨a, o, ov', 0, rfl, Fq.refl _ _, h0⟩
  case round =>
    obtain ⟨b, u, ov', e, rfl, hf2, hin⟩ := hrel
    have q3 := hin.1.c3
    have HIn := Lib.hid hin
    have HF2 := Lib.hid hf2
    have hpl := hin.1.place
    have hrm := hin.1.room
    clear hin hf2
    by_cases he : e = 0
    · subst he
      have HK := Lib.hid (HIn.out.2.2.1 rfl)
      go_wp2_with fail
      refine (rsign_any hg ov' b u x n HN.out hl HR.out Aw cw w.heap.size wr (HF2.out.own W12.out (by decide) (by decide) (by decide)) HIn.out.1).mono ?_
      rintro r w3 ⟨j, er, b', rfl, hs3, hf3, hc3⟩
      have S3 := Lib.hid hs3
      have F3 := Lib.hid (HIn.out.2.1.trans hf3)
      have G3 := Lib.hid (HF2.out.trans hf3)
      have p3 := hs3.c3
      clear hs3 hf3 q3
      rcases hc3 with ⟨rfl, hsig, hj, hbb, hb9⟩ | ⟨e0, e1, rfl, hsig⟩
      · have HSG := Lib.hid hsig; clear hsig
        by_cases h256 : j = 256
        · subst h256
          go_wp2_with fail
          refine bodyPost_ret (results_none rfl _ _ _) rfl ?_
          exact ⟨rfl, F3.out, .inl ⟨b', u, _, HRF.out.symm.trans (runF_eq (HK.out _ (.fin (step_fin HSG.out)))), S3.out⟩⟩
        · have d1 : (j == 256) = false := by simpa using h256
          have d2 : ((j : Int) == 256) = false := by simp; omega
          have d3 : ¬ (j : Int) = 256 := by omega
          by_cases hlt : j < 256
          · have wj : IntKind.u8.wrap (j : Int) = j := IntWalk.u8_in _ (by omega)
            have q1 := S3.out.c1
            have q2 := S3.out.c2
            obtain ⟨Ao, co, rfl, _⟩ := own_form S3.out.out
            by_cases hroom : u.length = c.most
            · have dr : (u.length == c.most) = true := by simpa using hroom
              go_wp2_with fail
              go_still (by kernel_rfl)
              go_wp2_with fail
              refine (rfail_any hg _ b' u 0 3 _ S3.out.drew).mono ?_
              rintro r w4 ⟨rfl, hs4, hf4⟩
              rw [if_pos rfl] at hs4
              have S4 := Lib.hid hs4; have F4 := Lib.hid (F3.out.drew.trans hf4); clear hs4 hf4
              go_wp2_with fail
              refine bodyPost_ret (results_none rfl _ _ _) rfl ?_
              exact ⟨rfl, F4.out, .inr ⟨3, b', u, _, by omega, by omega, HRF.out.symm.trans (runF_eq (HK.out _ (.er (step_long HSG.out hlt (by omega))))), S4.out⟩⟩
            · have dr : (u.length == c.most) = false := by simpa using hroom
              have dr2 : ((u.length : Int) == c.most) = false := by simp; omega
              have hur : u.length < c.most := by omega
              have HD := Lib.hid S3.out.drew
              have HA := Lib.hid (HD.out.below ((Below.refl _ _).alloc (Nat.le_refl _) (.cells #[.int .u8 (j : Int)] 5)))
              have sz := S3.out.size
              go_wp2_with fail
              go_still (by kernel_rfl)
              go_wp2_with (at_builtin; refine wpList_append_seen _ rfl (.tmp 75) (.tmp 78) _ rfl c.B1 5 i0 _ 1 1 Try.underlying22 HI0.out hz0 hz1 hz2 rfl (by omega) (.slice Ao u.length co) u.length _ rfl HA.out.out _ _ 1 1 _ rfl (seen_one _ _ _) (by simp [Value.oneCell']) (by simp only [maxLen]; omega) (by omega) (by simp only [World.size_alloc, World.size_drew]; omega) ?_; intro v6 w6 hown6 hg6 hat6; obtain ⟨A6, c6, rfl, _⟩ := own_form hown6; have hWh6 := HA.out.st.grown hg6 (fun e => own_ne_whole HA.out.out HA.out.st (by decide) c.gs e.symm rfl); have t1 : w6.cell? ⟨c.gs, 1, none⟩ = some (.slice Ao u.length co) := hWh6.cell 1; have z1 := hWh6.frozen 1; have HG := Lib.hid hg6; have HO := Lib.hid hown6; clear hg6 hown6 hWh6)
              have hP := Lib.hid (HA.out.push hg (v1 := .slice A6 (u.length + 1) c6) (o' := u ++ [j]) HG.out (by simpa using HO.out) (by simp; omega))
              have FA := Lib.hid ((Fq.of_below ((Below.refl _ w3.drew).alloc (Nat.le_refl _) (.cells #[.int .u8 (j : Int)] 5)) c.B0).trans hP.out.2)
              go_roundg (meas (8 * c.bs.length) b' 0)
              case rel => exact ⟨b', u ++ [j], _, 0, rfl, G3.out.drew.trans FA.out, hP.out.1, F3.out.drew.trans FA.out, fun _ r h => HK.out r (.go (step_lone HSG.out hlt hur) h), fun h => absurd rfl h⟩
              case measure => unfold meas; rw [if_pos rfl, if_pos rfl]; omega
          · have d4 : decide (j < 256) = false := decide_eq_false hlt
            have d5 : decide ((j : Int) < 256) = false := decide_eq_false (by omega)
            go_wp2_with fail
            refine (rcopy_any hg ov' b' u y m HM.out hl2 HR2.out Av cv w1.heap.size j _ (G3.out.own W2.out (by decide) (by decide) (by decide)) S3.out).mono ?_
            rintro r w4 ⟨rfl, hf4, hc4⟩
            have F4 := Lib.hid (F3.out.trans hf4)
            have G4 := Lib.hid (G3.out.trans hf4)
            clear hf4 p3
            rcases hc4 with ⟨b2, u2, ov2, hcp, hs4⟩ | ⟨er, b2, u2, ov2, e0, e1, hcp, hs4⟩
            · have hbk := (copy_ok hcp).1
              have S4 := Lib.hid hs4
              have HCP := Lib.hid hcp
              have pl4 := hs4.place
              clear hs4 hcp
              go_wp2_with fail
              go_roundg (meas (8 * c.bs.length) b2 0)
              case rel => exact ⟨b2, u2, ov2, 0, rfl, G4.out, S4.out, F4.out, fun _ r h => HK.out r (.go (step_copy HSG.out (by omega) HCP.out) h), fun h => absurd rfl h⟩
              case measure => unfold meas; rw [if_pos rfl, if_pos rfl]; omega
            · have S4 := Lib.hid hs4
              have HCP := Lib.hid hcp
              clear hs4 hcp
              go_wp2_with fail
              go_roundg (meas (8 * c.bs.length) b2 er)
              case rel => exact ⟨b2, u2, ov2, er, rfl, G4.out, S4.out, F4.out, fun h => by omega, fun _ => ⟨e1, HK.out _ (.er (step_copy_er HSG.out (by omega) HCP.out))⟩⟩
              case measure => unfold meas; rw [if_neg (by omega), if_pos rfl]; omega
      · have HSG := Lib.hid hsig; clear hsig
        have e2 : ((er : Int) == 0) = false := by simp; omega
        have e3 : ¬ (er : Int) = 0 := by omega
        have e4 : (er == 0) = false := by simp; omega
        go_wp2_with fail
        refine bodyPost_ret (results_none rfl _ _ _) rfl ?_
        exact ⟨rfl, F3.out, .inr ⟨er, b', u, _, e0, e1, HRF.out.symm.trans (runF_eq (HK.out _ (.er (step_er HSG.out)))), S3.out⟩⟩
    · obtain ⟨e1, hrun⟩ := HIn.out.2.2.2 he
      have HRun := Lib.hid hrun; clear hrun
      have e2 : ((e : Int) == 0) = false := by simp; omega
      have e3 : ¬ (e : Int) = 0 := by omega
      have e4 : (e == 0) = false := by simpa using he
      go_wp2_with fail
      go_end0
      exact ⟨rfl, HIn.out.2.1, .inr ⟨e, b, u, _, by omega, e1, HRF.out.symm.trans (runF_eq HRun.out), HIn.out.1⟩⟩
end Go.Proofs.Ytobchlakjgeadaa
