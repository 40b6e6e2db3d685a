/-
  Contracts of lengths: lengthen. Conditions: as many packs as the sorts serve.
-/
import Derived.Test.YtijjcecboepiiaaY4
namespace Go.Proofs.Ytijjcecboepiiaa
open Go.Proofs Go.Shelf Go.RowKit Go.Sort Go.Lib

/-- The lengths' row. -/
def orow (n : Nat) (f : Nat → Nat) : List Value := mr n fun s => .int .i64 (f s : Nat)
/-- Rows that are the call's own, told apart from the lengths' row. -/
def RowsOk {N : Nat} (S : Sorter N) (ws : List Nat) (L B : Nat) (vr : Value) (vs : List Value) (w : World) : Prop :=
  vs.length = L ∧ w.ownsRow B 91 1 vr L vs ∧ OwnRows w B (rowAt S ws) vs
theorem RowsOk.keep {N : Nat} {S : Sorter N} {ws : List Nat} {L B : Nat} {vr : Value} {vs : List Value} {w w' : World} {go base n cap : Nat} {xs : List Value} (h : RowsOk S ws L B vr vs w) (ho : w.ownsRow base 3 1 (.slice (some ⟨go, 0, none⟩) n cap) n xs) (hO : Only (fun k => k = go) w w') : RowsOk S ws L B vr vs w' := by
  refine ⟨h.1, own_only h.2.1 hO (fun k hk e => ?_), fun i hi => ?_⟩
  · have e : k = go := e
    subst e
    exact own_ne_own h.2.1 ho (by decide) k hk rfl
  · obtain ⟨u, h1, h2⟩ := h.2.2 i hi
    refine ⟨u, h1, own_only h2 hO (fun k hk e => ?_)⟩
    have e : k = go := e
    subst e
    exact own_ne_own h2 ho (by decide) k hk rfl

def LenIn {N : Nat} (S : Sorter N) (ws : List Nat) (ss : List Nat) (L B : Nat) (vr : Value) (vs : List Value) (w : World) (base go n : Nat) (cs : List Nat) (q : Nat) (wr : World) : Prop :=
  wr.ownsRow base 3 1 (.slice (some ⟨go, 0, none⟩) n n) n (orow n (lenUp ss cs q)) ∧ RowsOk S ws L B vr vs wr ∧ Only (fun k => k = go) w wr

set_option maxHeartbeats 4000000 in
set_option maxRecDepth 100000 in
theorem lengthen_any {N : Nat} (S : Sorter N) (ws ss : List Nat) (hwl : ws.length = ss.length) (hws : SortedN ws) (hpos : ∀ x ∈ ws, 0 < x) (hN : 2 * ws.length ≤ N) (hw : ∀ x ∈ ws, x ≤ 16777216) (hd : ss.Nodup) (m n L : Nat) (hm : ss.length = m) (hm2 : 2 ≤ m) (hm3 : m ≤ 100000) (hL1 : 1 ≤ L) (hL : L ≤ 15) (h2 : m ≤ 2 ^ L) (hss : ∀ s ∈ ss, s < n)
    (A1 : Option Addr) (c1 Bs B base go : Nat) (vr : Value) (vs : List Value) (w : World) (hBs : Bs ≤ go) (hBw : Bs ≤ w.heap.size) (hs1 : Seen w Bs 1 A1 m c1 (sv' ss)) (hr : RowsOk S ws L B vr vs w) (ho : w.ownsRow base 3 1 (.slice (some ⟨go, 0, none⟩) n n) n (orow n fun _ => 0)) :
    Calls Try.prog 36 #[.slice (some ⟨go, 0, none⟩) n n, .slice A1 m c1, vr] w fun e w' => e = .returned (.tuple #[]) ∧ w'.ownsRow base 3 1 (.slice (some ⟨go, 0, none⟩) n n) n (orow n (lenOf ss (cut (tops S ws (L - 1)) (2 * m - 2)))) ∧ Only (fun k => k = go) w w' := by
  have hlen0 : 2 * m - 2 ≤ (rowAt S ws (L - 1)).length := by
    obtain ⟨rest, e, hrl⟩ := tops_head S ws (L - 1)
    have h := tops_rows S ws hN hw (L - 1)
    rw [e] at h
    have := rows_enough 2 h (by rw [hrl, hwl, hm, Nat.mul_comm, ← Nat.pow_succ, show (L - 1).succ = L by omega]; exact h2)
    rw [hwl, hm] at this
    omega
  obtain ⟨gv, cv, rfl, hcv, _⟩ := own_pos hr.2.1 (by omega)
  have H0 : Hid (LenIn S ws ss L B (.slice (some ⟨gv, 0, none⟩) L cv) vs w base go n [] 0 w) := Lib.hid (by
    refine ⟨?_, hr, Only.refl _ _⟩
    have e : orow n (lenUp ss [] 0) = orow n fun _ => 0 := mr_ext _ _ _ fun i _ => by rw [lenUp_zero]; simp [lenOf, lenAt]
    rw [e]; exact ho)
  have HS1 := Lib.hid hs1; clear hs1
  have HM := Lib.hid hm; clear hm
  have HWL := Lib.hid hwl; clear hwl
  have HWs := Lib.hid hws; clear hws
  have HP := Lib.hid hpos; clear hpos
  have HW := Lib.hid hw; clear hw
  have HD := Lib.hid hd; clear hd
  have HSS := Lib.hid hss; clear hss
  have HL0 := Lib.hid hlen0; clear hlen0
  clear hr ho h2
  go_enter Try.func36, Try.ntmps36
  go_wp2_with fail
  have wm : ((2 : Int) * m - 2) = (2 * m - 2 : Nat) := by omega
  rw [wm]
  obtain ⟨T0, hT0⟩ : ∃ T0, 2 * m - 2 = T0 := ⟨_, rfl⟩
  rw [hT0] at HL0 ⊢
  have HT0 := Lib.hid hT0
  have hT0b : T0 ≤ 200000 := by omega
  clear hT0 wm
  go_loopw [6, 7, 8, 10] (fun tk i _ _ wr => ∃ (k T : Nat) (cs : List Nat), k ≤ L ∧ i = .int .i64 ((k : Int) - 1) ∧ tk = .int .i64 (T : Nat) ∧ T ≤ 400000 ∧ (k = 0 → cut (tops S ws (L - 1)) T0 = cs) ∧ (∀ k', k = k' + 1 → T ≤ (rowAt S ws k').length ∧ cut (tops S ws (L - 1)) T0 = cs ++ cut (tops S ws k') T) ∧ cs.length + k = L ∧ LenIn S ws ss L B (.slice (some ⟨gv, 0, none⟩) L cv) vs w base go n cs 0 wr) (fun _ i _ _ _ => (intOf i + 1).toNat)
  case atStart =>
    refine ⟨L, T0, [], Nat.le_refl _, by go_num, rfl, by omega, by omega, ?_, by simp, H0.out⟩
    intro k' hk'
    obtain rfl : L - 1 = k' := by omega
    exact ⟨HL0.out, rfl⟩
  case round =>
    clear H0
    obtain ⟨k, T, cs, hk, rfl, rfl, hT, hz, hsu, hcl, hin⟩ := hrel
    have HZ := Lib.hid hz; clear hz
    have HSu := Lib.hid hsu; clear hsu
    have HIn := Lib.hid hin; clear hin
    by_cases h0 : k = 0
    · have e := Lib.hid (HZ.out h0)
      subst h0
      go_wp2_with fail
      go_end0
      refine ⟨rfl, ?_, HIn.out.2.2⟩
      have e2 : orow n (lenUp ss cs 0) = orow n (lenOf ss (cut (tops S ws (L - 1)) (2 * m - 2))) := mr_ext _ _ _ fun i _ => by rw [lenUp_zero, HT0.out, e.out]
      rw [← e2]
      exact HIn.out.1
    · obtain ⟨k', hk'⟩ : ∃ k', k = k' + 1 := ⟨k - 1, by omega⟩
      have hTl := Lib.hid (HSu.out k' hk')
      have wk : ((k : Int) - 1) = k' := by omega
      have hkL : k' < L := by omega
      have hcl' : cs.length + k' + 1 = L := by omega
      rw [wk]
      obtain ⟨u, hu1, hu2⟩ := HIn.out.2.1.2.2 k' (by rw [HIn.out.2.1.1]; exact hkL)
      obtain ⟨hcell, _, _⟩ := own_cell HIn.out.2.1.2.1 hu1
      have hrl : 0 < (rowAt S ws k').length := by have := (rowAt_props S ws hN HW.out k').1; rw [HWL.out, HM.out] at this; omega
      have hrl2 : (rowAt S ws k').length ≤ 2 * m := by have := (rowAt_props S ws hN HW.out k').2.1; rw [HWL.out, HM.out] at this; omega
      obtain ⟨gr, cr, rfl, hcr, _⟩ := own_pos hu2 hrl
      obtain ⟨nr, hnr⟩ : ∃ nr, (rowAt S ws k').length = nr := ⟨_, rfl⟩
      have HNR := Lib.hid hnr
      have hTn : T ≤ nr := by have := hTl.out.1; omega
      rw [hnr] at hcell hcr hrl hrl2
      have HSing : Hid (∀ q, q ≤ T → sing (rowAt S ws k') q ≤ m) := Lib.hid (fun q hq => by have := sing_ws S ws HWs.out HP.out hN HW.out k' q (by rw [hnr]; omega); rwa [HWL.out, HM.out] at this)
      have HKK := Lib.hid hk'
      have HIX := Lib.hid hu1
      clear hu1 hu2 hnr HZ HSu wk hk' h0
      go_wp2_with fail
      go_loopw [8, 10, 29] (fun sq _ i wr => ∃ q : Nat, q ≤ T ∧ i = .int .i64 q ∧ sq = .int .i64 (sing (rowAt S ws k') q : Nat) ∧ LenIn S ws ss L B (.slice (some ⟨gv, 0, none⟩) L cv) vs w base go n cs (sing (rowAt S ws k') q) wr) (fun _ _ i _ => T - (intOf i).toNat)
      case atStart => exact ⟨0, by omega, rfl, by simp [sing], by simpa [sing] using HIn.out⟩
      case round =>
        clear HIn hcell
        obtain ⟨q, hq, rfl, rfl, hin⟩ := hrel
        have HI2 := Lib.hid hin; clear hin
        have hsm := HSing.out q hq
        by_cases hlt : q < T
        · have hqr : q < (rowAt S ws k').length := by rw [HNR.out]; omega
          have HSn := Lib.hid (sing_succ (rowAt S ws k') q hqr)
          obtain ⟨u, hu1, hu2⟩ := HI2.out.2.1.2.2 k' (by rw [HI2.out.2.1.1]; exact hkL)
          have hu : u = .slice (some ⟨gr, 0, none⟩) nr cr := by
            have h1 := HIX.out
            rw [hu1, HNR.out] at h1
            injection h1
          subst hu
          obtain ⟨p1, p2⟩ := pv_get (rowAt S ws k') q hqr
          rw [HNR.out] at hu2
          obtain ⟨x1, _, _⟩ := own_cellS hu2 p1
          obtain ⟨x2, _, _⟩ := own_cellS hu2 p2
          obtain ⟨_, _, hwgr⟩ := own_whole hu2 (k := gr) rfl
          have hgrz := hwgr.lt
          obtain ⟨cst, hcst⟩ : ∃ cst, (rowAt S ws k')[q].1 = cst := ⟨_, rfl⟩
          obtain ⟨pd, hpd⟩ : ∃ pd, (rowAt S ws k')[q].2 = pd := ⟨_, rfl⟩
          rw [hcst] at x1
          rw [hpd] at x2 HSn
          obtain ⟨Q, hQ⟩ : ∃ Q, sing (rowAt S ws k') q = Q := ⟨_, rfl⟩
          rw [hQ] at HSn HI2 hsm ⊢
          have hsm1 := HSing.out (q + 1) (by omega)
          rw [HSn.out] at hsm1
          clear hcst hpd hu1 p1 p2 hQ hwgr
          cases pd with
          | true =>
            simp only [if_true, Nat.add_zero] at HSn
            go_wp2
            go_roundw
            case rel =>
              refine ⟨q + 1, by omega, by go_num, by rw [HSn.out], ?_⟩
              rw [HSn.out]
              refine ⟨HI2.out.1.alloc _, HI2.out.2.1.keep HI2.out.1 ((Only.refl _ _).alloc _), HI2.out.2.2.alloc _⟩
            case measure => simp [intOf]; omega
          | false =>
            have hQm : Q < m := by simp at hsm1; omega
            have hQl : Q < ss.length := by rw [HM.out]; exact hQm
            have HSn' : Hid (sing (rowAt S ws k') (q + 1) = Q + 1) := Lib.hid (by rw [HSn.out]; rfl)
            have hs1' : Seen wr Bs 1 A1 m c1 (sv' ss) := HS1.out.only HI2.out.2.2 hBw (fun b hb e => by have : b = go := e; omega)
            obtain ⟨b1, o1, u1, rfl, hb1, q1, y1⟩ := hs1'.at hQm
            have hu : u1 = .int .i64 (ss[Q] : Nat) := by
              unfold sv' at q1
              rw [List.getElem?_map, List.getElem?_eq_getElem hQl] at q1
              simpa using q1.symm
            subst hu
            have hsn := HSS.out _ (List.getElem_mem hQl)
            have HUp := Lib.hid (lenUp_succ ss cs HD.out Q hQl)
            have hul := lenUp_le ss cs Q ss[Q]
            obtain ⟨s, hs⟩ : ∃ s, ss[Q] = s := ⟨_, rfl⟩
            rw [hs] at y1 hsn HUp hul
            obtain ⟨hco, hfo, _⟩ := own_cell HI2.out.1 (i := s) (u := .int .i64 (lenUp ss cs Q s : Nat)) (by unfold orow; rw [mr_get _ _ _ hsn])
            obtain ⟨_, _, hwgo⟩ := own_whole HI2.out.1 (k := go) rfl
            have hgoz := hwgo.lt
            have hb1z : b1 < wr.heap.size := by have := HI2.out.2.2.size; omega
            have hb1o : b1 ≠ go := by omega
            have hgro : gr ≠ go := fun e => own_ne_own hu2 HI2.out.1 (by decide) gr rfl (by rw [e]; rfl)
            obtain ⟨U, hU⟩ : ∃ U, lenUp ss cs Q s = U := ⟨_, rfl⟩
            rw [hU] at hco hul
            have HU := Lib.hid hU
            clear hs q1 hs1' hU HSn hsm1 hwgo
            go_wp2
            go_roundw
            case rel =>
              refine ⟨q + 1, by omega, by go_num, by rw [HSn'.out]; go_num, ?_⟩
              rw [HSn'.out]
              have hO1 : Only (fun k => k = go) wr ((wr.setCell ⟨go, s, none⟩ (.int .i64 ((U : Int) + 1))).alloc (.cells #[.int .i64 (cst : Nat), .bool false] 93)) := ((Only.refl (fun k => k = go) wr).setCell (p := ⟨go, s, none⟩) (.inl rfl) _).alloc _
              refine ⟨?_, HI2.out.2.1.keep HI2.out.1 hO1, HI2.out.2.2.trans hO1⟩
              have h3 := (own_put HI2.out.1 s (.int .i64 ((U + 1 : Nat) : Int))).alloc (.cells #[.int .i64 (cst : Nat), .bool false] 93)
              have e : (orow n (lenUp ss cs Q)).set s (.int .i64 ((U + 1 : Nat) : Int)) = orow n (lenUp ss cs (Q + 1)) := by
                unfold orow
                rw [mr_set]
                exact mr_ext _ _ _ fun i hi => by
                  rw [HUp.out i]
                  by_cases h : i = s
                  · rw [if_pos h, if_pos h, HU.out]
                  · rw [if_neg h, if_neg h]
              rw [e] at h3
              exact h3
            case measure => simp [intOf]; omega
        · obtain rfl : q = T := by omega
          obtain ⟨Q, hQ⟩ : ∃ Q, sing (rowAt S ws k') q = Q := ⟨_, rfl⟩
          have HQ := Lib.hid hQ
          have hsle := sing_le (rowAt S ws k') q
          rw [hQ] at HI2 hsm hsle ⊢
          clear hQ
          go_wp2_with fail
          go_roundw
          case rel =>
            refine ⟨k', 2 * (q - Q), cs ++ [Q], by omega, by have := HKK.out; go_num, by go_num, by omega, ?_, ?_, by rw [List.length_append]; simp; omega, ?_⟩
            · intro h
              subst h
              rw [hTl.out.2, cut_tops0, HQ.out]
            · intro k2 hk2
              subst hk2
              refine ⟨?_, ?_⟩
              · rw [← HQ.out]
                exact take_fits S ws HWs.out hN HW.out k2 q (by rw [HNR.out]; exact hTn)
              · rw [hTl.out.2, cut_tops, HQ.out, List.append_assoc]; rfl
            · refine ⟨?_, HI2.out.2.1, HI2.out.2.2⟩
              have e : orow n (lenUp ss (cs ++ [Q]) 0) = orow n (lenUp ss cs Q) := mr_ext _ _ _ fun i _ => by rw [lenUp_zero, lenUp_done]
              rw [e]; exact HI2.out.1
          case measure => have := HKK.out; simp [intOf]
end Go.Proofs.Ytijjcecboepiiaa
