/-
  The document's Check of a manifest. Conditions: sections and headers few enough to be asked about.
-/
import Derived.Test.YteadhiehhpafjaaDoorQE
namespace Go.Proofs.YteadhiehhpafjaaDoor
open Go Go.RowKit
set_option maxRecDepth 100000

theorem Seen.front {w : World} {B n c : Nat} {A : Option Addr} {q : Sec} (h : Seen w B 2 A n c (pvs q)) (hn : q.length = n) {i : Nat} (hi : i ≤ n) : Seen w B 2 A i c (pvs (q.take i)) := by
  obtain ⟨h1, h2, h3⟩ := h
  refine ⟨by rw [pvs_length, List.length_take]; omega, by omega, ?_⟩
  rcases h3 with h3 | ⟨a, rfl, h3⟩
  · exact .inl h3
  · refine .inr ⟨a, rfl, fun hne => ?_⟩
    have e : pvs q = pvs (q.take i) ++ pvs (q.drop i) := by
      rw [pvs, pvs, pvs, ← List.flatMap_append, List.take_append_drop]
    obtain ⟨g1, g2, g3⟩ := h3 (by intro e2; rw [e2] at e; exact hne (List.append_eq_nil_iff.1 e.symm).1)
    refine ⟨g1, g2, fun j u hj => g3 j u ?_⟩
    rw [e, List.getElem?_append_left (List.getElem?_eq_some_iff.1 hj).1]; exact hj

theorem checkM_eq (b : Bool) (ah : Sec) (p : ByteArray × ByteArray) : checkM b ah p = judgeM (firstM b) (smNames ah) p := by
  unfold checkM judgeM
  have e1 : (smNames ah = []) ↔ ah = [] := by rw [smNames, List.map_eq_nil_iff]
  have e2 : (hasT (smNames ah) (smallM p.1) = true) ↔ ∃ q ∈ ah, smallM q.1 = smallM p.1 := by
    rw [hasT_iff, smNames, List.mem_map]
  simp only [e1, e2]

/-- All sections ahead of that place are right. -/
def Okk (ss : List Sec) (k : Nat) : Prop := ∀ j (h : j < ss.length), j < k → secRes (firstM (decide (j = 0))) ss[j] = 0
theorem okk_next {ss : List Sec} {k : Nat} (hk : k < ss.length) (h : Okk ss k) (h2 : secRes (firstM (decide (k = 0))) ss[k] = 0) : Okk ss (k + 1) := by
  intro j hj hjk
  by_cases e : j = k
  · subst e; exact h2
  · exact h j hj (by omega)
theorem partsErr_bad : ∀ (ps : List Sec) (k : Nat) (hk : k < ps.length), (∀ j (h : j < ps.length), j < k → secRes partF ps[j] = 0) → secRes partF ps[k] ≠ 0 → partsErr ps = secRes partF ps[k]
  | p :: ps, 0, _, _, h2 => by
    simp only [List.getElem_cons_zero] at h2 ⊢
    rw [partsErr, if_neg h2]
  | p :: ps, k + 1, hk, h1, h2 => by
    have h0 := h1 0 (by simp) (by omega)
    simp only [List.getElem_cons_zero] at h0
    rw [partsErr, if_pos h0]
    exact partsErr_bad ps k (by simpa using hk) (fun j hj hjk => by have := h1 (j + 1) (by simpa using hj) (by omega); simpa using this) (by simpa using h2)
theorem okk_bad {main : Sec} {ps ss : List Sec} (hss : main :: ps = ss) {k : Nat} (hk : k < ss.length) (h : Okk ss k) (h2 : secRes (firstM (decide (k = 0))) ss[k] ≠ 0) : manErr main ps = secRes (firstM (decide (k = 0))) ss[k] := by
  subst hss
  cases k with
  | zero => rw [manErr, if_neg (show ¬ secRes mainF main = 0 from h2)]; rfl
  | succ k =>
    have h0 : secRes mainF main = 0 := h 0 (by simp) (by omega)
    rw [manErr, if_pos h0]
    refine partsErr_bad ps k (by simpa using hk) (fun j hj hjk => ?_) (by simpa [firstM, partF] using h2)
    have := h (j + 1) (by simpa using hj) (by omega)
    simpa [firstM, partF] using this
theorem partsErr_all : ∀ (ps : List Sec), (∀ j (h : j < ps.length), secRes partF ps[j] = 0) → partsErr ps = 0
  | [], _ => rfl
  | p :: ps, h => by
    have h0 := h 0 (by simp)
    simp only [List.getElem_cons_zero] at h0
    rw [partsErr, if_pos h0]
    exact partsErr_all ps fun j hj => by have := h (j + 1) (by simpa using hj); simpa using this
theorem okk_end {main : Sec} {ps ss : List Sec} (hss : main :: ps = ss) {k : Nat} (hk : ss.length = k) (h : Okk ss k) : manErr main ps = 0 := by
  subst hss
  subst hk
  have h0 : secRes mainF main = 0 := h 0 (by simp) (by simp)
  rw [manErr, if_pos h0]
  refine partsErr_all ps fun j hj => ?_
  have := h (j + 1) (by simpa using hj) (by simpa using hj)
  simpa [firstM, partF] using this
theorem sec_bad {first : ByteArray} {q : Sec} {i : Nat} (hi : i < q.length) (h : secErr first [] (q.take i) = 0) (h2 : judgeM first (smNames (q.take i)) q[i] ≠ 0) : secRes first q = judgeM first (smNames (q.take i)) q[i] := by
  have hne : q ≠ [] := by rintro rfl; simp at hi
  rw [secRes, if_neg hne, secErr_take first q i hi h, if_neg h2]

theorem whole_two {W : World} {g : Nat} {x y : Value} (h : Whole W g 44 #[x, y]) : W.rangeAt g 0 [x, y] := range_two (h.cell 0) (h.cell 1)

set_option maxHeartbeats 8000000 in
theorem dcheck_any (B : Nat) (va : Value) (main : Sec) (ps : List Sec) (hmb : ∀ s ∈ main :: ps, fewS s) (hp2 : ps.length ≤ 10) (w : World) (hV : ManSeen w B va main ps) (hB : B ≤ w.heap.size) :
    Calls Tryd.prog 13 #[va] w (Gives w (.int .i64 (manErr main ps))) := by
  obtain ⟨A, c, A2, c2, rows, rfl, hA, hA2, hR⟩ := hV
  obtain ⟨n, hn⟩ : ∃ n, main.length = n := ⟨_, rfl⟩
  obtain ⟨m, hmm⟩ : ∃ m, ps.length = m := ⟨_, rfl⟩
  obtain ⟨r, hr⟩ : ∃ r, manErr main ps = r := ⟨_, rfl⟩
  rw [hn] at hA
  rw [hmm] at hA2 hp2
  rw [hn, hmm, hr]
  obtain ⟨i0, hi0, hz0, hz1, hz2⟩ := info_parts slice_info
  obtain ⟨w1, hw1⟩ : ∃ W, w.alloc (.cells #[.slice A n c, .slice A2 m c2] 27) = W := ⟨_, rfl⟩
  have B1 : Hid (Below w.heap.size w w1) := Lib.hid (hw1 ▸ (Below.refl w.heap.size w).alloc (Nat.le_refl _) _)
  have P1 : Hid (Whole w1 w.heap.size 27 #[.slice A n c, .slice A2 m c2]) := Lib.hid (hw1 ▸ Whole.new w 27 #[.slice A n c, .slice A2 m c2])
  have p10 := P1.out.cell 0
  have p11 := P1.out.cell 1
  have p21 : (w1.alloc (.cells #[.slice A n c] 24)).cell? ⟨w.heap.size, 1, none⟩ = some (.slice A2 m c2) := (P1.out.alloc (.cells #[.slice A n c] 24)).cell 1
  simp only [List.getElem?_toArray, List.getElem?_cons_zero, List.getElem?_cons_succ] at p10 p11
  have OW := Lib.hid (own_alone w1 w1.heap.size (Nat.le_refl _) (.slice A n c))
  have B2 : Hid (Below w.heap.size w (w1.alloc (.cells #[.slice A n c] 24))) := Lib.hid (B1.out.alloc B1.out.size _)
  have SA := Lib.hid (hA2.below (B2.out.mono hB))
  have HA := Lib.hid (hA.more hB)
  have HR := Lib.hid (hR.more2 hB)
  have o1 := rows_one hR
  have HL := Lib.hid hn
  have HMM := Lib.hid hmm
  have HRR := Lib.hid hr
  clear hA hA2 hR hn hmm hr
  go_enter Tryd.func13, Tryd.ntmps13
  go_wp2_with (refine wpList_append_seen (w1.alloc (.cells #[.slice A n c] 24)) rfl (.tmp 10) (.tmp 12) 25 rfl w1.heap.size 24 i0 _ 1 24 Tryd.underlying25 hi0 hz0 hz1 hz2 rfl (by omega) (.slice (some ⟨w1.heap.size, 0, none⟩) 1 1) 1 [.slice A n c] rfl OW.out B A2 m c2 rows rfl SA.out o1 (by simp [maxLen]; omega) (by omega) (by simp) ?_; intro v w3 hown hg hat; obtain ⟨A5, c5, rfl, _⟩ := own_form hown; have SX := Lib.hid (Sects.mk0 B2.out B1.out.size hown hg HL.out HMM.out HA.out HR.out); clear hown hg hat)
  have SE := SX.out.bel
  have b3 := SE.size
  have BZ := Lib.hid SE
  clear SE
  obtain ⟨ss, hss⟩ : ∃ ss, main :: ps = ss := ⟨_, rfl⟩
  rw [hss] at hmb SX
  have HMB := Lib.hid hmb
  have HSS := Lib.hid hss
  clear hmb hss p10 p11 p21 hB
  go_loopg [15] (1 + m) (fun j v wr => ∃ k : Nat, k ≤ 1 + m ∧ j = 1 + m - k ∧ v = .int .i64 k ∧ Below w3.heap.size w3 wr ∧ Okk ss k)
  case atStart => exact ⟨0, by omega, rfl, rfl, Below.refl _ _, fun j h hj => by omega⟩
  case round =>
    obtain ⟨k, hk, rfl, rfl, hbl, hfs⟩ := hrel
    obtain ⟨wo, rfl⟩ : ∃ W, W = wr := ⟨_, rfl⟩
    have BL := Lib.hid hbl
    have HFS := Lib.hid hfs
    clear hbl hfs
    by_cases hlt : k < 1 + m
    · obtain ⟨b5, o5, A7, c7, q, L, rfl, hb5, hc5, hL, hS7, hkl, hq⟩ := SX.out.at BL.out hlt
      obtain ⟨hq1, hq2⟩ : fewS q := by rw [← hq]; exact HMB.out _ (List.getElem_mem hkl)
      rw [hL] at hq2
      have S7 := Lib.hid hS7
      have HQ := Lib.hid hq
      have HLQ := Lib.hid hL
      have HQ1 := Lib.hid hq1
      obtain ⟨bk, hbk⟩ : ∃ bk, decide (k = 0) = bk := ⟨_, rfl⟩
      have dk : ((k : Int) == 0) = bk := by rw [← hbk]; by_cases e : k = 0 <;> simp [e]
      have dk2 : decide ((k : Int) = 0) = bk := by rw [← dk]; rfl
      have HBK := Lib.hid hbk
      clear hS7 hq hL hq1 hbk
      have d0 : decide ((k : Int) < 1 + (m : Int)) = true := by rw [decide_eq_true_iff]; omega
      by_cases hL0 : L = 0
      · subst hL0
        have hq0 : q = [] := List.eq_nil_of_length_eq_zero HLQ.out
        have hre : r = 2 := by
          have h2 : secRes (firstM (decide (k = 0))) ss[k] = 2 := by rw [HQ.out, hq0]; rfl
          have := okk_bad HSS.out hkl HFS.out (by rw [h2]; decide)
          rw [HRR.out, h2] at this; exact this
        subst hre
        go_wp2_with fail
        go_ret
        exact ⟨rfl, BZ.out.trans (BL.out.mono b3)⟩
      have dl : ((L : Int) == 0) = false := by rw [beq_eq_false_iff_ne]; omega
      go_wp2_with fail
      go_loopg [25] L (fun j v wr => ∃ i : Nat, i ≤ L ∧ j = L - i ∧ v = .int .i64 i ∧ Below wo.heap.size wo wr ∧ secErr (firstM bk) [] (q.take i) = 0)
      case atStart => exact ⟨0, by omega, rfl, rfl, Below.refl _ _, rfl⟩
      case round =>
        obtain ⟨i, hi, rfl, rfl, hbi, hfp⟩ := hrel
        obtain ⟨wi, rfl⟩ : ∃ W, W = wr := ⟨_, rfl⟩
        have BI := Lib.hid hbi
        have HFP := Lib.hid hfp
        clear hbi hfp
        by_cases hil : i < L
        · have hil2 : i < q.length := by have := HLQ.out; omega
          obtain ⟨b7, o7, rfl, hb7, hc7, hd7⟩ := (S7.out.below BI.out).pr hil2 HLQ.out
          have hic : i ≤ c7 := by have := S7.out.2.1; omega
          have SF := Lib.hid ((S7.out.below BI.out).front HLQ.out hi)
          obtain ⟨qa, qb, hqq⟩ : ∃ x y, q[i] = (x, y) := ⟨_, _, rfl⟩
          have hqp : fewP (qa, qb) := by rw [← hqq]; exact HQ1.out _ (List.getElem_mem hil2)
          rw [hqq] at hc7 hd7
          have RG := Lib.hid (range_two hc7 hd7)
          have ZW := Lib.hid (Whole.new wi 44 (pairA ⟨#[]⟩ ⟨#[]⟩))
          have P4 := ZW.out.setRow (pairA qa qb)
          obtain ⟨w4, hw4⟩ : ∃ W, (wi.alloc (.cells #[.string ⟨#[]⟩, .string ⟨#[]⟩] 44)).setRow wi.heap.size #[.string qa, .string qb] = W := ⟨_, rfl⟩
          have P5 : Hid (Whole w4 wi.heap.size 44 #[.string qa, .string qb]) := Lib.hid (hw4 ▸ P4)
          have hB4 : Below wi.heap.size wi w4 := hw4 ▸ below_setRow ((Below.refl wi.heap.size wi).alloc (Nat.le_refl _) (.cells (pairA ⟨#[]⟩ ⟨#[]⟩) 44)) (pairA qa qb) (Nat.le_refl _)
          have B4 := Lib.hid hB4
          have CK := Lib.hid (fun (W : World) (h : Below w4.heap.size w4 W) => check_any bk (q.take i) qa qb (some ⟨b7, o7, none⟩) i c7 wo.heap.size (by rw [List.length_take]; omega) (by omega) (by have := hqp.1; show qa.size ≤ 1000000; have h2 : qa.size ≤ 100 := this; omega) (by have := hqp.2; have h2 : qb.size ≤ 400 := this; omega) (fun p hp => by have h2 : p.1.size ≤ 100 := (HQ1.out p (List.mem_of_mem_take hp)).1; omega) W ((SF.out.below (hB4.mono BI.out.size)).below (h.mono (Nat.le_trans BI.out.size hB4.size))) (Nat.le_trans BI.out.size (Nat.le_trans hB4.size h.size)))
          obtain ⟨e, he⟩ : ∃ e, checkM bk (q.take i) (qa, qb) = e := ⟨_, rfl⟩
          rw [he] at CK
          have HE := Lib.hid he
          have HQQ := Lib.hid hqq
          clear hqq P4 hc7 hd7 he hqp
          go_upto_region 9 with (first | (refine wpList_load_mid rfl 44 (.tmp 28) rfl b7 (o7 + i * 2) rfl [.string qa, .string qb] _ RG.out Tryd.underlying44 rfl (pair_size qa qb) ?_) | (refine wpList_store_row rfl 44 (.tmp 6) (.tmp 29) rfl wi.heap.size #[.string qa, .string qb] rfl rfl 44 (pairA ⟨#[]⟩ ⟨#[]⟩) ZW.out (pair_size _ _) rfl (pair_one _ _) ?_; (try rw [hw4])))
          refine wp_region_held_drew (S := (fun W => Below w4.heap.size w4 W)) (by kernel_rfl) (Below.refl _ _).drew (fun hHeld => ?_)
          have hHeld0 := hHeld
          generalize hwd : w4.drew = wd at *
          clear hwd hHeld0
          refine wpAnyH_take (i := 0) (oi := ⟨some 30, _, _, _, _, _⟩) (v := ?vc0_1) rfl (by kernel_rfl) (by kernel_rfl) (by kernel_rfl) (fun _ _ _ h => h) (Or.inl ⟨by rfl, ?hyc0_1⟩) (by assumption) ?restc0_1
          case hyc0_1 => intro W hSW; go_simp; try rfl
          try simp only [Act.put, List.setIfInBounds_toArray, List.set_cons_zero, List.set_cons_succ]
          refine wpAnyH_take (i := 1) (oi := ⟨some 31, _, _, _, _, _⟩) (v := ?vc1_2) rfl (by kernel_rfl) (by kernel_rfl) (by kernel_rfl) (fun _ _ _ h => h) (Or.inl ⟨by rfl, ?hyc1_2⟩) (by assumption) ?restc1_2
          case hyc1_2 => intro W hSW; go_simp; try rfl
          try simp only [Act.put, List.setIfInBounds_toArray, List.set_cons_zero, List.set_cons_succ]
          refine wpAnyH_take (i := 2) (oi := ⟨some 32, _, _, _, _, _⟩) (v := ?vc2_3) rfl (by kernel_rfl) (by kernel_rfl) (by kernel_rfl) (fun _ _ _ h => h) (Or.inl ⟨by rfl, ?hyc2_3⟩) (by assumption) ?restc2_3
          case hyc2_3 => intro W hSW; go_simp; try rfl
          try simp only [Act.put, List.setIfInBounds_toArray, List.set_cons_zero, List.set_cons_succ]
          refine wpAnyH_take (i := 3) (oi := ⟨some 33, _, _, _, _, _⟩) (v := ?vc3_4) rfl (by kernel_rfl) (by kernel_rfl) (by kernel_rfl) (fun _ _ _ h => h) (Or.inl ⟨by rfl, ?hyc3_4⟩) (by assumption) ?restc3_4
          case hyc3_4 => intro W hSW; go_simp; try rfl
          try simp only [Act.put, List.setIfInBounds_toArray, List.set_cons_zero, List.set_cons_succ]
          refine wpAnyH_take (i := 4) (oi := ⟨some 34, _, _, _, _, _⟩) (v := ?vc4_5) rfl (by kernel_rfl) (by kernel_rfl) (by kernel_rfl) (fun _ _ _ h => h) (Or.inl ⟨by rfl, ?hyc4_5⟩) (by assumption) ?restc4_5
          case hyc4_5 => intro W hSW; have i1 : i ≤ c7 := hic; go_simp; try rfl
          try simp only [Act.put, List.setIfInBounds_toArray, List.set_cons_zero, List.set_cons_succ]
          refine wpAnyH_take (i := 5) (oi := ⟨some 35, _, _, _, _, _⟩) (v := .agg #[.string qa, .string qb]) rfl (by kernel_rfl) (by kernel_rfl) (by kernel_rfl) (fun _ _ _ h => h) (Or.inl ⟨by rfl, ?hyc5_6⟩) (by assumption) ?restc5_6
          case hyc5_6 => intro W hSW; exact mid_yields W wi.heap.size 0 44 [.string qa, .string qb] _ _ rfl rfl (whole_two (P5.out.bel hSW)) Tryd.underlying44 rfl (pair_size qa qb)
          try simp only [Act.put, List.setIfInBounds_toArray, List.set_cons_zero, List.set_cons_succ]
          refine wpAnyH_ready (rs := [6]) (by kernel_rfl) (by simp) ?_
          refine (AllReadyH.cons (o := ⟨some 36, _, _, _, _, _⟩) rfl (fun K hK => ?_) AllReadyH.nil)
          · go_simp
            refine (CK.out _ hHeld).mono ?_; rintro e9 w9_7 ⟨rfl, hb⟩
            refine hK.out _ _ ?_ (fun hHeld2 => ?_)
            · exact bel_after hHeld (Nat.le_refl _) hb
            clear hK K hHeld
            have hHeld := hHeld2; clear hHeld2
            try simp only [Act.put, List.setIfInBounds_toArray, List.set_cons_zero, List.set_cons_succ]
            clear hb
            refine wpAnyH_take (i := 7) (oi := ⟨some 7, _, _, _, _, _⟩) (v := ?vc7_8) rfl (by kernel_rfl) (by kernel_rfl) (by kernel_rfl) (fun _ _ _ h => h) (Or.inl ⟨by rfl, ?hyc7_8⟩) (by assumption) ?restc7_8
            case hyc7_8 => intro W hSW; go_simp; try rfl
            try simp only [Act.put, List.setIfInBounds_toArray, List.set_cons_zero, List.set_cons_succ]
            refine wpAnyH_done (by kernel_rfl) ?_ _
            have HB9 := Lib.hid hHeld
            clear hHeld CK
            by_cases he0 : e = 0
            · subst he0
              go_wp2_with fail
              go_roundg (L - (i + 1))
              case measure => omega
              case rel =>
                refine ⟨i + 1, by omega, rfl, by go_num, BI.out.trans ((B4.out.trans (HB9.out.mono B4.out.size)).mono BI.out.size), secErr_next _ q i hil2 HFP.out ?_⟩
                rw [HQQ.out, ← checkM_eq]; exact HE.out
            · have hne : (e != 0) = true := by rw [bne_iff_ne]; exact he0
              have hre : r = e := by
                have h1 : judgeM (firstM bk) (smNames (q.take i)) q[i] = e := by rw [HQQ.out, ← checkM_eq]; exact HE.out
                have h2 := sec_bad hil2 HFP.out (by rw [h1]; exact he0)
                have h3 : secRes (firstM (decide (k = 0))) ss[k] = e := by rw [HQ.out, HBK.out, h2, h1]
                have h4 := okk_bad HSS.out hkl HFS.out (by rw [h3]; exact he0)
                rw [HRR.out, h3] at h4; exact h4
              subst hre
              clear HE
              go_wp2_with fail
              go_ret
              exact ⟨rfl, BZ.out.trans ((BL.out.trans ((BI.out.trans ((B4.out.trans (HB9.out.mono B4.out.size)).mono BI.out.size)).mono BL.out.size)).mono b3)⟩
        · obtain rfl : i = L := by omega
          have hall : secRes (firstM (decide (k = 0))) ss[k] = 0 := by
            rw [HQ.out, HBK.out, secRes, if_neg (by intro e; have := HLQ.out; rw [e] at this; simp at this; omega)]
            have h := HFP.out
            rw [List.take_of_length_le (by have := HLQ.out; omega)] at h; exact h
          have HALL := Lib.hid hall
          clear hall
          go_wp2_with fail
          go_roundg (1 + m - (k + 1))
          case measure => omega
          case rel => exact ⟨k + 1, by omega, rfl, by go_num, BL.out.trans (BI.out.mono BL.out.size), okk_next hkl HFS.out HALL.out⟩
    · obtain rfl : r = 0 := HRR.out.symm.trans (okk_end HSS.out (by have := SX.out.len; omega) HFS.out)
      go_wp2_with fail
      go_ret
      exact ⟨rfl, BZ.out.trans (BL.out.mono b3)⟩
end Go.Proofs.YteadhiehhpafjaaDoor
