/-
  The program's printSection. Conditions: headers' texts of at most a hundred thousand bytes, at most a hundred thousand of them, behind at most a million million bytes.
-/
import Derived.Test.YteadhiehhpafjaaDoorNK
import Derived.Lib.BufferOld
namespace Go.Proofs.YteadhiehhpafjaaDoor
open Go Go.RowKit
set_option maxRecDepth 100000

theorem BufAt.old {B b : Nat} {t : List UInt8} {w w' : World} (h : BufAt B b t w) (hb : Below w.heap.size w w') : BufAt B b t w' := Lib.IsBuffer.old h hb
theorem BufAt.set {B b M : Nat} {t : List UInt8} {w w' : World} {l : List ByteArray} (h : BufAt B b t w) (hs : SetAt w M l) (ho : Only (fun k => k = M) w w') : BufAt B b t w' := by
  have hne := buf_ne_set h hs
  obtain ⟨h1, v, lr, h2, h3, h4⟩ := h
  have hlt : b < w.heap.size := (Array.getElem?_eq_some_iff.1 h2).1
  exact ⟨h1, v, lr, (ho.block b hlt (fun e => hne e.symm)).trans h2, own_only h3 ho (fun k hk e => by
    obtain ⟨_, cs, hw⟩ := own_whole h3 hk
    exact (hs.ne hw) e.symm), h4⟩
theorem bnd2 (T : List UInt8) (h : T.length ≤ 140737488355326) : T.length + (⟨#[13, 10]⟩ : ByteArray).size ≤ 140737488355328 := by
  have : (⟨#[13, 10]⟩ : ByteArray).size = 2 := rfl
  omega
theorem bnd1 (T : List UInt8) (x : ByteArray) (h : T.length + x.size ≤ 140737488355326) : (T ++ x.data.toList).length + (⟨#[13, 10]⟩ : ByteArray).size ≤ 140737488355328 := by
  refine bnd2 _ ?_
  have : x.data.toList.length = x.size := by simp
  rw [List.length_append, this]; exact h
/-- What a section's printing does. -/
def PrintsSec (w : World) (B b : Nat) (t : List UInt8) (first : ByteArray) (l : List (ByteArray × ByteArray)) (e : Ending) (w' : World) : Prop :=
  e = .returned (.int .i64 (secRes first l)) ∧ Below B w w' ∧ ∃ t', BufAt B b t' w' ∧ (secRes first l = 0 → t' = t ++ secText l)

set_option maxHeartbeats 8000000 in
theorem section_any (B b : Nat) (t : List UInt8) (first : ByteArray) (l : List (ByteArray × ByteArray)) (A : Option Addr) (n c : Nat) (hn : l.length = n) (hn2 : n ≤ 100000)
    (hl : ∀ p ∈ l, p.1.size ≤ 100000 ∧ p.2.size ≤ 100000) (ht : t.length ≤ 10000000000000) (w : World) (hA : Seen w B 2 A n c (pvs l)) (hB : B ≤ w.heap.size) (hb : BufAt B b t w) :
    Calls Tryd.prog 28 #[.pointer (some ⟨b, 0, none⟩), .slice A n c, .string first] w (PrintsSec w B b t first l) := by
  have HA := Lib.hid hA
  have HBF := Lib.hid hb
  clear hA hb
  by_cases h0 : n = 0
  · subst h0
    obtain rfl : l = [] := List.eq_nil_of_length_eq_zero hn
    go_enter Tryd.func28, Tryd.ntmps28
    go_wp2
    go_ret
    exact ⟨rfl, Below.refl _ _, t, HBF.out, fun h => by cases h⟩
  · have hne : l ≠ [] := by rintro rfl; exact h0 hn.symm
    have hr : secRes first l = secErr first [] l := by rw [secRes, if_neg hne]
    have d0 : ((n : Int) == 0) = false := by rw [beq_eq_false_iff_ne]; omega
    have JN := Lib.hid (fun W => judge_new first W)
    go_enter Tryd.func28, Tryd.ntmps28
    go_wp2_with (go_at_call 44; refine (JN.out _).mono ?_; rintro e w1 ⟨g, M, cj, rfl, j1, j2, j3, j4, j5⟩)
    unfold judgeV
    have HJ1 := Lib.hid j1
    have HB1 := Lib.hid (j5.mono hB)
    have HBF1 := Lib.hid (HBF.out.old j5)
    have HR := Lib.hid hr
    have hZ1 := j5.size
    have HM : Hid (B ≤ M) := Lib.hid (by omega)
    clear j1 j2 j3 j4 j5 JN hr HBF
    go_loopg [20] n (fun j v wr => ∃ k : Nat, k ≤ n ∧ j = n - k ∧ v = .int .i64 k ∧ JudgeAt wr g M cj first (smNames (l.take k)) ∧ BufAt B b (t ++ (l.take k).flatMap hText) wr ∧ Below B w wr ∧ secErr first [] (l.take k) = 0)
    case atStart => exact ⟨0, by omega, rfl, rfl, by simpa [smNames] using HJ1.out, by simpa using HBF1.out, HB1.out, by simp [secErr]⟩
    case round =>
      obtain ⟨k, hk, rfl, rfl, hJ, hBf, hBl, hE⟩ := hrel
      obtain ⟨wo, rfl⟩ : ∃ W, W = wr := ⟨_, rfl⟩
      have HJ := Lib.hid hJ
      have HBf := Lib.hid hBf
      have HBl := Lib.hid hBl
      have HE := Lib.hid hE
      have hZo := hBl.size
      clear hJ hBf hBl hE HJ1 HB1 HBF1
      by_cases hlt : k < n
      · have hkl : k < l.length := by omega
        obtain ⟨bk, o, rfl, hbk, hc1, hc2⟩ := (HA.out.below HBl.out).pr hkl hn
        have hq := hl _ (List.getElem_mem hkl)
        obtain ⟨q, hqq⟩ : ∃ q, l[k] = q := ⟨_, rfl⟩
        rw [hqq] at hc1 hc2 hq
        obtain ⟨qa, qb⟩ := q
        simp only at hc1 hc2 hq
        have HQ := Lib.hid hqq
        have RG : Hid (wo.rangeAt bk (o + k * 2) (pairA qa qb).toList) := Lib.hid (by
          intro j v hj
          match j, hj with
          | 0, hj => rw [Nat.add_zero, hc1]; exact hj
          | 1, hj => rw [hc2]; exact hj)
        have ZW := Lib.hid (Whole.new wo 44 (pairA ⟨#[]⟩ ⟨#[]⟩))
        obtain ⟨w2, hw2⟩ : ∃ W, (wo.alloc (.cells #[.string ⟨#[]⟩, .string ⟨#[]⟩] 44)).setRow wo.heap.size (pairA qa qb) = W := ⟨_, rfl⟩
        have Q2 : Hid (Whole w2 wo.heap.size 44 (pairA qa qb)) := Lib.hid (hw2 ▸ ZW.out.setRow (pairA qa qb))
        have O2 : Hid (Only Nob wo w2) := Lib.hid (hw2 ▸ Only.of_below (below_setRow ((Below.refl wo.heap.size wo).alloc (Nat.le_refl _) (.cells (pairA ⟨#[]⟩ ⟨#[]⟩) 44)) (pairA qa qb) (Nat.le_refl _)) Nob)
        have J2 := Lib.hid (HJ.out.only O2.out (fun h => h) (fun h => h) (fun h => h))
        have BF2 := Lib.hid (HBf.out.old O2.out.nob_below)
        have B2 := Lib.hid (HBl.out.trans (O2.out.nob_below.mono (by omega)))
        have JC := Lib.hid (judge_any qa qb first (smNames (l.take k)) g M cj (by omega) (by omega) (by simp [smNames]; omega) w2 J2.out)
        clear hqq
        obtain ⟨r, hr⟩ : ∃ r, judgeM first (smNames (l.take k)) (qa, qb) = r := ⟨_, rfl⟩
        unfold Judges at JC
        rw [hr] at JC
        have HRR := Lib.hid hr
        clear hr
        by_cases hr0 : r = 0
        · subst hr0
          have pp0 : (pairA qa qb)[0]? = some (.string qa) := rfl
          have pp1 : (pairA qa qb)[1]? = some (.string qb) := rfl
          have hcs : (⟨#[58, 32]⟩ : ByteArray).size = 2 := rfl
          obtain ⟨LL, hLL⟩ : ∃ LL, qa ++ ⟨#[58, 32]⟩ ++ qb = LL := ⟨_, rfl⟩
          have hLs : LL.size = qa.size + 2 + qb.size := by rw [← hLL]; exact hLine_size (qa, qb)
          have PF := Lib.hid (fun W => pfold_any LL LL.size rfl (by omega) W)
          have HL := Lib.hid (show hLine (qa, qb) = LL from hLL)
          obtain ⟨fl, hfl⟩ : ∃ fl, pfoldL LL = fl := ⟨_, rfl⟩
          obtain ⟨m, hm⟩ : ∃ m, fl.length = m := ⟨_, rfl⟩
          have hm2 : m ≤ 200003 := by have := pfoldL_length LL; rw [hfl, hm] at this; omega
          have hfs : ∀ x ∈ fl, x.size ≤ 72 := by have := pfoldL_size LL; rw [hfl] at this; exact this
          have HFS := Lib.hid hfs
          have HFL := Lib.hid hfl
          obtain ⟨T0, hT0⟩ : ∃ T0, t ++ (l.take k).flatMap hText = T0 := ⟨_, rfl⟩
          have hT0l : T0.length ≤ 12000000000000 := by
            rw [← hT0, List.length_append]
            have := hTexts_length (l.take k) (fun p hp => hl p (List.mem_of_mem_take hp))
            rw [List.length_take] at this
            have : min k l.length ≤ 100000 := by omega
            omega
          have HT0 := Lib.hid hT0
          clear hfs
          go_wp2_with (first | (refine wpList_load_mid rfl 44 (.tmp 22) rfl bk (o + k * 2) rfl (pairA qa qb).toList _ RG.out Tryd.underlying44 rfl (pair_size _ _) ?_) | (refine wpList_store_row rfl 44 (.tmp 9) (.tmp 23) rfl wo.heap.size (pairA qa qb) rfl rfl 44 (pairA ⟨#[]⟩ ⟨#[]⟩) ZW.out (pair_size _ _) rfl (pair_one _ _) ?_) | ((try rw [hw2]); refine wpList_load_row rfl 44 (.tmp 9) rfl wo.heap.size rfl 44 (pairA qa qb) (0, 0) _ Q2.out Tryd.underlying44 rfl (pair_size _ _) ?_) | (go_at_call 67; refine JC.out.mono ?_; rintro e w3 ⟨rfl, j3, o3⟩; have Q3 := Lib.hid (Q2.out.only o3 (fun h => (J2.out.set.ne Q2.out) h.symm)); have c30 := Q3.out.cell 0; have c31 := Q3.out.cell 1; rw [pp0] at c30; rw [pp1] at c31; have J3 := Lib.hid j3; have BF3 := Lib.hid (BF2.out.set J2.out.set o3); have B3 := Lib.hid (B2.out.trans (o3.below (B := B) (by have := B2.out.size; omega) (fun i hi => by have := HM.out; omega))); have hadd1 := run_string_add_sum (P := Tryd.prog) (w := w3) qa ⟨#[58, 32]⟩ (by rw [hcs]; omega); have hadd2 := run_string_add_sum (P := Tryd.prog) (w := w3) (qa ++ ⟨#[58, 32]⟩) qb (by rw [ByteArray.size_append, hcs]; omega); rw [hLL] at hadd2; clear j3 o3) | (go_at_call 15; refine (PF.out _).mono ?_; rintro e w4 ⟨vf, rfl, f1, f2⟩; obtain ⟨gf, cf, rfl, _, _⟩ := own_pos f1 (pfoldL_pos _); have F4 := Lib.hid f1; have B4 := Lib.hid (B3.out.trans (f2.mono (by have := B3.out.size; omega))); have J4 := Lib.hid (J3.out.only (Only.of_below f2 Nob) (fun h => h) (fun h => h) (fun h => h)); have BF4 := Lib.hid (BF3.out.old f2); rw [hfl] at F4; clear f1 f2))
          have HFL2 := Lib.hid (show pfoldL LL = fl from hfl)
          try rw [hm]
          rw [hm] at F4
          rw [hT0] at BF4
          clear hfl hadd1 hadd2 c30 c31 hLL hT0
          go_loopg [38] m (fun j v wr => ∃ i : Nat, i ≤ m ∧ j = m - i ∧ v = .int .i64 i ∧ JudgeAt wr g M cj first (if (0 : Int) = 0 then smNames (l.take k) ++ [smallM qa] else smNames (l.take k)) ∧ BufAt B b (T0 ++ lnText (fl.take i)) wr ∧ Below B w wr ∧ wr.ownsRow w3.heap.size 9 1 (.slice (some ⟨gf, 0, none⟩) m cf) m (sv fl))
          case atStart => exact ⟨0, by omega, rfl, rfl, J4.out, by simpa [lnText] using BF4.out, B4.out, F4.out⟩
          case round =>
            obtain ⟨i, hi, rfl, rfl, hJ5, hB5, hL5, hO5⟩ := hrel
            obtain ⟨wi, rfl⟩ : ∃ W, W = wr := ⟨_, rfl⟩
            have J5 := Lib.hid hJ5
            have BF5 := Lib.hid hB5
            have B5 := Lib.hid hL5
            have F5 := Lib.hid hO5
            clear hJ5 hB5 hL5 hO5
            by_cases hlt2 : i < m
            · have hif : i < fl.length := by omega
              obtain ⟨b', o', u, hAe, _, hu, hcell⟩ := (Seen.of_own F5.out).at hlt2
              cases hAe
              rw [Nat.zero_add] at hcell
              obtain rfl : u = .string fl[i] := by simpa [sv, List.getElem?_eq_getElem hif] using hu.symm
              obtain ⟨x, hx⟩ : ∃ x, fl[i] = x := ⟨_, rfl⟩
              have hxs : x.size ≤ 72 := by rw [← hx]; exact HFS.out _ (List.getElem_mem hif)
              rw [hx] at hcell
              have HX := Lib.hid hx
              have hlnl : (lnText (fl.take i)).length ≤ 20000000 := by
                have := lnText_length (fl.take i) (fun y hy => HFS.out y (List.mem_of_mem_take hy))
                rw [List.length_take] at this; omega
              have W1 := Lib.hid (write_any B b (T0 ++ lnText (fl.take i)) x wi BF5.out (by have := B5.out.size; omega) (by rw [List.length_append]; omega))
              clear hx hu
              go_wp2_with (first | (go_at_call 45; refine (W2.out).mono ?_; rintro e w7 ⟨rfl, b7, l7, k7⟩; have H7 := Lib.hid (And.intro b7 (And.intro l7 k7)); clear b7 l7 k7) | (go_at_call 45; refine (W1.out).mono ?_; rintro e w6 ⟨rfl, b6, l6, k6⟩; have W2 := Lib.hid (write_any B b (T0 ++ lnText (fl.take i) ++ x.data.toList) ⟨#[13, 10]⟩ w6 b6 (by have := B5.out.size; have := l6.size; omega) (bnd1 _ x (by rw [List.length_append]; omega))); have H6 := Lib.hid (And.intro b6 (And.intro l6 k6)); clear b6 l6 k6))
              go_roundg (m - (i + 1))
              case measure => omega
              case rel =>
                obtain ⟨b6, l6, k6⟩ := H6.out
                obtain ⟨b7, l7, k7⟩ := H7.out
                refine ⟨i + 1, by omega, rfl, by go_num, (J5.out.written BF5.out l6 k6).written b6 l7 k7, ?_, (B5.out.trans l6).trans l7, own_written (own_written F5.out BF5.out l6 k6) b6 l7 k7⟩
                rw [take_next fl i hif, lnText_snoc, HX.out]
                simpa [List.append_assoc] using b7
            · obtain rfl : i = m := by omega
              go_wp2
              go_roundg (n - (k + 1))
              case measure => omega
              case rel =>
                refine ⟨k + 1, by omega, rfl, by go_num, ?_, ?_, B5.out, secErr_next first l k hkl HE.out (by rw [HQ.out]; exact HRR.out)⟩
                · rw [take_next l k hkl, smNames_snoc, HQ.out]
                  exact J5.out
                · have := BF5.out
                  rw [List.take_of_length_le (by omega), ← HFL2.out, ← HT0.out] at this
                  rw [take_next l k hkl, List.flatMap_append, HQ.out]
                  simpa [hText, HL.out] using this
        · have hr1 : (r != 0) = true := by rw [bne_iff_ne]; exact hr0
          have HR0 := Lib.hid hr0
          clear hr0
          go_wp2_with (first | (refine wpList_load_mid rfl 44 (.tmp 22) rfl bk (o + k * 2) rfl (pairA qa qb).toList _ RG.out Tryd.underlying44 rfl (pair_size _ _) ?_) | (refine wpList_store_row rfl 44 (.tmp 9) (.tmp 23) rfl wo.heap.size (pairA qa qb) rfl rfl 44 (pairA ⟨#[]⟩ ⟨#[]⟩) ZW.out (pair_size _ _) rfl (pair_one _ _) ?_) | ((try rw [hw2]); refine wpList_load_row rfl 44 (.tmp 9) rfl wo.heap.size rfl 44 (pairA qa qb) (0, 0) _ Q2.out Tryd.underlying44 rfl (pair_size _ _) ?_) | (go_at_call 67; refine JC.out.mono ?_; rintro e w3 ⟨rfl, j3, o3⟩))
          go_ret
          have hres : secRes first l = r := by rw [HR.out, secErr_take first l k hkl HE.out, HQ.out, HRR.out, if_neg HR0.out]
          exact ⟨by rw [hres]; rfl, B2.out.trans (o3.below (B := B) (by have := B2.out.size; omega) (fun i hi => by have := HM.out; omega)), _, BF2.out.set J2.out.set o3, fun h => absurd (hres.symm.trans h) HR0.out⟩
      · obtain rfl : k = n := by omega
        have htk : l.take k = l := List.take_of_length_le (by omega)
        rw [htk] at HE HBf
        have hll : (l.flatMap hText).length ≤ 15000000 * l.length := hTexts_length l hl
        have W1 := Lib.hid (write_any B b (t ++ l.flatMap hText) ⟨#[13, 10]⟩ wo HBf.out (by omega) (bnd2 _ (by rw [List.length_append]; omega)))
        clear hll htk
        go_wp2_with (go_at_call 45; refine (W1.out).mono ?_; rintro e w6 ⟨rfl, b6, l6, k6⟩)
        go_ret
        refine ⟨by rw [HR.out, HE.out]; rfl, HBl.out.trans l6, _, b6, fun _ => ?_⟩
        rw [secText]
        simp
end Go.Proofs.YteadhiehhpafjaaDoor
