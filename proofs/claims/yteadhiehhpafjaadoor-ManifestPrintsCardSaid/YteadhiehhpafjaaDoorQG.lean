/-
  The document's Print of a manifest. Conditions: sections and headers few enough to be asked about.
-/
import Derived.Test.YteadhiehhpafjaaDoorQF
import Derived.Test.YteadhiehhpafjaaDoorNT
namespace Go.Proofs.YteadhiehhpafjaaDoor
open Go Go.RowKit
set_option maxRecDepth 100000

theorem hText_few {p : ByteArray × ByteArray} (h : fewP p) : (hText p).length ≤ 37222 := by
  have h1 := hText_length p
  have h2 := h.1
  have h3 := h.2
  omega
theorem hTexts_few : ∀ (q : Sec), (∀ p ∈ q, fewP p) → (q.flatMap hText).length ≤ 37222 * q.length
  | [], _ => by simp
  | p :: q, h => by
    have h1 := hText_few (h p (by simp))
    have h2 := hTexts_few q fun x hx => h x (by simp [hx])
    rw [List.flatMap_cons, List.length_append, List.length_cons]; omega
theorem secText_few {q : Sec} (h : fewS q) : (secText q).length ≤ 744442 := by
  have h1 := hTexts_few q h.1
  have h2 := h.2
  rw [secText, List.length_append]; simp only [List.length_cons, List.length_nil]; omega
theorem secTexts_few : ∀ (ss : List Sec), (∀ s ∈ ss, fewS s) → (ss.flatMap secText).length ≤ 744442 * ss.length
  | [], _ => by simp
  | p :: q, h => by
    have h1 := secText_few (h p (by simp))
    have h2 := secTexts_few q fun x hx => h x (by simp [hx])
    rw [List.flatMap_cons, List.length_append, List.length_cons]; omega
theorem man_few {main : Sec} {ps : List Sec} (h : ∀ s ∈ main :: ps, fewS s) (hp : ps.length ≤ 10) : (manText main ps).length ≤ 8188862 := by
  have h1 := secTexts_few (main :: ps) h
  have e : manText main ps = (main :: ps).flatMap secText := rfl
  rw [e]; simp only [List.length_cons] at h1; omega
theorem app_list (a b : ByteArray) : (a ++ b).data.toList = a.data.toList ++ b.data.toList := by simp
theorem list_size (a : ByteArray) : a.data.toList.length = a.size := by simp
theorem tx_of {X : ByteArray} {l : List UInt8} (h : X.data.toList = l) : X = tx l := by
  subst h; unfold tx; simp
theorem bound_of {X : ByteArray} {l : List UInt8} (h : X.data.toList = l) {n : Nat} (hl : l.length ≤ n) : X.size ≤ n := by
  rw [← list_size, h]; exact hl

set_option maxHeartbeats 8000000 in
theorem dprint_any (B : Nat) (va : Value) (main : Sec) (ps : List Sec) (hmb : ∀ s ∈ main :: ps, fewS s) (hp2 : ps.length ≤ 10) (w : World) (hV : ManSeen w B va main ps) (hB : B ≤ w.heap.size) :
    Calls Tryd.prog 14 #[va] w (Gives w (.string (tx (manText main ps)))) := by
  have hmt : manText main ps = (main :: ps).flatMap secText := rfl
  obtain ⟨A, c, A2, c2, rows, rfl, hA, hA2, hR⟩ := hV
  obtain ⟨n, hn⟩ : ∃ n, main.length = n := ⟨_, rfl⟩
  obtain ⟨m, hmm⟩ : ∃ m, ps.length = m := ⟨_, rfl⟩
  obtain ⟨R, hr⟩ : ∃ R, manText main ps = R := ⟨_, rfl⟩
  rw [hn] at hA
  rw [hmm] at hA2 hp2
  rw [hn, hmm, hr]
  rw [hr] at hmt
  obtain ⟨i0, hi0, hz0, hz1, hz2⟩ := info_parts slice_info
  obtain ⟨w1, hw1⟩ : ∃ W, w.alloc (.cells #[.slice A n c, .slice A2 m c2] 27) = W := ⟨_, rfl⟩
  have B1 : Hid (Below w.heap.size w w1) := Lib.hid (hw1 ▸ (Below.refl w.heap.size w).alloc (Nat.le_refl _) _)
  have P1 : Hid (Whole w1 w.heap.size 27 #[.slice A n c, .slice A2 m c2]) := Lib.hid (hw1 ▸ Whole.new w 27 #[.slice A n c, .slice A2 m c2])
  have p10 := P1.out.cell 0
  have p11 := P1.out.cell 1
  have p21 : (w1.alloc (.cells #[.slice A n c] 24)).cell? ⟨w.heap.size, 1, none⟩ = some (.slice A2 m c2) := (P1.out.alloc (.cells #[.slice A n c] 24)).cell 1
  simp only [List.getElem?_toArray, List.getElem?_cons_zero, List.getElem?_cons_succ] at p10 p11
  have OW := Lib.hid (own_alone w1 w1.heap.size (Nat.le_refl _) (.slice A n c))
  have B2 : Hid (Below w.heap.size w (w1.alloc (.cells #[.slice A n c] 24))) := Lib.hid (B1.out.alloc B1.out.size _)
  have SA := Lib.hid (hA2.below (B2.out.mono hB))
  have HA := Lib.hid (hA.more hB)
  have HR := Lib.hid (hR.more2 hB)
  have o1 := rows_one hR
  have HL := Lib.hid hn
  have HMM := Lib.hid hmm
  have HMT := Lib.hid hmt
  clear hA hA2 hR hn hmm hr hmt
  go_enter Tryd.func14, Tryd.ntmps14
  go_wp2_with (refine wpList_append_seen (w1.alloc (.cells #[.slice A n c] 24)) rfl (.tmp 12) (.tmp 14) 25 rfl w1.heap.size 24 i0 _ 1 24 Tryd.underlying25 hi0 hz0 hz1 hz2 rfl (by omega) (.slice (some ⟨w1.heap.size, 0, none⟩) 1 1) 1 [.slice A n c] rfl OW.out B A2 m c2 rows rfl SA.out o1 (by simp [maxLen]; omega) (by omega) (by simp) ?_; intro v w3 hown hg hat; obtain ⟨A5, c5, rfl, _⟩ := own_form hown; have SX := Lib.hid (Sects.mk0 B2.out B1.out.size hown hg HL.out HMM.out HA.out HR.out); clear hown hg hat)
  have SE := SX.out.bel
  have b3 := SE.size
  have BZ := Lib.hid SE
  clear SE
  obtain ⟨ss, hss⟩ : ∃ ss, main :: ps = ss := ⟨_, rfl⟩
  have hsl : ss.length = 1 + m := by rw [← hss, List.length_cons, HMM.out]; omega
  rw [hss] at hmb SX HMT
  have HMB := Lib.hid hmb
  have HSL := Lib.hid hsl
  have z2 : (⟨#[13, 10]⟩ : ByteArray).size = 2 := rfl
  have z3 : (⟨#[58, 32]⟩ : ByteArray).size = 2 := rfl
  clear hmb hss p10 p11 p21 hB hsl
  go_loopg [3, 17] (1 + m) (fun j x v wr => ∃ k : Nat, k ≤ 1 + m ∧ j = 1 + m - k ∧ v = .int .i64 k ∧ Below w3.heap.size w3 wr ∧ ∃ X : ByteArray, x = .string X ∧ X.data.toList = (ss.take k).flatMap secText)
  case atStart => exact ⟨0, by omega, rfl, rfl, Below.refl _ _, _, rfl, rfl⟩
  case round =>
    obtain ⟨k, hk, rfl, rfl, hbl, X, rfl, hX⟩ := hrel
    obtain ⟨wo, rfl⟩ : ∃ W, W = wr := ⟨_, rfl⟩
    have BL := Lib.hid hbl
    have HX := Lib.hid hX
    have hT0 : ((ss.take k).flatMap secText).length ≤ 744442 * k := by
      have h := secTexts_few (ss.take k) fun s hs => HMB.out s (List.mem_of_mem_take hs)
      rw [List.length_take] at h
      have : min k ss.length ≤ k := Nat.min_le_left _ _
      omega
    obtain ⟨T0, hT⟩ : ∃ T, (ss.take k).flatMap secText = T := ⟨_, rfl⟩
    rw [hT] at hT0 HX
    have HT := Lib.hid hT
    clear hbl hX hT
    by_cases hlt : k < 1 + m
    · obtain ⟨b5, o5, A7, c7, q, L, rfl, hb5, hc5, hL, hS7, hkl, hq⟩ := SX.out.at BL.out hlt
      obtain ⟨hq1, hq2⟩ : fewS q := by rw [← hq]; exact HMB.out _ (List.getElem_mem hkl)
      rw [hL] at hq2
      have S7 := Lib.hid hS7
      have HQ := Lib.hid hq
      have HLQ := Lib.hid hL
      have HQ1 := Lib.hid hq1
      clear hS7 hq hL hq1
      have d0 : decide ((k : Int) < 1 + (m : Int)) = true := by rw [decide_eq_true_iff]; omega
      go_wp2_with fail
      go_loopg [3, 23] L (fun j x v wr => ∃ i : Nat, i ≤ L ∧ j = L - i ∧ v = .int .i64 i ∧ Below wo.heap.size wo wr ∧ ∃ Y : ByteArray, x = .string Y ∧ Y.data.toList = T0 ++ (q.take i).flatMap hText)
      case atStart => exact ⟨0, by omega, rfl, rfl, Below.refl _ _, X, rfl, by rw [HX.out]; simp⟩
      case round =>
        obtain ⟨i, hi, rfl, rfl, hbi, Y, rfl, hY⟩ := hrel
        obtain ⟨wi, rfl⟩ : ∃ W, W = wr := ⟨_, rfl⟩
        have BI := Lib.hid hbi
        have HY := Lib.hid hY
        have hT1 : (T0 ++ (q.take i).flatMap hText).length ≤ 744442 * k + 37222 * i := by
          have h := hTexts_few (q.take i) fun s hs => HQ1.out s (List.mem_of_mem_take hs)
          rw [List.length_take] at h
          have : min i q.length ≤ i := Nat.min_le_left _ _
          rw [List.length_append]; omega
        obtain ⟨T1, hT⟩ : ∃ T, T0 ++ (q.take i).flatMap hText = T := ⟨_, rfl⟩
        rw [hT] at hT1 HY
        have HT1 := Lib.hid hT
        clear hbi hY hT
        by_cases hil : i < L
        · have hil2 : i < q.length := by have := HLQ.out; omega
          obtain ⟨b7, o7, rfl, hb7, hc7, hd7⟩ := (S7.out.below BI.out).pr hil2 HLQ.out
          obtain ⟨qa, qb, hqq⟩ : ∃ x y, q[i] = (x, y) := ⟨_, _, rfl⟩
          have hqp : fewP (qa, qb) := by rw [← hqq]; exact HQ1.out _ (List.getElem_mem hil2)
          rw [hqq] at hc7 hd7
          have RG := Lib.hid (range_two hc7 hd7)
          have ZW := Lib.hid (Whole.new wi 44 (pairA ⟨#[]⟩ ⟨#[]⟩))
          have P4 := ZW.out.setRow (pairA qa qb)
          obtain ⟨w4, hw4⟩ : ∃ W, (wi.alloc (.cells #[.string ⟨#[]⟩, .string ⟨#[]⟩] 44)).setRow wi.heap.size #[.string qa, .string qb] = W := ⟨_, rfl⟩
          have c40 : w4.cell? ⟨wi.heap.size, 0, none⟩ = some (.string qa) := hw4 ▸ P4.cell 0
          have c41 : w4.cell? ⟨wi.heap.size, 1, none⟩ = some (.string qb) := hw4 ▸ P4.cell 1
          have B4 : Hid (Below wi.heap.size wi w4) := Lib.hid (hw4 ▸ below_setRow ((Below.refl wi.heap.size wi).alloc (Nat.le_refl _) (.cells (pairA ⟨#[]⟩ ⟨#[]⟩) 44)) (pairA qa qb) (Nat.le_refl _))
          have hq1 : qa.size ≤ 100 := hqp.1
          have hq3 : qb.size ≤ 400 := hqp.2
          obtain ⟨x, hx⟩ : ∃ x, qa.size = x := ⟨_, rfl⟩
          obtain ⟨y, hy⟩ : ∃ y, qb.size = y := ⟨_, rfl⟩
          have hls : (qa ++ ⟨#[58, 32]⟩ ++ qb).size = x + 2 + y := by rw [ByteArray.size_append, ByteArray.size_append, hx, hy, z3]
          have hls2 : (qa ++ ⟨#[58, 32]⟩).size = x + 2 := by rw [ByteArray.size_append, hx, z3]
          have FO := Lib.hid (fun W => fold_any (qa ++ ⟨#[58, 32]⟩ ++ qb) (x + 2 + y) hls (by omega) W)
          obtain ⟨fl, hfl⟩ : ∃ fl, foldL (qa ++ ⟨#[58, 32]⟩ ++ qb) = fl := ⟨_, rfl⟩
          have hpf : pfoldL (hLine (qa, qb)) = fl := by rw [pfoldL_eq]; exact hfl
          have hf1 : 0 < fl.length := hpf ▸ pfoldL_pos _
          have hf2 : fl.length ≤ x + 2 + y + 1 := by rw [← hpf]; have := pfoldL_length (hLine (qa, qb)); have h2 : (hLine (qa, qb)).size = x + 2 + y := hls; omega
          have hf3 : ∀ s ∈ fl, s.size ≤ 72 := hpf ▸ pfoldL_size _
          rw [hfl] at FO
          obtain ⟨f, hf⟩ : ∃ f, fl.length = f := ⟨_, rfl⟩
          have HF3 := Lib.hid hf3
          have HPF := Lib.hid hpf
          have HQQ := Lib.hid hqq
          clear hqq P4 hc7 hd7 hfl hpf hf3 hqp
          go_wp2_with (first | (refine wpList_load_mid rfl 44 (.tmp 25) rfl b7 (o7 + i * 2) rfl [.string qa, .string qb] _ RG.out Tryd.underlying44 rfl (pair_size qa qb) ?_) | (refine wpList_store_row rfl 44 (.tmp 7) (.tmp 26) rfl wi.heap.size #[.string qa, .string qb] rfl rfl 44 (pairA ⟨#[]⟩ ⟨#[]⟩) ZW.out (pair_size _ _) rfl (pair_one _ _) ?_; (try rw [hw4])) | (go_at_call 16; refine (FO.out _).mono ?_; rintro e w5 ⟨v5, rfl, o5, b5⟩; obtain ⟨gf, cf, rfl, _, _⟩ := own_pos o5 hf1))
          have SF : Hid (Seen w5 w5.heap.size 1 (some ⟨gf, 0, none⟩) f cf (sv fl)) := Lib.hid (hf ▸ Seen.of_own o5)
          have B5 := Lib.hid b5
          have HF := Lib.hid hf
          clear o5 b5 c40 c41
          go_loopg [3, 35] f (fun j x v wr => ∃ d : Nat, d ≤ f ∧ j = f - d ∧ v = .int .i64 d ∧ Below w5.heap.size w5 wr ∧ ∃ Z : ByteArray, x = .string Z ∧ Z.data.toList = T1 ++ lnText (fl.take d))
          case atStart => exact ⟨0, by omega, rfl, by simp, Below.refl _ _, Y, rfl, by rw [HY.out]; simp [lnText]⟩
          case round =>
            obtain ⟨d, hd, rfl, rfl, hbd, Z, rfl, hZ⟩ := hrel
            obtain ⟨wd, rfl⟩ : ∃ W, W = wr := ⟨_, rfl⟩
            have BD := Lib.hid hbd
            have HZ := Lib.hid hZ
            have hT2 : (T1 ++ lnText (fl.take d)).length ≤ 744442 * k + 37222 * i + 74 * d := by
              have h := lnText_length (fl.take d) fun s hs => HF3.out s (List.mem_of_mem_take hs)
              rw [List.length_take] at h
              have : min d fl.length ≤ d := Nat.min_le_left _ _
              rw [List.length_append]; omega
            have hZs := bound_of hZ hT2
            clear hbd hZ hT2
            by_cases hdf : d < f
            · have hdl : d < fl.length := by have := HF.out; omega
              obtain ⟨b8, o8, u8, hAe, _, hu8, hc8⟩ := (SF.out.below BD.out).at hdf
              cases hAe
              rw [Nat.zero_add] at hc8
              obtain rfl : u8 = .string fl[d] := by simpa [sv, List.getElem?_eq_getElem hdl] using hu8.symm
              have hs8 := HF3.out _ (List.getElem_mem hdl)
              obtain ⟨s8, hs8e⟩ : ∃ s, fl[d] = s := ⟨_, rfl⟩
              rw [hs8e] at hc8 hs8
              have HS8 := Lib.hid hs8e
              obtain ⟨z, hz⟩ : ∃ z, Z.size = z := ⟨_, rfl⟩
              obtain ⟨y8, hy8⟩ : ∃ z, s8.size = z := ⟨_, rfl⟩
              have hzz : (Z ++ s8).size = z + y8 := by rw [ByteArray.size_append, hz, hy8]
              clear hu8 hs8e
              go_wp2_with fail
              go_roundg (f - (d + 1))
              case measure => omega
              case rel =>
                refine ⟨d + 1, by omega, rfl, by go_num, BD.out, _, rfl, ?_⟩
                rw [app_list, app_list, HZ.out, take_next fl d hdl, lnText_snoc, HS8.out]
                simp
            · obtain rfl : d = f := by omega
              go_wp2_with fail
              go_roundg (L - (i + 1))
              case measure => omega
              case rel =>
                refine ⟨i + 1, by omega, rfl, by go_num, BI.out.trans ((B4.out.trans ((B5.out.trans (BD.out.mono B5.out.size)).mono B4.out.size)).mono BI.out.size), Z, rfl, ?_⟩
                have h := HZ.out
                rw [List.take_of_length_le (by have := HF.out; omega)] at h
                rw [h, ← HT1.out, take_next q i hil2, List.flatMap_append, HQQ.out, ← HPF.out]
                simp [hText]
        · obtain rfl : i = L := by omega
          have hYs := bound_of HY.out hT1
          obtain ⟨z, hz⟩ : ∃ z, Y.size = z := ⟨_, rfl⟩
          go_wp2_with fail
          go_roundg (1 + m - (k + 1))
          case measure => omega
          case rel =>
            refine ⟨k + 1, by omega, rfl, by go_num, BL.out.trans (BI.out.mono BL.out.size), _, rfl, ?_⟩
            have h := HT1.out
            rw [List.take_of_length_le (by have := HLQ.out; omega)] at h
            rw [app_list, HY.out, ← h, ← HT.out, take_next ss k hkl, List.flatMap_append, HQ.out]
            simp [secText]
    · obtain rfl : X = tx R := tx_of (by
        rw [HX.out, ← HT.out, HMT.out, List.take_of_length_le (by have := HSL.out; omega)])
      go_wp2_with fail
      go_ret
      exact ⟨rfl, BZ.out.trans (BL.out.mono b3)⟩
end Go.Proofs.YteadhiehhpafjaaDoor
