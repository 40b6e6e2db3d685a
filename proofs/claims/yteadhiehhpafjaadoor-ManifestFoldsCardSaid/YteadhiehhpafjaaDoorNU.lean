/-
  The walk of ManifestFolds. Conditions: texts of no more bytes than an int tells; a number in the library's variable.
-/
import Derived.Test.YteadhiehhpafjaaDoorNS
import Derived.Test.YteadhiehhpafjaaDoorNT
import Derived.BigQuiet
namespace Go.Proofs.YteadhiehhpafjaaDoor
open Go Go.RowKit
set_option maxRecDepth 100000

set_option maxHeartbeats 8000000 in
theorem folds_yes (s name : ByteArray) (l : Sec) (A : Option Addr) (n c B : Nat) (z k0 : Nat) (hz : s.size = z) (hk0 : name.size = k0) (hs : z ≤ 9223372036854775807) (hm : k0 ≤ 9223372036854775807) (hn : l.length = n) (hl : ∀ p ∈ l, p.1.size ≤ 9223372036854775807) (m : Int) (w : World)
    (hm1 : w.cell? ⟨1, 0, none⟩ = some (.int .i64 m)) (hA : Seen w B 2 A n c (pvs l)) (hB : B ≤ w.heap.size) :
    Calls Tryd.prog 6 #[.string s, .slice A n c, .string name] w (Gives w (.bool true)) := by
  have FX := Lib.hid (fixed_any m w hm1)
  have HA := Lib.hid hA
  clear hA
  by_cases g1 : 1000 < z
  · have d1 : decide ((1000 : Int) < (z : Int)) = true := by rw [decide_eq_true_iff]; omega
    go_enter Tryd.func6, Tryd.ntmps6
    go_wp2_with (go_at_call 7; refine FX.out.mono ?_; rintro e w1 ⟨rfl, b1⟩)
    go_ret
    exact ⟨rfl, b1⟩
  have d1 : decide ((1000 : Int) < (z : Int)) = false := by rw [decide_eq_false_iff_not]; omega
  by_cases g2 : 20 < n
  · have d2 : decide ((20 : Int) < (n : Int)) = true := by rw [decide_eq_true_iff]; omega
    go_enter Tryd.func6, Tryd.ntmps6
    go_wp2_with (go_at_call 7; refine FX.out.mono ?_; rintro e w1 ⟨rfl, b1⟩)
    go_ret
    exact ⟨rfl, b1⟩
  have d2 : decide ((20 : Int) < (n : Int)) = false := by rw [decide_eq_false_iff_not]; omega
  by_cases g3 : 200 < k0
  · have d3 : decide ((200 : Int) < (k0 : Int)) = true := by rw [decide_eq_true_iff]; omega
    go_enter Tryd.func6, Tryd.ntmps6
    go_wp2_with (go_at_call 7; refine FX.out.mono ?_; rintro e w1 ⟨rfl, b1⟩)
    go_ret
    exact ⟨rfl, b1⟩
  have d3 : decide ((200 : Int) < (k0 : Int)) = false := by rw [decide_eq_false_iff_not]; omega
  have P1 := Lib.hid (fun W => pfold_any s z hz (by omega) W)
  have P2 := Lib.hid (fun W => fold_any s z hz (by omega) W)
  have P3 := Lib.hid (fun W => pname_any s z hz (by omega) W)
  have P4 := Lib.hid (fun W => name_any s z hz (by omega) W)
  rw [pfoldL_eq] at P1
  have hfs : ∀ x ∈ foldL s, x.size ≤ 72 := by rw [← pfoldL_eq]; exact pfoldL_size s
  obtain ⟨f, hf⟩ : ∃ f, foldL s = f := ⟨_, rfl⟩
  have hfl2 : f.length ≤ s.size + 1 := by rw [← hf, ← pfoldL_eq]; exact pfoldL_length s
  have hfp : 0 < f.length := by rw [← hf, ← pfoldL_eq]; exact pfoldL_pos s
  rw [hf] at P1 P2 hfs
  obtain ⟨q, hq⟩ : ∃ q, f.length = q := ⟨_, rfl⟩
  have hq2 : q ≤ 1001 := by omega
  obtain ⟨nm, hnm⟩ : ∃ b, nameM s = b := ⟨_, rfl⟩
  rw [hnm] at P3 P4
  have HF := Lib.hid hf
  clear hf hnm
  go_enter Tryd.func6, Tryd.ntmps6
  go_wp2_with (first | (go_at_call 7; refine FX.out.mono ?_; rintro e w1 ⟨rfl, b1⟩) | (go_at_call 15; refine (P1.out _).mono ?_; rintro e w2 ⟨v2, rfl, o2, b2⟩; obtain ⟨ga, ca, rfl, _, _⟩ := own_pos o2 hfp) | (go_at_call 16; refine (P2.out _).mono ?_; rintro e w3 ⟨v3, rfl, o3, b3⟩; obtain ⟨gb, cb, rfl, _, _⟩ := own_pos o3 hfp) | (go_at_call 17; refine (P3.out _).mono ?_; rintro e w4 ⟨rfl, b4⟩) | (go_at_call 18; refine (P4.out _).mono ?_; rintro e w5 ⟨rfl, rfl⟩))
  have BW : Hid (Below w.heap.size w w4) := Lib.hid (((b1.trans (b2.mono b1.size)).trans (b3.mono (Nat.le_trans b1.size b2.size))).trans (b4.mono (Nat.le_trans (Nat.le_trans b1.size b2.size) b3.size)))
  have SA : Hid (Seen w4 w2.heap.size 1 (some ⟨ga, 0, none⟩) q ca (sv f)) := Lib.hid (((hq ▸ Seen.of_own o2).below b3).below (b4.mono b3.size))
  have SB : Hid (Seen w4 w3.heap.size 1 (some ⟨gb, 0, none⟩) q cb (sv f)) := Lib.hid ((hq ▸ Seen.of_own o3).below b4)
  have HZ := Lib.hid (And.intro b3.size b4.size)
  have HFS := Lib.hid hfs
  clear b1 b2 b3 b4 o2 o3 hfs
  go_loopg [47] q (fun j v wr => ∃ k : Nat, k ≤ q ∧ j = q - k ∧ v = .int .i64 k ∧ Below w4.heap.size w4 wr)
  case atStart => exact ⟨0, by omega, rfl, rfl, Below.refl _ _⟩
  case round =>
    obtain ⟨k, hk, rfl, rfl, hbl⟩ := hrel
    obtain ⟨wo, rfl⟩ : ∃ W, W = wr := ⟨_, rfl⟩
    have BL := Lib.hid hbl
    clear hbl
    by_cases hlt : k < q
    · have hkf : k < f.length := by omega
      obtain ⟨ba, oa, ua, hAe, _, hua, ca1⟩ := (SA.out.below (BL.out.mono (by have := HZ.out; omega))).at hlt
      obtain ⟨bb, ob, ub, hBe, _, hub, cb1⟩ := (SB.out.below (BL.out.mono (by have := HZ.out; omega))).at hlt
      cases hAe
      cases hBe
      rw [Nat.zero_add] at ca1 cb1
      obtain rfl : ua = .string f[k] := by simpa [sv, List.getElem?_eq_getElem hkf] using hua.symm
      obtain rfl : ub = .string f[k] := by simpa [sv, List.getElem?_eq_getElem hkf] using hub.symm
      have hxs := HFS.out _ (List.getElem_mem hkf)
      obtain ⟨x, hx⟩ : ∃ x, f[k] = x := ⟨_, rfl⟩
      rw [hx] at ca1 cb1 hxs
      obtain ⟨y, hy⟩ : ∃ y, x.size = y := ⟨_, rfl⟩
      have d9 : decide ((72 : Int) < (y : Int)) = false := by rw [decide_eq_false_iff_not]; omega
      have hbb : (x.toList == x.toList) = true := by simp
      clear hua hub hx hxs
      go_wp2_with (fail)
      go_quiet (fail)
      go_wp2_with (fail)
      go_roundg (q - (k + 1))
      case measure => omega
      case rel => exact ⟨k + 1, by omega, rfl, by go_num, BL.out.trans ⟨rfl, rfl, rfl, Nat.le_refl _, fun _ _ => rfl⟩⟩
    · obtain rfl : k = q := by omega
      have BX : Hid (Below w.heap.size w wo) := Lib.hid (BW.out.trans (BL.out.mono BW.out.size))
      have GE := Lib.hid (get_any l name A n c B hn (by omega) hl (by omega) wo (HA.out.below (BX.out.mono hB)) (Nat.le_trans hB BX.out.size))
      obtain ⟨N, hN⟩ : ∃ N, smallM name = N := ⟨_, rfl⟩
      rw [hN] at GE
      obtain ⟨gv, hgv⟩ : ∃ gv : ByteArray, getV (getM N l) = gv := ⟨_, rfl⟩
      obtain ⟨gb2, hgb⟩ : ∃ b, (getM N l).isSome = b := ⟨_, rfl⟩
      unfold Gets at GE
      rw [hgv, hgb] at GE
      have HGV := Lib.hid hgv
      have HGB := Lib.hid hgb
      have HN := Lib.hid hN
      clear hgv hgb hN
      go_wp2_with (go_at_call 19; refine GE.out.mono ?_; rintro e w6 ⟨rfl, b6⟩)
      have B6 := Lib.hid (BX.out.trans (b6.mono BX.out.size))
      clear b6
      go_loopg [76] n (fun j v wr => ∃ k : Nat, k ≤ n ∧ j = n - k ∧ v = .int .i64 k ∧ Below w.heap.size w wr ∧ ∀ i (h : i < l.length), i < k → smallM l[i].1 ≠ N)
      case atStart => exact ⟨0, by omega, rfl, rfl, B6.out, fun i h hi => by omega⟩
      case round =>
        obtain ⟨i, hi, rfl, rfl, hbl, hal⟩ := hrel
        obtain ⟨wi, rfl⟩ : ∃ W, W = wr := ⟨_, rfl⟩
        have BI := Lib.hid hbl
        clear hbl
        by_cases hlt2 : i < n
        · have hil : i < l.length := by omega
          obtain ⟨bk, o, rfl, hbk, hc1, hc2⟩ := (HA.out.below (BI.out.mono hB)).pr hil hn
          have hps := hl _ (List.getElem_mem hil)
          obtain ⟨p, hp⟩ : ∃ p, l[i] = p := ⟨_, rfl⟩
          rw [hp] at hc1 hc2 hps
          obtain ⟨pa, pb⟩ := p
          simp only at hc1 hc2 hps
          have HP := Lib.hid hp
          have RG : Hid (wi.rangeAt bk (o + i * 2) (pairA pa pb).toList) := Lib.hid (by
            intro j v hj
            match j, hj with
            | 0, hj => rw [Nat.add_zero, hc1]; exact hj
            | 1, hj => rw [hc2]; exact hj)
          have ZW := Lib.hid (Whole.new wi 44 (pairA ⟨#[]⟩ ⟨#[]⟩))
          obtain ⟨w7, hw7⟩ : ∃ W, (wi.alloc (.cells #[.string ⟨#[]⟩, .string ⟨#[]⟩] 44)).setRow wi.heap.size (pairA pa pb) = W := ⟨_, rfl⟩
          have Q7 : Hid (Whole w7 wi.heap.size 44 (pairA pa pb)) := Lib.hid (hw7 ▸ ZW.out.setRow (pairA pa pb))
          have O7 : Hid (Only Nob wi w7) := Lib.hid (hw7 ▸ Only.of_below (below_setRow ((Below.refl wi.heap.size wi).alloc (Nat.le_refl _) (.cells (pairA ⟨#[]⟩ ⟨#[]⟩) 44)) (pairA pa pb) (Nat.le_refl _)) Nob)
          have B7 := Lib.hid (BI.out.trans (O7.out.nob_below.mono BI.out.size))
          have pp0 : (pairA pa pb)[0]? = some (.string pa) := rfl
          have pp1 : (pairA pa pb)[1]? = some (.string pb) := rfl
          have c70 := Q7.out.cell 0
          rw [pp0] at c70
          obtain ⟨z7, hz7⟩ : ∃ z, pa.size = z := ⟨_, rfl⟩
          have HAL := Lib.hid hal
          clear hp hc1 hc2 hal
          by_cases h200 : 200 < z7
          · have d7 : decide ((200 : Int) < (z7 : Int)) = true := by rw [decide_eq_true_iff]; omega
            go_wp2_with (first | (refine wpList_load_mid rfl 44 (.tmp 78) rfl bk (o + i * 2) rfl (pairA pa pb).toList _ RG.out Tryd.underlying44 rfl (pair_size _ _) ?_) | (refine wpList_store_row rfl 44 (.tmp 13) (.tmp 79) rfl wi.heap.size (pairA pa pb) rfl rfl 44 (pairA ⟨#[]⟩ ⟨#[]⟩) ZW.out (pair_size _ _) rfl (pair_one _ _) ?_))
            go_ret
            exact ⟨rfl, B7.out⟩
          · have d7 : decide ((200 : Int) < (z7 : Int)) = false := by rw [decide_eq_false_iff_not]; omega
            obtain ⟨T, hT⟩ : ∃ T, smallM pa = T := ⟨_, rfl⟩
            have HT := Lib.hid hT
            have hN := HN.out
            by_cases hE : T = N
            · have hc : (T.toList == N.toList) = true := by rw [hE]; simp
              have hg : getM N l = some (pa, pb) := by
                unfold getM
                rw [List.find?_eq_some_iff_getElem]
                exact ⟨by simp only [HT.out, hE, decide_true], i, hil, HP.out, fun j hj => by simpa using HAL.out j (by omega) hj⟩
              have hgv2 := HGV.out
              have hgb2 := HGB.out
              rw [hg] at hgv2 hgb2
              simp only [Option.isSome_some, getV] at hgv2 hgb2
              subst hgv2
              subst hgb2
              have hbb : (pb.toList == pb.toList) = true := by simp
              clear hg hE
              go_wp2_with (first | (refine wpList_load_mid rfl 44 (.tmp 78) rfl bk (o + i * 2) rfl (pairA pa pb).toList _ RG.out Tryd.underlying44 rfl (pair_size _ _) ?_) | (refine wpList_store_row rfl 44 (.tmp 13) (.tmp 79) rfl wi.heap.size (pairA pa pb) rfl rfl 44 (pairA ⟨#[]⟩ ⟨#[]⟩) ZW.out (pair_size _ _) rfl (pair_one _ _) ?_) | (go_at_call 20; refine (small_any _ _ rfl (by omega) _).mono ?_; rintro e w8 ⟨rfl, b8⟩; (first | (have B9 := Lib.hid (B8.out.trans (b8.mono B8.out.size)); have Q9 := Lib.hid (Q8.out.bel b8); have c91 := Q9.out.cell 1; rw [pp1] at c91) | (have B8 := Lib.hid (B7.out.trans (b8.mono B7.out.size)); have Q8 := Lib.hid (Q7.out.bel b8))); clear b8))
              go_ret
              exact ⟨rfl, B9.out⟩
            · have hc : (T.toList == N.toList) = false := by
                rw [beq_eq_false_iff_ne, ByteArray.toList_eq, ByteArray.toList_eq]
                intro e
                exact hE (ByteArray.ext (Array.toList_inj.1 e))
              have hnx : ∀ j (h : j < l.length), j < i + 1 → smallM l[j].1 ≠ N := fun j h hj => by
                by_cases hij : j < i
                · exact HAL.out j h hij
                · obtain rfl : j = i := by omega
                  rw [HP.out, HT.out]; exact hE
              have HNX := Lib.hid hnx
              clear hnx hE
              go_wp2_with (first | (refine wpList_load_mid rfl 44 (.tmp 78) rfl bk (o + i * 2) rfl (pairA pa pb).toList _ RG.out Tryd.underlying44 rfl (pair_size _ _) ?_) | (refine wpList_store_row rfl 44 (.tmp 13) (.tmp 79) rfl wi.heap.size (pairA pa pb) rfl rfl 44 (pairA ⟨#[]⟩ ⟨#[]⟩) ZW.out (pair_size _ _) rfl (pair_one _ _) ?_) | (go_at_call 20; refine (small_any _ _ rfl (by omega) _).mono ?_; rintro e w8 ⟨rfl, b8⟩; (first | have B9 := Lib.hid (B8.out.trans (b8.mono B8.out.size)) | have B8 := Lib.hid (B7.out.trans (b8.mono B7.out.size))); clear b8))
              go_roundg (n - (i + 1))
              case measure => omega
              case rel => exact ⟨i + 1, by omega, rfl, by go_num, B9.out, HNX.out⟩
        · obtain rfl : i = n := by omega
          have hg : getM N l = none := by
            unfold getM
            rw [List.find?_eq_none]
            intro p hp
            obtain ⟨j, hj, rfl⟩ := List.getElem_of_mem hp
            simpa using hal j hj (by omega)
          have hgv2 := HGV.out
          have hgb2 := HGB.out
          rw [hg] at hgv2 hgb2
          simp only [Option.isSome_none, getV] at hgv2 hgb2
          subst hgv2
          subst hgb2
          have hbe : (⟨#[]⟩ : ByteArray).toList.isEmpty = true := by rw [ba_empty]; rfl
          clear hg hal
          go_wp2
          go_ret
          exact ⟨rfl, BI.out⟩
end Go.Proofs.YteadhiehhpafjaaDoor
