/-
  Contracts of the library's stable sort at rows of packs: the whole. Conditions: fewer than a million packs.
  The Sorter for rows of up to 4096: the library's stable sort, whole.
-/
import Derived.Test.YtkjhefjjacokjaaGreatQS10
namespace Go.Proofs.YtkjhefjjacokjaaGreat
open Go.Proofs Go.Shelf Go.RowKit Go.Sort Go.Lib
set_option maxRecDepth 100000
set_option maxHeartbeats 4000000 in
set_option maxRecDepth 1000000 in
theorem stabP (blk cap : Nat) (d : Array Pk) (w : World) (R : RowK encP 2 w blk 0 d) (hsz : d.size < 1000000) :
    Calls Tryz.prog 121 #[.slice (some ⟨blk, 0, none⟩) d.size cap, .int .i64 d.size, .func (.func 118) #[] #[]] w fun e w' => e = .returned (.tuple #[]) ∧ SWK encP 2 w blk 0 (stab (ltOf cfP) d) w' := by
  have eg : ∀ args w, (callFunc 118 args).run Tryz.prog w = .ok (.enter 118 args) w := enters_of Tryz.func118 (by kernel_rfl) rfl
  have hcmp := cmpLaysP blk 0 d.size w
  have S0 : Hid (SWK encP 2 w blk 0 d w) := Lib.hid (SWK.start R.hH)
  have CI := Lib.hid (fun (d' : Array Pk) (w' : World) (a b : Nat) (h1 : d'.size = d.size) (S : SWK encP 2 w blk 0 d' w') (h2 : a ≤ b) (h3 : b ≤ d.size) =>
    show Calls Tryz.prog 123 #[.slice (some ⟨blk, 0, none⟩) d.size cap, .int .i64 a, .int .i64 b, .func (.func 118) #[] #[]] w' (fun e w' => e = .returned (.tuple #[]) ∧ SWK encP 2 w blk 0 (Sort.insertionSort (ltOf cfP) d' a b) w') from
      h1 ▸ insP_w blk cap a b d d' w w' hcmp R h1.symm S h2 (by omega) (by omega))
  have CS := Lib.hid (symP cfP 118 #[] blk cap d w eg hcmp R hsz)
  have HSz := Lib.hid (fun (d' : Array Pk) (a b : Nat) (h1 : a ≤ b) (h2 : b ≤ d'.size) => (insertionSort_holds swoP d' a b h1 h2).1.1)
  clear hcmp R eg
  obtain ⟨T, hT⟩ : ∃ T, stab (ltOf cfP) d = T := ⟨_, rfl⟩
  rw [hT]
  obtain ⟨I, hI⟩ : ∃ I, insB (ltOf cfP) d.size d 0 = I := ⟨_, rfl⟩
  have HT : Hid (stabL (ltOf cfP) d.size I 20 = T) := Lib.hid (by rw [← hI, ← hT]; rfl)
  clear hT
  obtain ⟨z, hz⟩ : ∃ z, d.size = z := ⟨_, rfl⟩
  have HZ := Lib.hid hz
  rw [hz] at hsz hI CI CS HT ⊢
  clear hz
  have HI := Lib.hid hI; clear hI
  go_enter Tryz.func121, Tryz.ntmps121
  go_wp2_with fail
  go_loopw [7, 8] (fun va vb wr => ∃ (a f : Nat) (d' : Array Pk), va = .int .i64 a ∧ vb = .int .i64 (a + 20 : Nat) ∧ a ≤ z ∧ z - a ≤ f ∧ d'.size = z ∧ insB (ltOf cfP) f d' a = I ∧ SWK encP 2 w blk 0 d' wr) (fun va _ _ => z - (intOf va).toNat)
  case atStart => exact ⟨0, z, d, rfl, rfl, by omega, by omega, HZ.out, HI.out, S0.out⟩
  case round =>
    clear S0 HI
    obtain ⟨a, f, d', rfl, rfl, haz, hf, hd', hIn, hS⟩ := hrel
    have S1 := Lib.hid hS; clear hS
    have HD := Lib.hid hd'; clear hd'
    have HN := Lib.hid hIn; clear hIn
    obtain ⟨b, hb⟩ : ∃ b, a + 20 = b := ⟨_, rfl⟩
    rw [hb]
    by_cases hlt : b ≤ z
    · obtain ⟨f', rfl⟩ : ∃ f', f = f' + 1 := ⟨f - 1, by omega⟩
      have C1 := Lib.hid (CI.out d' wr a b HD.out S1.out (by omega) hlt)
      have HN2 : Hid (insB (ltOf cfP) f' (Sort.insertionSort (ltOf cfP) d' a b) b = I) := Lib.hid (by
        rw [← HN.out, insB, if_pos (by rw [HD.out]; omega), hb])
      have HS2 : Hid ((Sort.insertionSort (ltOf cfP) d' a b).size = z) := Lib.hid (by rw [HSz.out d' a b (by omega) (by rw [HD.out]; exact hlt), HD.out])
      have HB := Lib.hid hb; clear hb
      go_wp2_with (go_at_call 123; refine C1.out.mono ?_; rintro e w1 ⟨rfl, hS1⟩; have S3 := Lib.hid hS1; clear hS1)
      go_roundw
      case rel => exact ⟨b, f', _, rfl, by go_num, hlt, by have := HB.out; omega, HS2.out, HN2.out, S3.out⟩
      case measure => have := HB.out; simp [intOf]; omega
    · have C1 := Lib.hid (CI.out d' wr a z HD.out S1.out haz (Nat.le_refl _))
      have HN2 : Hid (Sort.insertionSort (ltOf cfP) d' a z = I) := Lib.hid (by
        rw [← HN.out]
        cases f with
        | zero => rw [insB, HD.out]
        | succ f => rw [insB, if_neg (by rw [HD.out]; omega), HD.out])
      have HS2 : Hid (I.size = z) := Lib.hid (by rw [← HN2.out, HSz.out d' a z haz (by rw [HD.out]; omega), HD.out])
      have HB := Lib.hid hb; clear hb
      go_wp2_with (go_at_call 123; refine C1.out.mono ?_; rintro e w1 ⟨rfl, hS1⟩; have S3 : Hid (SWK encP 2 w blk 0 I w1) := Lib.hid (by rw [← HN2.out]; exact hS1); clear hS1)
      clear C1 HN HN2 S1 HD HB
      clear hlt hf haz
      go_loopw [6, 7, 8] (fun vs _ _ wr => ∃ (s f : Nat) (d' : Array Pk), vs = .int .i64 s ∧ 0 < s ∧ s ≤ 2000000 ∧ z ≤ s + f ∧ d'.size = z ∧ stabL (ltOf cfP) f d' s = T ∧ SWK encP 2 w blk 0 d' wr) (fun vs _ _ _ => z - (intOf vs).toNat)
      case atStart => exact ⟨20, z, I, rfl, by omega, by omega, by omega, HS2.out, HT.out, S3.out⟩
      case round =>
        clear S3 HS2 HT
        obtain ⟨s, f, d', rfl, hs0, hsm, hf, hd', hst, hS⟩ := hrel
        have S1 := Lib.hid hS; clear hS
        have HD := Lib.hid hd'; clear hd'
        have HN := Lib.hid hst; clear hst
        by_cases hlt : s < z
        · obtain ⟨f', rfl⟩ : ∃ f', f = f' + 1 := ⟨f - 1, by omega⟩
          obtain ⟨M, hM⟩ : ∃ M, mrg (ltOf cfP) s z d' 0 = M := ⟨_, rfl⟩
          have HM := Lib.hid hM
          have HN2 : Hid (stabL (ltOf cfP) f' M (2 * s) = T) := Lib.hid (by rw [← HN.out, stabL, if_pos (by rw [HD.out]; exact hlt), HD.out, hM])
          clear hM HN
          obtain ⟨t, ht⟩ : ∃ t, 2 * s = t := ⟨_, rfl⟩
          rw [ht] at HN2
          have wt : (2 : Int) * s = t := by omega
          have wt2 : (s : Int) * 2 = t := by omega
          have HTT := Lib.hid ht; 
          go_wp2_with fail
          go_loopw [7, 8] (fun va vb wr => ∃ (a f : Nat) (d' : Array Pk), va = .int .i64 a ∧ vb = .int .i64 (a + t : Nat) ∧ a ≤ z ∧ z - a ≤ f ∧ d'.size = z ∧ mrg (ltOf cfP) s f d' a = M ∧ SWK encP 2 w blk 0 d' wr) (fun va _ _ => z - (intOf va).toNat)
          case atStart => exact ⟨0, z, d', rfl, by go_num, by omega, by omega, HD.out, HM.out, S1.out⟩
          case round =>
            clear S1 HD HM
            obtain ⟨a, f2, d2, rfl, rfl, haz, hf2, hd2, hmg, hS⟩ := hrel
            have S1 := Lib.hid hS; clear hS
            have HD := Lib.hid hd2; clear hd2
            have HM := Lib.hid hmg; clear hmg
            obtain ⟨b, hb⟩ : ∃ b, a + t = b := ⟨_, rfl⟩
            obtain ⟨m, hm⟩ : ∃ m, a + s = m := ⟨_, rfl⟩
            have wm : (a : Int) + s = m := by omega
            rw [hb]
            by_cases hbz : b ≤ z
            · obtain ⟨f3, rfl⟩ : ∃ f3, f2 = f3 + 1 := ⟨f2 - 1, by omega⟩
              have C1 := Lib.hid (CS.out t d2 wr a m b HD.out S1.out (by omega) (by omega) (by omega) (by omega))
              have HM2 : Hid (mrg (ltOf cfP) s f3 (symM (ltOf cfP) t d2 a m b) b = M) := Lib.hid (by
                rw [← HM.out, mrg, ht, hb, hm, if_pos (by rw [HD.out]; exact hbz)])
              obtain ⟨c, hc⟩ : ∃ c, b + t = c := ⟨_, rfl⟩
              have wc : (b : Int) + t = c := by omega
              have hcz : (c : Int) < 4000000 := by omega
              go_wp2_with (go_at_call 124; refine C1.out.mono ?_; rintro e w1 ⟨rfl, hS1⟩; have S3 := Lib.hid hS1; clear hS1)
              go_roundw
              case rel => exact ⟨b, f3, _, rfl, by rw [hc], hbz, by omega, by rw [symM_size, HD.out], HM2.out, S3.out⟩
              case measure => simp [intOf]; omega
            · by_cases hmz : m < z
              · have C1 := Lib.hid (CS.out (z - a) d2 wr a m z HD.out S1.out (by omega) (by omega) (by omega) (by omega))
                have HM2 : Hid (symM (ltOf cfP) (z - a) d2 a m z = M) := Lib.hid (by
                  obtain ⟨f3, rfl⟩ : ∃ f3, f2 = f3 + 1 := ⟨f2 - 1, by omega⟩
                  rw [← HM.out, mrg, ht, hb, hm, if_neg (by rw [HD.out]; exact hbz), if_pos (by rw [HD.out]; exact hmz), HD.out])
                go_wp2_with (go_at_call 124; refine C1.out.mono ?_; rintro e w1 ⟨rfl, hS1⟩; have S3 := Lib.hid hS1; clear hS1)
                go_roundw
                case rel => exact ⟨t, f', M, by go_num, by omega, by omega, by omega, by rw [← HM2.out, symM_size, HD.out], HN2.out, by rw [← HM2.out]; exact S3.out⟩
                case measure => simp [intOf]; omega
              · have HM2 : Hid (d2 = M) := Lib.hid (by
                  rw [← HM.out]
                  cases f2 with
                  | zero => rfl
                  | succ f3 => rw [mrg, ht, hb, hm, if_neg (by rw [HD.out]; exact hbz), if_neg (by rw [HD.out]; exact hmz)])
                go_wp2_with fail
                go_roundw
                case rel => exact ⟨t, f', M, by go_num, by omega, by omega, by omega, by rw [← HM2.out, HD.out], HN2.out, by rw [← HM2.out]; exact S1.out⟩
                case measure => simp [intOf]; omega
        · have HN2 : Hid (d' = T) := Lib.hid (by
            rw [← HN.out]
            cases f with
            | zero => rfl
            | succ f => rw [stabL, if_neg (by rw [HD.out]; exact hlt)])
          go_wp2_with fail
          go_end0
          exact ⟨rfl, by rw [← HN2.out]; exact S1.out⟩
end Go.Proofs.YtkjhefjjacokjaaGreat

namespace Go.Proofs.YtkjhefjjacokjaaGreat
open Go.Proofs Go.Shelf Go.RowKit Go.Sort Go.Lib
/-- Signs sorted by how often they come, the sort being f. -/
def sortB (lo : List Int) (ss : List Nat) : List Nat := if h : 0 < lo.length then (@stab (Fin lo.length) (inhF _ h) (ltOf (cfI lo lo.length)) (fins lo.length h ss)).toList.map (·.val) else ss
/-- Rows of up to 4096. -/
def bigSorter : Sorter 4096 where
  sI := sortB
  sP r := (stab (ltOf cfP) r.toArray).toList
  permI := by
    intro lo ss hs hN
    by_cases h : 0 < lo.length
    · unfold sortB
      rw [dif_pos h]
      letI := inhF lo.length h
      have hz : (fins lo.length h ss).size = ss.length := by simp [fins]
      have hh := stab_holds (swoI lo lo.length) (fins lo.length h ss)
      refine ⟨?_, ?_⟩
      · have := (perm_toList _ _ hh.1).map (·.val)
        rwa [fins_val _ _ _ hs] at this
      · have hsz := hh.1.1
        have := sorted_toList (fun x : Fin lo.length => lo.getD x.val 0) _ (by rw [hsz]; exact hh.2)
        rw [List.pairwise_map]
        exact this
    · unfold sortB
      rw [dif_neg h]
      have : ss = [] := by
        cases ss with
        | nil => rfl
        | cons a ss => exact absurd (hs a (by simp)) (by omega)
      subst this
      exact ⟨List.Perm.refl _, List.Pairwise.nil⟩
  permP := by
    intro r hN
    have hh := stab_holds swoP r.toArray
    have hz : r.toArray.size = r.length := by simp
    refine ⟨by have := perm_toList _ _ hh.1; simpa using this, ?_⟩
    have hsz := hh.1.1
    have := sorted_toList (fun x : Pk => (x.1 : Int)) _ (by rw [hsz]; exact hh.2)
    unfold SortedN costs
    rw [List.pairwise_map]
    exact this.imp (by intro a b h; exact Int.ofNat_le.1 h)
  callI := by
    intro lo n bx b o c hn base blk cap ss w hs hp hN hbx hc h1 h2 hown
    subst hn
    have h : 0 < lo.length := by
      cases ss with
      | nil => simp at hp
      | cons a ss => have := hs a (by simp); omega
    letI := inhF lo.length h
    have hz : (fins lo.length h ss).size = ss.length := by simp [fins]
    obtain ⟨_, _, hgw⟩ := own_whole hown (k := blk) rfl
    have hH : Holds (encF lo.length) w blk 0 (fins lo.length h ss) := by
      rw [← fins_enc lo.length h ss hs] at hown
      have hne : Value.slice (some ⟨blk, 0, none⟩) ss.length cap ≠ .slice none 0 0 := by simp
      obtain ⟨g, cap', e, _, _, _, _, _, hH⟩ := holds_of_ownsRow hown hne
      injection e with e1
      injection e1 with e1
      injection e1 with e1
      subst e1
      simpa using hH
    have R : Row1 (encF lo.length) w blk 0 (fins lo.length h ss) := ⟨fun _ => rfl, hH, hgw.lt⟩
    have eg : ∀ args w, (callFunc 107 args).run Tryz.prog w = .ok (.enter 107 args) w := enters_of Tryz.func107 (by kernel_rfl) rfl
    have hc2 := stabI lo.length (cfI lo lo.length) (swoI lo lo.length) 107 #[.pointer (some ⟨bx, 0, none⟩)] blk cap (fins lo.length h ss) w eg (cmpLaysI lo lo.length bx b o c rfl blk _ w hbx hc h1 h2) R (by omega)
    rw [hz] at hc2
    have HC := Lib.hid hc2
    have hO : ∀ w', SW (encF lo.length) w blk 0 (stab (ltOf (cfI lo lo.length)) (fins lo.length h ss)) w' → w'.ownsRow base 3 1 (.slice (some ⟨blk, 0, none⟩) ss.length cap) ss.length (sv' (((stab (ltOf (cfI lo lo.length)) (fins lo.length h ss)).toList.map (·.val)))) ∧ Only (fun k => k = blk) w w' := by
      rintro w' ⟨q, os, rfl⟩
      have hsz : (stab (ltOf (cfI lo lo.length)) (fins lo.length h ss)).size = ss.length := by
        rw [(stab_holds (swoI lo lo.length) (fins lo.length h ss)).1.1, hz]
      refine ⟨?_, onlyPut _ _ _ _ _ _ _⟩
      have := ownPut (encF lo.length) hown q (stab (ltOf (cfI lo lo.length)) (fins lo.length h ss)) (by rw [hsz]; omega) os
      have e : ((stab (ltOf (cfI lo lo.length)) (fins lo.length h ss)).toList.map (encF lo.length)) = sv' (((stab (ltOf (cfI lo lo.length)) (fins lo.length h ss)).toList.map (·.val))) := by
        simp [sv', encF, Function.comp_def]
      rw [e] at this
      exact this
    have e0 : sortB lo ss = (@stab (Fin lo.length) (inhF _ h) (ltOf (cfI lo lo.length)) (fins lo.length h ss)).toList.map (·.val) := by unfold sortB; rw [dif_pos h]
    rw [← e0] at hO
    clear e0
    have HO := Lib.hid hO
    clear hc2 hO R hH hown hc hbx eg
    go_enter Tryz.func106, Tryz.ntmps106
    go_wp2_with (go_at_call 114; refine HC.out.mono ?_; rintro e w1 ⟨rfl, hS⟩; have HS := Lib.hid hS; clear hS)
    go_end0
    exact ⟨rfl, HO.out _ HS.out⟩
  callP := by
    intro base blk cap r w hp hN hown
    obtain ⟨_, _, hgw⟩ := own_whole hown (k := blk) rfl
    have hH : HoldsK encP 2 w blk 0 r.toArray := by
      intro j hj
      rw [size_flatK] at hj
      rcases hown.2 with ⟨e0, _⟩ | ⟨g', cap', cur, e0, hb, hg, hn, hm, hs, ht⟩
      · cases e0
      · injection e0 with e1 _ e3
        injection e1 with e1
        injection e1 with e1
        subst e1; subst e3
        have hW : Whole w blk 151 cur := hg
        refine ⟨?_, hW.frozen _⟩
        have e4 := flat_encP r.toArray
        simp only at e4
        rw [← e4] at ht
        have hjr : j < r.length * 2 := by simpa using hj
        have hjc : j < cur.size := by have := Nat.mul_le_mul_right 2 hn; omega
        have h5 : (cur.toList.take (r.length * 2))[j]? = some cur[j] := by
          rw [List.getElem?_take_of_lt hjr, Array.getElem?_toList, Array.getElem?_eq_getElem hjc]
        rw [ht, Array.getElem?_toList, Array.getElem?_eq_getElem (by simpa using hjr)] at h5
        injection h5 with h5
        rw [Nat.zero_add, hW.cell j, Array.getElem?_eq_getElem hjc, ← h5, getElem!_pos _ j (by simpa using hjr)]
        rfl
    have R : RowK encP 2 w blk 0 r.toArray := ⟨fun _ => rfl, fun x v hv => by simp [encP] at hv; rcases hv with rfl | rfl <;> rfl, hH, hgw.lt⟩
    have hc2 := stabP blk cap r.toArray w R (by simp; omega)
    have hz : r.toArray.size = r.length := by simp
    rw [hz] at hc2
    have HC := Lib.hid hc2
    have hO : ∀ w', SWK encP 2 w blk 0 (stab (ltOf cfP) r.toArray) w' → w'.ownsRow base 151 2 (.slice (some ⟨blk, 0, none⟩) r.length cap) r.length ((stab (ltOf cfP) r.toArray).toList.flatMap encP) ∧ Only (fun k => k = blk) w w' := by
      rintro w' ⟨q, os, rfl⟩
      have hsz : (stab (ltOf cfP) r.toArray).size = r.length := by
        rw [(stab_holds swoP r.toArray).1.1, hz]
      refine ⟨?_, onlyPut _ _ _ _ _ _ _⟩
      have := ownPut id hown q (flatK encP 2 (stab (ltOf cfP) r.toArray)) (by rw [size_flatK, hsz]) os
      rw [List.map_id, flat_encP] at this
      exact this
    have HO := Lib.hid hO
    clear hc2 hO R hH hown
    go_enter Tryz.func117, Tryz.ntmps117
    go_wp2_with (go_at_call 121; refine HC.out.mono ?_; rintro e w1 ⟨rfl, hS⟩; have HS := Lib.hid hS; clear hS)
    go_end0
    exact ⟨rfl, HO.out _ HS.out⟩
end Go.Proofs.YtkjhefjjacokjaaGreat
