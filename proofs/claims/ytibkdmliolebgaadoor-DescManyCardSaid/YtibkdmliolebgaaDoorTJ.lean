/-
  The program's Params. Conditions: texts of at most ten thousand bytes.
-/
import Derived.Test.YtibkdmliolebgaaDoorTI
namespace Go.Proofs.YtibkdmliolebgaaDoor
open Go Go.RowKit
set_option maxRecDepth 100000

theorem pre_hd (l : List UInt8) (c : UInt8) : preM l c = if l = [] ∨ hdB l c = false then (l, false) else (l.drop 1, true) := by
  cases l with
  | nil => simp [preM]
  | cons a t =>
    by_cases h : a = c
    · rw [preM_yes t h, if_neg (by simp [hdB, h])]; rfl
    · rw [preM_no t h, if_pos (.inr (by simp [hdB, h]))]

set_option maxHeartbeats 16000000 in
theorem pparams_any (l : List UInt8) (hs : l.length ≤ 10000) (w : World) : Calls Tryd.prog 21 #[.string (tx l)] w (GivesPar w (paramsM l)) := by
  obtain ⟨i0, hi0, hz0, hz1, hz2⟩ := info_parts str_info
  have CP := Lib.hid (fun W => pre_any l 40 W)
  rw [show tx [40] = ⟨#[40]⟩ from rfl, pre_hd] at CP
  obtain ⟨R, hR⟩ : ∃ r, paramsM l = r := ⟨_, rfl⟩
  rw [hR]
  unfold paramsM at hR
  by_cases h0 : l = [] ∨ hdB l 40 = false
  · rw [if_pos h0] at hR CP
    subst hR
    clear h0
    generalize tx l = s at *
    go_enter Tryd.func21, Tryd.ntmps21
    go_wp2_with (go_at_call 33; refine (CP.out _).mono ?_; rintro e w1 ⟨rfl, rfl⟩)
    go_ret3
    exact ⟨rfl, Below.refl _ _⟩
  rw [if_neg h0] at hR CP
  obtain ⟨r0, hr0⟩ : ∃ r, l.drop 1 = r := ⟨_, rfl⟩
  have hr0l : r0.length ≤ 10000 := by rw [← hr0, List.length_drop]; omega
  rw [hr0] at hR CP
  have HR := Lib.hid hR
  clear hR hr0 h0
  have CC := Lib.hid (fun W => cutter_any (tx r0) W)
  generalize tx l = s at *
  go_enter Tryd.func21, Tryd.ntmps21
  go_wp2_with (first | (go_at_call 33; refine (CP.out _).mono ?_; rintro e w1 ⟨rfl, rfl⟩) | (go_at_call 34; refine (CC.out _).mono ?_; rintro e w1 ⟨b, rfl, k1, k2, k3⟩; have K1 := Lib.hid (And.intro k1 (And.intro k2 k3)); have C4 := Lib.hid (cut1_any r0 (by omega) b w1 k1); clear k1 k2 k3) | (go_at_call 45; refine C4.out.mono ?_; rintro e w2 ⟨rfl, g1, g2⟩))
  have HK : Hid (Whole w2 b 9 #[.string (tx (r0.drop (fsM r0)))] ∧ w.heap.size ≤ b ∧ Below w.heap.size w w2 ∧ b < w1.heap.size ∧ w1.heap.size ≤ w2.heap.size) := Lib.hid (by
    obtain ⟨k1, k2, k3⟩ := K1.out
    exact ⟨g1, k2, k3.trans (g2.below k3.size (by rintro k rfl; exact k2)), k1.lt, g2.size⟩)
  have hw01 : w.heap.size ≤ w1.heap.size := K1.out.2.2.size
  clear g1 g2 C4
  go_loopg [7, 9, 10] r0.length (fun j v7 v9 v10 wr => ∃ (r : List UInt8) (out : List (List UInt8)), j = r.length ∧ v9 = .string (tx (r.take (fsM r))) ∧ v10 = .string (tx (r.drop (fsM r))) ∧ r.length + out.length ≤ r0.length ∧ Below w.heap.size w wr ∧ w1.heap.size ≤ wr.heap.size ∧ Whole wr b 9 #[.string (tx (r.drop (fsM r)))] ∧ wr.ownsRow w1.heap.size 9 1 v7 out.length (tv out) ∧ parR [] r0 = parR out r)
  case atStart => exact ⟨r0, [], rfl, rfl, rfl, by simp, HK.out.2.2.1, HK.out.2.2.2.2, HK.out.1, World.ownsRow_nil _ _ _ _, rfl⟩
  case round =>
    obtain ⟨r, out, rfl, rfl, rfl, hro, hbl, hsz, hwb, ho, hpr⟩ := hrel
    obtain ⟨wo, rfl⟩ : ∃ W, W = wr := ⟨_, rfl⟩
    obtain ⟨A4, c4, rfl, _⟩ := own_form ho
    obtain ⟨P, hP⟩ : ∃ P, out.length = P := ⟨_, rfl⟩
    obtain ⟨m, hm⟩ : ∃ m, r.length = m := ⟨_, rfl⟩
    rw [hP] at ho hro ⊢
    rw [hm] at hro
    have HB := Lib.hid (And.intro hbl (And.intro hsz hwb))
    have HO := Lib.hid ho
    have HPR := Lib.hid hpr
    have HP := Lib.hid (And.intro hP hm)
    have hle := fs_le r
    rw [hm] at hle
    obtain ⟨n, hn⟩ : ∃ n, fsM r = n := ⟨_, rfl⟩
    rw [hn] at HB hle ⊢
    have HN := Lib.hid hn
    clear hbl hsz hwb ho hpr hP hm hn
    by_cases hn0 : n = 0
    · have e1 : (tx (r.take n)).toList.isEmpty = true := by rw [tl_empty, hn0]; rfl
      have e2 : r.drop n = r := by rw [hn0]; rfl
      rw [e2] at HB ⊢
      have CQ := Lib.hid (fun W => pre_any r 41 W)
      rw [show tx [41] = ⟨#[41]⟩ from rfl, pre_hd] at CQ
      have hend := par_end (out := out) (r := r) (by rw [HN.out, hn0])
      clear hn0 e2
      by_cases hr0 : r = [] ∨ hdB r 41 = false
      · rw [if_pos hr0] at CQ
        have hRR : R = none := by
          rw [← HR.out, HPR.out, hend]
          rcases hr0 with h | h
          · rw [if_pos (.inl h)]; simp [h]
          · by_cases h2 : r = []
            · rw [if_pos (.inl h2)]; simp [h2]
            · rw [if_neg (by rintro (h3 | h3); exact h2 h3; rw [h] at h3; cases h3)]
        subst hRR
        clear hend hr0
        generalize tx (r.take n) = s1 at *
        generalize tx r = s2 at *
        go_wp2_with (go_at_call 33; refine (CQ.out _).mono ?_; rintro e w3 ⟨rfl, rfl⟩)
        go_ret3
        exact ⟨rfl, HB.out.1⟩
      · rw [if_neg hr0] at CQ
        have h1 : r ≠ [] := fun h => hr0 (.inl h)
        have h2 : hdB r 41 = true := by rw [← Bool.not_eq_false]; exact fun h => hr0 (.inr h)
        rw [if_pos (.inr h2)] at hend
        obtain ⟨s, hs2⟩ : ∃ s, r.drop 1 = s := ⟨_, rfl⟩
        have hsl : s.length ≤ 10000 := by rw [← hs2, List.length_drop]; have := HP.out.2; omega
        have hRR : R = if s ≠ [86] ∧ fieldM s = false then none else some (out, s) := by
          rw [← HR.out, HPR.out, hend]
          show (if r = [] ∨ (r.drop 1 ≠ [86] ∧ fieldM (r.drop 1) = false) then none else some (out, r.drop 1)) = _
          rw [hs2]
          by_cases h3 : s ≠ [86] ∧ fieldM s = false
          · rw [if_pos (.inr h3), if_pos h3]
          · rw [if_neg (by rintro (h4 | h4); exact h1 h4; exact h3 h4), if_neg h3]
        rw [hs2] at CQ
        have g1 := tl_lit s [86]
        have C1 := Lib.hid (fun W => pfield_any s (by omega) W)
        obtain ⟨q, hq⟩ : ∃ b, fieldM s = b := ⟨_, rfl⟩
        rw [hq] at C1 hRR
        have HH := Lib.hid (And.intro h1 (And.intro h2 (And.intro hs2 hq)))
        clear h1 h2 hs2 hq hend hr0
        by_cases h86 : s = [86]
        · rw [decide_eq_true h86] at g1
          rw [if_neg (by rintro ⟨h, _⟩; exact h h86)] at hRR
          subst hRR
          clear h86
          go_wp2_with (go_at_call 33; refine (CQ.out _).mono ?_; rintro e w3 ⟨rfl, rfl⟩)
          go_ret3
          exact ⟨_, rfl, HB.out.1, by rw [HP.out.1]; exact own_base HO.out hw01⟩
        · rw [decide_eq_false h86] at g1
          cases q with
          | false =>
            rw [if_pos ⟨h86, rfl⟩] at hRR
            subst hRR
            clear h86
            go_wp2_with (first | (go_at_call 33; refine (CQ.out _).mono ?_; rintro e w3 ⟨rfl, rfl⟩) | (go_at_call 15; refine (C1.out _).mono ?_; rintro e w3 ⟨rfl, b3⟩))
            go_ret3
            exact ⟨rfl, HB.out.1.trans (b3.mono HB.out.1.size)⟩
          | true =>
            rw [if_neg (by rintro ⟨_, h⟩; cases h)] at hRR
            subst hRR
            clear h86
            go_wp2_with (first | (go_at_call 33; refine (CQ.out _).mono ?_; rintro e w3 ⟨rfl, rfl⟩) | (go_at_call 15; refine (C1.out _).mono ?_; rintro e w3 ⟨rfl, b3⟩))
            go_ret3
            exact ⟨_, rfl, HB.out.1.trans (b3.mono HB.out.1.size), by rw [HP.out.1]; exact own_base (own_only HO.out (Only.of_below b3 Nob) (fun _ _ h => h)) hw01⟩
    · have hnx := par_go (out := out) HN.out (by omega)
      obtain ⟨s, hs3⟩ : ∃ s, r.take n = s := ⟨_, rfl⟩
      obtain ⟨r2, hs4⟩ : ∃ s, r.drop n = s := ⟨_, rfl⟩
      have hsl : s.length = n := by rw [← hs3, List.length_take]; have := HP.out.2; omega
      have h2l : r2.length = m - n := by rw [← hs4, List.length_drop, HP.out.2]
      rw [hs3, hs4] at hnx
      rw [hs4] at HB
      rw [hs3, hs4]
      have e1 : (tx s).toList.isEmpty = false := by rw [tl_empty, decide_eq_false_iff_not]; intro h; rw [h] at hsl; simp at hsl; omega
      have hbk : b < w1.heap.size := HK.out.2.2.2.1
      have q1 : P + 1 ≤ maxLen := by simp [maxLen]; omega
      have q2 : (P + 1) * 16 ≤ 140737488355328 := by omega
      have HO2 := Lib.hid (own_only HO.out ((Only.refl Nob wo).alloc (.cells #[.string (tx s)] 9)) (fun _ _ h => h))
      have HS := Lib.hid (seen_new wo 9 (tv [s]) 1 rfl #[.string (tx s)] rfl)
      have q3 : w1.heap.size ≤ (wo.alloc (.cells #[.string (tx s)] 9)).heap.size := by rw [World.size_alloc]; have := HB.out.2.1; omega
      have q4 : w.heap.size ≤ (wo.alloc (.cells #[.string (tx s)] 9)).heap.size := by omega
      have HNX := Lib.hid (And.intro hnx (And.intro hs3 (And.intro hs4 (And.intro hsl h2l))))
      have hr2 : r2.length ≤ 100000 := by have := HP.out.2; omega
      have hnm : n ≤ m ∧ 0 < n := by omega
      clear hnx hs3 hs4 hsl hn0 h2l
      go_wp2_with (first | (at_builtin; refine wpList_append_seen _ rfl (.tmp 29) (.tmp 31) _ rfl w1.heap.size 9 i0 _ 1 16 Tryd.underlying25 hi0 hz0 hz1 hz2 rfl (by omega) (.slice A4 P c4) P (tv out) rfl HO2.out (wo.heap.size + 1) (some ⟨wo.heap.size, 0, none⟩) 1 1 (tv [s]) rfl HS.out (tv_one _) q1 q2 q3 ?_; intro v2 w3 ho2 hg2 hv2; have hwb3 := (HB.out.2.2.alloc (.cells #[.string (tx s)] 9)).grown hg2 (fun h => by have := (own_whole HO.out h.symm).1; omega); have C5 := Lib.hid (cut1_any r2 hr2 b w3 hwb3); have HG := Lib.hid (And.intro ho2 hg2); clear ho2 hg2 hwb3) | (go_at_call 45; refine C5.out.mono ?_; rintro e w4 ⟨rfl, g1, g2⟩))
      obtain ⟨ho2, hg2⟩ := HG.out
      obtain ⟨hnx, hs3, hs4, hsl, h2l⟩ := HNX.out
      have B3 : Below w.heap.size w w3 := (HB.out.1.alloc HB.out.1.size (.cells #[.string (tx s)] 9)).grown hg2 q4 (fun j hj => by have := (own_whole HO.out hj).1; omega)
      have hsz3 : w1.heap.size ≤ w3.heap.size := Nat.le_trans q3 hg2.size
      go_roundg r2.length
      case measure => have h9 := HP.out.2; omega
      case rel => exact ⟨r2, out ++ [s], rfl, rfl, rfl, (by rw [List.length_append, HP.out.1]; simp; omega), B3.trans (g2.below B3.size (by rintro k rfl; exact HK.out.2.1)), Nat.le_trans hsz3 g2.size, g1, (by rw [List.length_append, HP.out.1, tv_app]; exact own_only ho2 g2 (fun k hk h => by have := (own_whole ho2 hk).1; omega)), HPR.out.trans hnx⟩
end Go.Proofs.YtibkdmliolebgaaDoor
