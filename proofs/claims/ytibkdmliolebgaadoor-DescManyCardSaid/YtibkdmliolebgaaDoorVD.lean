/-
  The document's Params and Rooms. Conditions: texts of at most ten thousand bytes.
-/
import Derived.Test.YtibkdmliolebgaaDoorVC
namespace Go.Proofs.YtibkdmliolebgaaDoor
open Go Go.RowKit
set_option maxRecDepth 100000

/-- The shortest beginning that is a descriptor. -/
def sh (r : List UInt8) : Option Nat := ((List.range r.length).find? fun k => fieldM (r.take (k + 1))).map (· + 1)
theorem sh_some {r : List UInt8} {n : Nat} (h1 : 1 ≤ n) (h2 : n ≤ r.length) (hf : fieldM (r.take n) = true) (hal : ∀ d, 1 ≤ d → d < n → fieldM (r.take d) = false) : sh r = some n := by
  unfold sh
  have : (List.range r.length).find? (fun k => fieldM (r.take (k + 1))) = some (n - 1) := by
    rw [List.find?_range_eq_some]
    refine ⟨by rw [show n - 1 + 1 = n by omega]; exact hf, List.mem_range.2 (by omega), fun j hj => ?_⟩
    rw [hal (j + 1) (by omega) (by omega)]; rfl
  rw [this]
  simp; omega
theorem sh_none {r : List UInt8} (hal : ∀ d, 1 ≤ d → d ≤ r.length → fieldM (r.take d) = false) : sh r = none := by
  unfold sh
  have : (List.range r.length).find? (fun k => fieldM (r.take (k + 1))) = none := by
    rw [List.find?_eq_none]
    intro k hk
    rw [hal (k + 1) (by omega) (by have := List.mem_range.1 hk; omega)]; simp
  rw [this]; rfl
/-- Parameters of a rest, behind others. -/
def parR (out : List (List UInt8)) (rest : List UInt8) : Option (List (List UInt8) × List UInt8) :=
  match rest with
  | [] => some (out, [])
  | c :: r => if c = 41 then some (out, c :: r) else
    match sh (c :: r) with
    | none => none
    | some n => parR (out ++ [(c :: r).take n]) (r.drop (n - 1))
termination_by rest.length
decreasing_by simp; omega
def paramsM (l : List UInt8) : Option (List (List UInt8) × List UInt8) :=
  if l = [] ∨ hdB l 40 = false then none else
  match parR [] (l.drop 1) with
  | none => none
  | some (out, rest) => if rest = [] ∨ (rest.drop 1 ≠ [86] ∧ fieldM (rest.drop 1) = false) then none else some (out, rest.drop 1)
def tv (l : List (List UInt8)) : List Value := l.map fun x => Value.string (tx x)
theorem tv_app (a b : List (List UInt8)) : tv (a ++ b) = tv a ++ tv b := by simp [tv]
theorem tv_one (l : List (List UInt8)) : ∀ u ∈ tv l, u.oneCell' = true := by
  intro u hu
  obtain ⟨_, _, rfl⟩ := List.mem_map.1 hu
  rfl
theorem tv_at (l : List (List UInt8)) (k : Nat) (h : k < l.length) : (tv l)[k]? = some (.string (tx l[k])) := by simp [tv, h]
theorem str_info : (Tryd.prog.info? 9).map (fun i => (i.zero, i.size, i.bytes)) = some (some (.string ⟨#[]⟩), 1, 16) := by kernel_rfl
theorem parR_stop {out : List (List UInt8)} {r : List UInt8} (h : r = [] ∨ hdB r 41 = true) : parR out r = some (out, r) := by
  cases r with
  | nil => rw [parR]
  | cons c r =>
    rcases h with h | h
    · cases h
    · rw [parR, if_pos (by simpa [hdB] using h)]
theorem parR_step {out : List (List UInt8)} {r : List UInt8} (h0 : r ≠ []) (h : hdB r 41 = false) : parR out r = match sh r with
    | none => none
    | some n => parR (out ++ [r.take n]) (r.drop n) := by
  cases r with
  | nil => exact absurd rfl h0
  | cons c r =>
    have hc : ¬ c = 41 := by simpa [hdB] using h
    rw [parR, if_neg hc]
    cases hs : sh (c :: r) with
    | none => rfl
    | some n =>
      have hn : 1 ≤ n := by
        unfold sh at hs
        cases hf : (List.range (c :: r).length).find? (fun k => fieldM ((c :: r).take (k + 1))) with
        | none => rw [hf] at hs; cases hs
        | some k => rw [hf] at hs; simp at hs; omega
      have e : r.drop (n - 1) = (c :: r).drop n := by
        rw [show n = (n - 1) + 1 by omega, List.drop_succ_cons, Nat.add_sub_cancel]
      simp only [e]
def GivesPar (w : World) (r : Option (List (List UInt8) × List UInt8)) (e : Ending) (w' : World) : Prop :=
  match r with
  | none => e = .returned (.tuple #[.slice none 0 0, .string ⟨#[]⟩, .bool false]) ∧ Below w.heap.size w w'
  | some (out, x) => ∃ v, e = .returned (.tuple #[v, .string (tx x), .bool true]) ∧ Below w.heap.size w w' ∧ w'.ownsRow w.heap.size 9 1 v out.length (tv out)

set_option maxHeartbeats 16000000 in
theorem params_any (l : List UInt8) (hs : l.length ≤ 10000) (w : World) : Calls Tryd.prog 22 #[.string (tx l)] w (GivesPar w (paramsM l)) := by
  obtain ⟨i0, hi0, hz0, hz1, hz2⟩ := info_parts str_info
  have he := tl_empty l
  obtain ⟨n, hn⟩ : ∃ n, l.length = n := ⟨_, rfl⟩
  have hts : (tx l).size = n := by rw [tx_size, hn]
  obtain ⟨R, hR⟩ : ∃ r, paramsM l = r := ⟨_, rfl⟩
  rw [hR]
  unfold paramsM at hR
  rw [hn] at hs
  by_cases h0 : l = []
  · rw [if_pos (.inl h0)] at hR
    subst hR
    rw [decide_eq_true h0] at he
    have H0 := Lib.hid h0
    clear h0 hn
    go_enter Tryd.func22, Tryd.ntmps22
    go_wp2_with fail
    go_ret3
    exact ⟨rfl, Below.refl _ _⟩
  rw [decide_eq_false h0] at he
  have hl0 : 0 < l.length := List.length_pos_iff.2 h0
  have e0 : 0 < (tx l).size := by rw [hts]; omega
  have hn0 : (0 : Int) < (n : Int) := by omega
  have hn1 : 0 < n := by omega
  obtain ⟨x, hx⟩ : ∃ x, l[0].toNat = x := ⟨_, rfl⟩
  have hxt : ((tx l)[0]'e0).toNat = x := by rw [tx_at]; exact hx
  obtain ⟨p, hp⟩ : ∃ p, hdB l 40 = p := ⟨_, rfl⟩
  have k1 : ((x : Int) == 40) = p := by rw [← hp, hd_at hl0, ← hx]; exact nB _ 40 40 rfl
  have k2 : ((x : Int) != 40) = !p := by rw [bne, k1]
  rw [hp] at hR
  cases p with
  | false =>
    rw [if_pos (.inr rfl)] at hR
    subst hR
    have H0 := Lib.hid (And.intro h0 hl0)
    clear h0 hn hx hp hl0 k1
    go_enter Tryd.func22, Tryd.ntmps22
    go_wp2_with fail
    go_ret3
    exact ⟨rfl, Below.refl _ _⟩
  | true =>
  rw [if_neg (by rintro (h | h); exact h0 h; cases h)] at hR
  have hcut := tx_cut l 1 n
  rw [List.take_of_length_le (by omega)] at hcut
  obtain ⟨r0, hr0⟩ : ∃ r, l.drop 1 = r := ⟨_, rfl⟩
  have hr0l : r0.length ≤ 10000 := by rw [← hr0, List.length_drop]; omega
  rw [hr0] at hcut hR
  have HR := Lib.hid hR
  have HH := Lib.hid (And.intro h0 (And.intro hl0 hr0))
  have x1 : (1 : Int) ≤ (n : Int) := by omega
  clear h0 hn hx hp hl0 k1 hR hr0
  go_enter Tryd.func22, Tryd.ntmps22
  go_wp2_with fail
  go_loopg [5, 6] r0.length (fun j v5 v6 wr => ∃ (r : List UInt8) (out : List (List UInt8)), j = r.length ∧ v5 = .string (tx r) ∧ r.length + out.length ≤ r0.length ∧ Below w.heap.size w wr ∧ wr.ownsRow w.heap.size 9 1 v6 out.length (tv out) ∧ parR [] r0 = parR out r)
  case atStart => exact ⟨r0, [], rfl, rfl, by simp, Below.refl _ _, World.ownsRow_nil _ _ _ _, rfl⟩
  case round =>
    obtain ⟨r, out, rfl, rfl, hro, hbl, ho, hpr⟩ := hrel
    obtain ⟨wo, rfl⟩ : ∃ W, W = wr := ⟨_, rfl⟩
    obtain ⟨A4, c4, rfl, _⟩ := own_form ho
    obtain ⟨P, hP⟩ : ∃ P, out.length = P := ⟨_, rfl⟩
    obtain ⟨m, hm⟩ : ∃ m, r.length = m := ⟨_, rfl⟩
    rw [hP] at ho hro ⊢
    rw [hm] at hro
    have HB := Lib.hid hbl
    have HO := Lib.hid ho
    have HPR := Lib.hid hpr
    have HP := Lib.hid (And.intro hP hm)
    have hrs : (tx r).size = m := by rw [tx_size, hm]
    have hre := tl_empty r
    clear hbl ho hpr hP
    by_cases hr0 : r = []
    · rw [decide_eq_true hr0] at hre
      have hRR : R = none := by rw [← HR.out, HPR.out, parR_stop (.inl hr0), hr0]; rfl
      subst hRR
      have HH2 := Lib.hid (And.intro hr0 hm)
      clear hr0 hm
      go_wp2_with fail
      go_ret3
      exact ⟨rfl, HB.out⟩
    · rw [decide_eq_false hr0] at hre
      have hm0 : 0 < r.length := List.length_pos_iff.2 hr0
      have f0 : 0 < (tx r).size := by rw [hrs]; omega
      have hm1 : (0 : Int) < (m : Int) := by omega
      have hm2 : 0 < m := by omega
      obtain ⟨y, hy⟩ : ∃ x, r[0].toNat = x := ⟨_, rfl⟩
      have hyt : ((tx r)[0]'f0).toNat = y := by rw [tx_at]; exact hy
      obtain ⟨q, hq⟩ : ∃ p, hdB r 41 = p := ⟨_, rfl⟩
      have k3 : ((y : Int) != 41) = !q := by rw [bne, ← hq, hd_at hm0, ← hy]; congr 1; exact nB _ 41 41 rfl
      have j1 : (1 : Int) ≤ (m : Int) := by omega
      have hmb : m ≤ 10000 := by omega
      cases q with
      | true =>
        have hst : parR [] r0 = some (out, r) := by rw [HPR.out, parR_stop (.inr hq)]
        have hRR : R = if r = [] ∨ (r.drop 1 ≠ [86] ∧ fieldM (r.drop 1) = false) then none else some (out, r.drop 1) := by rw [← HR.out, hst]
        have hc2 := tx_cut r 1 m
        rw [List.take_of_length_le (by omega)] at hc2
        obtain ⟨s, hs2⟩ : ∃ s, r.drop 1 = s := ⟨_, rfl⟩
        have hsl : s.length ≤ 10000 := by rw [← hs2, List.length_drop]; omega
        rw [hs2] at hc2 hRR
        have g1 := tl_lit s [86]
        have C1 := Lib.hid (fun W => field_any s (by omega) W)
        obtain ⟨b, hb⟩ : ∃ b, fieldM s = b := ⟨_, rfl⟩
        rw [hb] at C1 hRR
        by_cases h86 : s = [86]
        · rw [decide_eq_true h86] at g1
          rw [if_neg (by rintro (h | h); exact hr0 h; exact h.1 h86)] at hRR
          subst hRR
          have HH2 := Lib.hid (And.intro hr0 (And.intro hm (And.intro h86 hm0)))
          clear hr0 hm hy hq hs2 hb h86 hst hm0
          go_wp2_with fail
          refine wp_region_still_lit (by kernel_rfl) (by kernel_rfl) ?_
          repeat still_step
          refine wpStill_nil ?_
          go_wp2_with fail
          go_ret3
          exact ⟨_, rfl, ⟨HB.out.os, HB.out.tape, HB.out.output, HB.out.size, HB.out.block⟩, by rw [HP.out.1]; exact own_only HO.out (Only.refl Nob wo).drew (fun _ _ h => h)⟩
        · rw [decide_eq_false h86] at g1
          cases b with
          | false =>
            rw [if_pos (.inr ⟨h86, rfl⟩)] at hRR
            subst hRR
            have HH2 := Lib.hid (And.intro hr0 (And.intro hm (And.intro h86 hm0)))
            clear hr0 hm hy hq hs2 hb h86 hst hm0
            go_wp2_with (go_at_call 16; refine (C1.out _).mono ?_; rintro e w1 ⟨rfl, b1⟩)
            go_ret3
            exact ⟨rfl, HB.out.trans (b1.mono HB.out.size)⟩
          | true =>
            rw [if_neg (by rintro (h | h); exact hr0 h; cases h.2)] at hRR
            subst hRR
            have HH2 := Lib.hid (And.intro hr0 (And.intro hm (And.intro h86 hm0)))
            clear hr0 hm hy hq hs2 hb h86 hst hm0
            go_wp2_with (go_at_call 16; refine (C1.out _).mono ?_; rintro e w1 ⟨rfl, b1⟩)
            refine wp_region_still_lit (by kernel_rfl) (by kernel_rfl) ?_
            repeat still_step
            refine wpStill_nil ?_
            go_wp2_with fail
            go_ret3
            have B1 : Below w.heap.size w w1 := HB.out.trans (b1.mono HB.out.size)
            exact ⟨_, rfl, ⟨B1.os, B1.tape, B1.output, B1.size, B1.block⟩, by rw [HP.out.1]; exact own_only (own_only HO.out (Only.of_below b1 Nob) (fun _ _ h => h)) (Only.refl Nob w1).drew (fun _ _ h => h)⟩
      | false =>
        have hst := parR_step (out := out) hr0 hq
        have HST := Lib.hid hst
        have HH2 := Lib.hid (And.intro hr0 (And.intro hm hm0))
        clear hr0 hm hy hq hst hm0
        go_wp2_with fail
        go_loopg [7] m (fun j v wr => ∃ k : Nat, 1 ≤ k ∧ k ≤ m + 1 ∧ j = m + 1 - k ∧ v = .int .i64 k ∧ Below wo.heap.size wo wr ∧ ∀ d, 1 ≤ d → d < k → fieldM (r.take d) = false)
        case atStart => exact ⟨1, Nat.le_refl _, by omega, by omega, rfl, Below.refl _ _, fun d h1 h2 => by omega⟩
        case round =>
          obtain ⟨k, hk1, hk2, rfl, rfl, hbk, hal⟩ := hrel
          obtain ⟨wi, rfl⟩ : ∃ W, W = wr := ⟨_, rfl⟩
          have HBK := Lib.hid hbk
          have HAL := Lib.hid hal
          clear hbk hal
          by_cases hkm : k ≤ m
          · have d0 : decide ((k : Int) ≤ (m : Int)) = true := by rw [decide_eq_true_iff]; omega
            have d1 : decide ((m : Int) < (k : Int)) = false := by rw [decide_eq_false_iff_not]; omega
            have hc3 := tx_cut r 0 k
            rw [List.drop_zero] at hc3
            have hc4 := tx_cut r k m
            rw [List.take_of_length_le (by have := HP.out.2; omega)] at hc4
            obtain ⟨s, hs3⟩ : ∃ s, r.take k = s := ⟨_, rfl⟩
            obtain ⟨s2, hs4⟩ : ∃ s, r.drop k = s := ⟨_, rfl⟩
            have hsl : s.length ≤ 10000 := by rw [← hs3, List.length_take]; have := Nat.min_le_left k r.length; omega
            have hs4l : s2.length = m - k := by rw [← hs4, List.length_drop, HP.out.2]
            rw [hs3] at hc3
            rw [hs4] at hc4
            have C1 := Lib.hid (fun W => field_any s (by omega) W)
            obtain ⟨b, hb⟩ : ∃ b, fieldM s = b := ⟨_, rfl⟩
            rw [hb] at C1
            have y1 : (0 : Int) ≤ (k : Int) := by omega
            have y2 : (k : Int) ≤ (m : Int) := by omega
            have HS3 := Lib.hid (And.intro hs3 (And.intro hs4 hb))
            have HS4 := Lib.hid hs4l
            clear hs3 hs4 hb hs4l
            cases b with
            | false =>
              have HNX : Hid (∀ d, 1 ≤ d → d < k + 1 → fieldM (r.take d) = false) := Lib.hid (fun d h1 h2 => by
                by_cases hde : d < k
                · exact HAL.out d h1 hde
                · obtain rfl : d = k := by omega
                  rw [HS3.out.1]; exact HS3.out.2.2)
              go_wp2_with (go_at_call 16; refine (C1.out _).mono ?_; rintro e w1 ⟨rfl, b1⟩)
              go_roundg (m + 1 - (k + 1))
              case measure => omega
              case rel => exact ⟨k + 1, by omega, by omega, rfl, by go_num, HBK.out.trans (b1.mono HBK.out.size), HNX.out⟩
            | true =>
              have hsh : sh r = some k := sh_some hk1 (by have := HP.out.2; omega) (by rw [HS3.out.1]; exact HS3.out.2.2) HAL.out
              have hnx : parR [] r0 = parR (out ++ [s]) s2 := by
                rw [HPR.out, HST.out, hsh]
                show parR (out ++ [r.take k]) (r.drop k) = _
                rw [HS3.out.1, HS3.out.2.1]
              have HNX := Lib.hid hnx
              have r1 : P + 1 ≤ maxLen := by simp [maxLen]; omega
              have r2 : (P + 1) * 16 ≤ 140737488355328 := by omega
              clear hsh hnx
              go_wp2_with (first | (go_at_call 16; refine (C1.out _).mono ?_; rintro e w1 ⟨rfl, b1⟩; have BB := Lib.hid (HBK.out.trans (b1.mono HBK.out.size)); have BC := Lib.hid (BB.out.alloc BB.out.size (.cells #[.string (tx s)] 9)); have HO2 := Lib.hid (own_only HO.out (Only.of_below BC.out Nob) (fun _ _ h => h)); have HS := Lib.hid (seen_new w1 9 (tv [s]) 1 rfl #[.string (tx s)] rfl); have r3 : w.heap.size ≤ (w1.alloc (.cells #[.string (tx s)] 9)).heap.size := (by rw [World.size_alloc]; have h1 := HB.out.size; have h2 := BB.out.size; omega)) | (at_builtin; refine wpList_append_seen _ rfl (.tmp 41) (.tmp 45) _ rfl w.heap.size 9 i0 _ 1 16 Tryd.underlying25 hi0 hz0 hz1 hz2 rfl (by omega) (.slice A4 P c4) P (tv out) rfl HO2.out (w1.heap.size + 1) (some ⟨w1.heap.size, 0, none⟩) 1 1 (tv [s]) rfl HS.out (tv_one _) r1 r2 r3 ?_; intro v2 w2 ho2 hg2 hv2))
              have B2 : Hid (Below w.heap.size w w2) := Lib.hid ((HB.out.trans (BC.out.mono HB.out.size)).grown hg2 r3 (fun j hj => (own_whole HO.out hj).1))
              go_roundg s2.length
              case measure => have h1 := HS4.out; have h2 := HP.out.2; omega
              case rel => exact ⟨s2, out ++ [s], rfl, rfl, (by have h1 := HS4.out; rw [List.length_append, HP.out.1]; simp; omega), B2.out, (by rw [List.length_append, HP.out.1, tv_app]; exact ho2), HNX.out⟩
          · obtain rfl : k = m + 1 := by omega
            have d0 : decide (((m + 1 : Nat) : Int) ≤ (m : Int)) = false := by rw [decide_eq_false_iff_not]; omega
            have d0b : decide ((m : Int) + 1 ≤ (m : Int)) = false := by rw [decide_eq_false_iff_not]; omega
            have d1 : decide ((m : Int) < ((m + 1 : Nat) : Int)) = true := by rw [decide_eq_true_iff]; omega
            have d1b : decide ((m : Int) < (m : Int) + 1) = true := by rw [decide_eq_true_iff]; omega
            have hsh : sh r = none := sh_none fun d h1 h2 => HAL.out d h1 (by have := HP.out.2; omega)
            have hRR : R = none := by rw [← HR.out, HPR.out, HST.out, hsh]
            subst hRR
            clear hsh
            go_wp2_with fail
            go_ret3
            exact ⟨rfl, HB.out.trans (HBK.out.mono HB.out.size)⟩
end Go.Proofs.YtibkdmliolebgaaDoor
