/-
  What more room does to the lengths that Best gives: mathematics, nothing of the dump. Conditions: as in Y6.
  The walk of LengthsLooser: it answers true, and changes nothing that was there. Conditions: the slice is read as told (Seen).
-/
import Derived.Test.YtijjcecboepiiaaY6
import Derived.Test.YtijjcecboepiiaaS12
import Derived.Test.YtijjcecboepiiaaF2
import Derived.Test.YtijjcecboepiiaaO1
namespace Go.Proofs.Ytijjcecboepiiaa
open Go.Proofs Go.Shelf Go.RowKit Go.Sort Go.Lib

section
variable {N : Nat} (S : Sorter N) (lo : List Int) (L : Nat) (hN : lo.length ≤ N) (hN2 : 2 * lo.length ≤ N) (hb : lo.any beyond = false) (hL1 : 1 ≤ L) (hL : L ≤ 15) (hx : come lo ≤ 2 ^ L)

include hN in
theorem best_dot : dot (zsOf S lo L (cm lo lo.length)) = costTo lo (bestF S lo L) lo.length := by
  unfold dot zsOf costTo sumTo
  rw [List.map_map]
  have := sum_filter (List.range lo.length) (fun i => decide (0 < lo.getD i 0)) (fun s => (lo.getD s 0).toNat * bestF S lo L s) (by
    intro s _ h
    rw [bestF_none S lo L s (by simp at h; simp; omega) hN]
    simp)
  exact this

include hN hN2 hb hL1 hL hx in
theorem best_wide (hm : 2 ≤ come lo) : wide (zsOf S lo L (cm lo lo.length)) = 32768 := by
  obtain ⟨_, _, _, c4, _⟩ := best_cut S lo L hN hN2 hb hL1 hL hx hm
  rw [← c4]
  exact zs_sum S lo L hN (fun z => 2 ^ (15 - z.2)) _ (fun i _ => rfl)

include hN hN2 hb hL1 hL hx in
theorem best_pcost (hm : 2 ≤ come lo) : costTo lo (bestF S lo L) lo.length = pcost ((rowAt S (wsOf lo (order S lo)) (L - 1)).take (2 * come lo - 2)) := by
  obtain ⟨_, _, _, _, c5⟩ := best_cut S lo L hN hN2 hb hL1 hL hx hm
  rw [← c5, ← best_dot S lo L hN]
  exact zs_sum S lo L hN (fun z => z.1 * z.2) _ (fun i _ => rfl)

include hN hN2 hb hL1 hx in
/-- More room never costs more. -/
theorem best_looser (hL : L + 1 ≤ 15) : costTo lo (bestF S lo (L + 1)) lo.length ≤ costTo lo (bestF S lo L) lo.length := by
  by_cases hm : 2 ≤ come lo
  · have ok := order_ok S lo hN
    have hwl : (wsOf lo (order S lo)).length = come lo := by simp [wsOf, ok.len]
    have hcl := come_le lo
    rw [best_pcost S lo (L + 1) hN hN2 hb (by omega) hL (by rw [Nat.pow_succ]; omega) hm, ← best_dot S lo L hN]
    have hR := tops_rows S (wsOf lo (order S lo)) (by rw [hwl]; omega) (ok.most hb) (L + 1 - 1)
    obtain ⟨rest, hr, hrl⟩ := tops_head S (wsOf lo (order S lo)) (L + 1 - 1)
    rw [hr] at hR
    have h1 := dot_least ok.sorted hR (by rw [hrl]; omega) (zsOf S lo L (cm lo lo.length)) (by
      have e : (zsOf S lo L (cm lo lo.length)).map (·.1) = wsOf lo (cm lo lo.length) := by simp [zsOf, wsOf, Function.comp_def]
      rw [e]; exact ok.perm.symm.map _) (fun z hz => by
        simp only [zsOf, List.mem_map] at hz
        obtain ⟨s, hs, rfl⟩ := hz
        have := (bestF_range S lo L hN hN2 hb hL1 (by omega) hx hm s (cm_mem lo _ s hs) (cm_pos lo _ s hs)).2
        rw [hrl]; simp only; omega) (best_wide S lo L hN hN2 hb hL1 (by omega) hx hm)
    rw [hwl] at h1
    exact h1
  · have e : csOf S lo (L + 1) = csOf S lo L := by
      unfold csOf
      by_cases h0 : come lo = 0
      · rw [if_pos h0, if_pos h0]
      · rw [if_neg h0, if_neg h0, if_pos (by omega), if_pos (by omega)]
    have e2 : bestF S lo (L + 1) = bestF S lo L := by funext s; unfold bestF; rw [e]
    rw [e2]
    exact Nat.le_refl _

include hN in
/-- What comes more often is not longer. -/
theorem bestF_falls (s t : Nat) (hs : s < lo.length) (ht : t < lo.length) (h0 : 0 < lo.getD t 0) (h : lo.getD t 0 < lo.getD s 0) : bestF S lo L s ≤ bestF S lo L t := by
  have ok := order_ok S lo hN
  have hp := S.permI lo (cm lo lo.length) (cm_mem lo lo.length) (by have := cm_len lo lo.length; omega)
  obtain ⟨i, hi, rfl⟩ := List.getElem_of_mem (ok.perm.mem_iff.2 (cm_all s hs (by omega)))
  obtain ⟨j, hj, rfl⟩ := List.getElem_of_mem (ok.perm.mem_iff.2 (cm_all t ht h0))
  rw [bestF_at S lo L hN i hi, bestF_at S lo L hN j hj]
  refine lenAt_falls _ (Nat.le_of_not_lt fun hlt => ?_)
  have := (List.pairwise_iff_getElem.1 hp.2) i j hi hj hlt
  simp only [order] at h
  omega
end
end Go.Proofs.Ytijjcecboepiiaa

namespace Go.Proofs.Ytijjcecboepiiaa
open Go.Proofs Go.Shelf Go.RowKit Go.Sort Go.Lib

theorem looser_far (A : Option Addr) (n c : Nat) (most : Int) (h1 : 300 < n) (w : World) : Calls Try.prog 6 #[.slice A n c, .int .i64 most] w (TrueBelow w) := by
  go_enter Try.func6, Try.ntmps6
  go_wp2_with (go_at_call 10; refine (fixed4_any _).mono ?_; rintro e w1 ⟨rfl, hb1⟩; have B1 := Lib.hid hb1; clear hb1)
  go_ret
  exact ⟨rfl, B1.out⟩
theorem looser_arg (A : Option Addr) (n c : Nat) (most : Int) (hn : n ≤ 300) (h : most < 1 ∨ 15 < most) (w : World) : Calls Try.prog 6 #[.slice A n c, .int .i64 most] w (TrueBelow w) := by
  have CR := Lib.hid (fun W => right_arg A n c most W h)
  clear h
  go_enter Try.func6, Try.ntmps6
  go_wp2_with (first
    | (go_at_call 10; refine (fixed4_any _).mono ?_; rintro e w1 ⟨rfl, hb1⟩; have B1 := Lib.hid hb1; clear hb1)
    | (go_at_call 14; refine (CR.out _).mono ?_; rintro e w2 ⟨rfl, rfl⟩))
  go_ret
  exact ⟨rfl, B1.out⟩
theorem looser_bad (A : Option Addr) (n c : Nat) (lo : List Int) (hn : lo.length = n) (h6 : n ≤ 300) (L : Nat) (hL1 : 1 ≤ L) (hL : L ≤ 15) (w : World) (hs : Seen w w.heap.size 1 A n c (iv lo)) (h : lo.any beyond = true ∨ 2 ^ L < come lo ∨ L = 15) : Calls Try.prog 6 #[.slice A n c, .int .i64 L] w (TrueBelow w) := by
  have HS := Lib.hid hs; clear hs
  have HN := Lib.hid hn; clear hn
  have hV : rightVal lo L = .tuple #[.int .i64 0, .int .i64 1] ∨ (∃ m : Nat, rightVal lo L = .tuple #[.int .i64 m, .int .i64 4]) ∨ ((∃ m : Nat, rightVal lo L = .tuple #[.int .i64 m, .int .i64 0]) ∧ L = 15) := by
    unfold rightVal
    by_cases h1 : lo.any beyond = true
    · exact .inl (if_pos h1)
    · rw [if_neg h1]
      by_cases h2 : 2 ^ L < come lo ∨ 512 < lo.length
      · exact .inr (.inl ⟨come lo, by rw [if_pos h2]; rfl⟩)
      · refine .inr (.inr ⟨⟨come lo, by rw [if_neg h2]; rfl⟩, ?_⟩)
        rcases h with h | h | h
        · exact absurd h h1
        · exact absurd (.inl h) h2
        · exact h
  clear h
  have CR : Hid (∀ W, Seen W w.heap.size 1 A n c (iv lo) → Calls Try.prog 14 #[.slice A n c, .int .i64 L] W fun e w' => e = .returned (rightVal lo L) ∧ W = w') := Lib.hid (fun W h => right_go A n c w.heap.size lo HN.out (by omega) L hL1 (by omega) W h)
  rcases hV with e | ⟨m, e⟩ | ⟨⟨m, e⟩, hL15⟩
  · rw [e] at CR
    clear e
    go_enter Try.func6, Try.ntmps6
    go_wp2_with (first
      | (go_at_call 10; refine (fixed4_any _).mono ?_; rintro e w1 ⟨rfl, hb1⟩; have B1 := Lib.hid hb1; clear hb1)
      | (go_at_call 14; refine (CR.out _ (HS.out.below B1.out)).mono ?_; rintro e w2 ⟨rfl, rfl⟩))
    go_ret
    exact ⟨rfl, B1.out⟩
  · rw [e] at CR
    clear e
    go_enter Try.func6, Try.ntmps6
    go_wp2_with (first
      | (go_at_call 10; refine (fixed4_any _).mono ?_; rintro e w1 ⟨rfl, hb1⟩; have B1 := Lib.hid hb1; clear hb1)
      | (go_at_call 14; refine (CR.out _ (HS.out.below B1.out)).mono ?_; rintro e w2 ⟨rfl, rfl⟩))
    go_ret
    exact ⟨rfl, B1.out⟩
  · rw [e] at CR
    clear e
    have d2 : (L : Int) = 15 := by omega
    rw [d2] at CR ⊢
    go_enter Try.func6, Try.ntmps6
    go_wp2_with (first
      | (go_at_call 10; refine (fixed4_any _).mono ?_; rintro e w1 ⟨rfl, hb1⟩; have B1 := Lib.hid hb1; clear hb1)
      | (go_at_call 14; refine (CR.out _ (HS.out.below B1.out)).mono ?_; rintro e w2 ⟨rfl, rfl⟩))
    go_ret
    exact ⟨rfl, B1.out⟩

set_option maxRecDepth 100000 in
set_option maxHeartbeats 2000000 in
theorem looser_good (A : Option Addr) (n c : Nat) (lo : List Int) (hn : lo.length = n) (h6 : n ≤ 300) (L : Nat) (hL1 : 1 ≤ L) (hL : L ≤ 14) (w : World) (hs : Seen w w.heap.size 1 A n c (iv lo)) (hb : lo.any beyond = false) (hx : come lo ≤ 2 ^ L) : Calls Try.prog 6 #[.slice A n c, .int .i64 L] w (TrueBelow w) := by
  have HBst : Hid (∀ W, Seen W w.heap.size 1 A n c (iv lo) → w.heap.size ≤ W.heap.size → Calls Try.prog 13 #[.slice A n c, .int .i64 L] W (BestOk bigSorter W lo L n)) := Lib.hid (fun W h1 h2 => best_ok bigSorter A n c w.heap.size lo hn (by omega) (by omega) (by omega) (by omega) L hL1 (by omega) hb hx W h1 h2)
  have HBst2 : Hid (∀ W, Seen W w.heap.size 1 A n c (iv lo) → w.heap.size ≤ W.heap.size → Calls Try.prog 13 #[.slice A n c, .int .i64 (L + 1 : Nat)] W (BestOk bigSorter W lo (L + 1) n)) := Lib.hid (fun W h1 h2 => best_ok bigSorter A n c w.heap.size lo hn (by omega) (by omega) (by omega) (by omega) (L + 1) (by omega) (by omega) hb (by rw [Nat.pow_succ]; omega) W h1 h2)
  have HLo : Hid (∀ x ∈ lo, 0 ≤ x ∧ x ≤ 16777216) := Lib.hid (by
    intro x hx
    rw [List.any_eq_false] at hb
    have := hb x hx
    simp [beyond] at this
    omega)
  have CR : Hid (∀ W, Seen W w.heap.size 1 A n c (iv lo) → Calls Try.prog 14 #[.slice A n c, .int .i64 L] W fun e w' => e = .returned (.tuple #[.int .i64 (come lo : Nat), .int .i64 0]) ∧ W = w') := Lib.hid (fun W h => by
    have h1 := right_go A n c w.heap.size lo hn (by omega) L hL1 (by omega) W h
    have e : rightVal lo L = .tuple #[.int .i64 (come lo : Nat), .int .i64 0] := by
      unfold rightVal
      rw [if_neg (by rw [hb]; simp), if_neg (by omega)]
      rfl
    rw [e] at h1
    exact h1)
  have HFl : Hid (∀ i, bestF bigSorter lo L i ≤ 16) := Lib.hid (fun i => bestF_le bigSorter lo L i (by omega) hL1)
  have HFl2 : Hid (∀ i, bestF bigSorter lo (L + 1) i ≤ 16) := Lib.hid (fun i => bestF_le bigSorter lo (L + 1) i (by omega) (by omega))
  have HFa : Hid (∀ s t, s < lo.length → t < lo.length → 0 < lo.getD t 0 → lo.getD t 0 < lo.getD s 0 → bestF bigSorter lo L s ≤ bestF bigSorter lo L t) := Lib.hid (fun s t => bestF_falls bigSorter lo L (by omega) s t)
  have HCo : Hid (costTo lo (bestF bigSorter lo (L + 1)) n ≤ costTo lo (bestF bigSorter lo L) n) := Lib.hid (by rw [← hn]; exact best_looser bigSorter lo L (by omega) (by omega) hb hL1 hx (by omega))
  have HS := Lib.hid hs; clear hs
  have HN := Lib.hid hn
  clear hb hn hx
  have d2 : ((L : Int) == 15) = false := by simp; omega
  have d3 : ¬ (L : Int) = 15 := by omega
  obtain ⟨f, hf⟩ : ∃ f, bestF bigSorter lo L = f := ⟨_, rfl⟩
  obtain ⟨f2, hf2⟩ : ∃ f, bestF bigSorter lo (L + 1) = f := ⟨_, rfl⟩
  have HF := Lib.hid hf
  have HF2 := Lib.hid hf2
  rw [hf] at HFl HFa HCo
  rw [hf2] at HFl2 HCo
  clear hf hf2
  obtain ⟨L2, hL2⟩ : ∃ L2, L + 1 = L2 := ⟨_, rfl⟩
  rw [hL2] at HBst2 HF2
  have wL : (L : Int) + 1 = L2 := by omega
  clear hL2
  go_enter Try.func6, Try.ntmps6
  go_wp2_with fail
  refine (fixed4_any _).mono ?_; rintro e w1 ⟨rfl, hb1⟩; have B1 := Lib.hid hb1; clear hb1
  go_wp2_with fail
  refine (CR.out _ (HS.out.below B1.out)).mono ?_; rintro e w2 ⟨rfl, rfl⟩
  go_wp2_with fail
  refine (HBst.out w1 (HS.out.below B1.out) B1.out.size).mono ?_
  rintro e w3 ⟨v3, rfl, ho3, hb3⟩
  rw [HF.out] at ho3
  obtain ⟨A3, c3, rfl, _, hs3⟩ := own_seen ho3
  have S3 := Lib.hid hs3
  have B3 := Lib.hid (B1.out.trans (hb3.mono B1.out.size))
  clear ho3 hs3 hb3
  go_wp2_with fail
  refine (HBst2.out w3 (HS.out.below B3.out) B3.out.size).mono ?_
  rintro e w4 ⟨v4, rfl, ho4, hb4⟩
  rw [HF2.out] at ho4
  obtain ⟨A4, c4, rfl, _, hs4⟩ := own_seen ho4
  have S4 := Lib.hid hs4
  have S34 := Lib.hid ((S3.out.below hb4).more hb4.size)
  have B4 := Lib.hid (B3.out.trans (hb4.mono B3.out.size))
  have SL := Lib.hid ((HS.out.below B4.out).more B4.out.size)
  clear ho4 hs4 hb4 S3 B1 B3
  go_wp2_with fail
  go_loopw [47, 11, 12] (fun i _ _ wr => ∃ (k q : Nat), k ≤ n ∧ i = .int .i64 k ∧ wr = w4.drewN q) (fun i _ _ _ => n - (intOf i).toNat)
  case atStart => exact ⟨0, 0, by omega, rfl, rfl⟩
  case round =>
    obtain ⟨k, q, hk, rfl, rfl⟩ := hrel
    by_cases hlt : k < n
    · have hkl : k < lo.length := by rw [HN.out]; exact hlt
      obtain ⟨b, o, rfl, hbB, hc⟩ := SL.out.int HN.out hlt
      obtain ⟨b1, o1, x1, rfl, _, q1, hc1⟩ := S34.out.at hlt
      have hu : x1 = .int .i64 (f k : Nat) := by
        unfold orow at q1
        rw [mr_get _ _ _ hlt] at q1
        injection q1 with q1; exact q1.symm
      subst hu
      have HC := Lib.hid (And.intro hc hc1)
      have hcq : (w4.drewN q).cell? ⟨b, o + k, none⟩ = some (.int .i64 lo[k]) := by simpa using hc
      obtain ⟨y, hy⟩ : ∃ y, lo[k] = y := ⟨_, rfl⟩
      have HY : Hid (lo.getD k 0 = y) := Lib.hid (by simp [List.getD, hkl, hy])
      rw [hy] at hcq HC
      clear hy q1 hc hc1
      go_wp2_with fail
      clear hcq
      go_loopw [54, 13, 14] (fun j _ _ wr => ∃ (t q : Nat), t ≤ n ∧ j = .int .i64 t ∧ wr = w4.drewN q) (fun j _ _ _ => n - (intOf j).toNat)
      case atStart => exact ⟨0, q, by omega, rfl, rfl⟩
      case round =>
        obtain ⟨t, q2, ht, rfl, rfl⟩ := hrel
        by_cases hlt2 : t < n
        · have htl : t < lo.length := by rw [HN.out]; exact hlt2
          obtain ⟨b', o', e', _, hd⟩ := SL.out.int HN.out hlt2
          obtain ⟨b1', o1', x1', e1', _, q1', hd1⟩ := S34.out.at hlt2
          injection e' with e'; injection e' with e2 e3; subst e2; subst e3
          injection e1' with e'; injection e' with e2 e3; subst e2; subst e3
          have hu : x1' = .int .i64 (f t : Nat) := by
            unfold orow at q1'
            rw [mr_get _ _ _ hlt2] at q1'
            injection q1' with q1'; exact q1'.symm
          subst hu
          have hdq : (w4.drewN q2).cell? ⟨b, o + t, none⟩ = some (.int .i64 lo[t]) := by simpa using hd
          have hdq1 : (w4.drewN q2).cell? ⟨b1, o1 + t, none⟩ = some (.int .i64 (f t : Nat)) := by simpa using hd1
          have hkq1 : (w4.drewN q2).cell? ⟨b1, o1 + k, none⟩ = some (.int .i64 (f k : Nat)) := by simpa using HC.out.2
          obtain ⟨z, hz⟩ : ∃ z, lo[t] = z := ⟨_, rfl⟩
          have HZ : Hid (lo.getD t 0 = z) := Lib.hid (by simp [List.getD, htl, hz])
          rw [hz] at hdq
          have hfa : 0 < z → z < y → f k ≤ f t := by
            have := HFa.out k t hkl htl
            rw [HZ.out, HY.out] at this
            exact this
          obtain ⟨fk, hfk⟩ : ∃ a, f k = a := ⟨_, rfl⟩
          obtain ⟨ft, hft⟩ : ∃ a, f t = a := ⟨_, rfl⟩
          rw [hfk] at hkq1 hfa
          rw [hft] at hdq1 hfa
          clear hfk hft hz hd hd1 q1'
          obtain ⟨wr, hwr⟩ : ∃ wr, w4.drewN q2 = wr := ⟨_, rfl⟩
          rw [hwr] at hdq hdq1 hkq1 ⊢
          have HW := Lib.hid hwr; clear hwr
          have t0 : (0 : Int) ≤ t := by omega
          have k0 : (0 : Int) ≤ k := by omega
          have tz : (t : Int) < n := by omega
          have kz : (k : Int) < n := by omega
          have out : ∀ m, ∃ q, wr.drewN m = w4.drewN q := fun m => ⟨q2 + m, by rw [← HW.out, World.drewN_drewN]⟩
          have HO := Lib.hid out; clear out
          by_cases g1 : z < y
          · by_cases g2 : 0 < z
            · have g3 : fk ≤ ft := hfa g2 g1
              have d1 : decide (z < y) = true := decide_eq_true g1
              have d4 : decide (0 < z) = true := decide_eq_true g2
              have d5 : decide ((ft : Int) < fk) = false := decide_eq_false (by omega)
              clear hfa
              go_wp2_with fail
              go_quiet (fail)
              go_wp2_with fail
              go_roundw
              case rel => obtain ⟨q3, hq3⟩ := HO.out nq; exact ⟨t + 1, q3, by omega, by go_num, hq3⟩
              case measure => simp [intOf]; omega
            · have d1 : decide (z < y) = true := decide_eq_true g1
              have d4 : decide (0 < z) = false := decide_eq_false g2
              clear hfa
              go_wp2_with fail
              go_quiet (fail)
              go_wp2_with fail
              go_roundw
              case rel => obtain ⟨q3, hq3⟩ := HO.out nq; exact ⟨t + 1, q3, by omega, by go_num, hq3⟩
              case measure => simp [intOf]; omega
          · have d1 : decide (z < y) = false := decide_eq_false g1
            clear hfa
            go_wp2_with fail
            go_quiet (fail)
            go_wp2_with fail
            go_roundw
            case rel => obtain ⟨q3, hq3⟩ := HO.out nq; exact ⟨t + 1, q3, by omega, by go_num, hq3⟩
            case measure => simp [intOf]; omega
        · obtain rfl : t = n := by omega
          go_wp2_with fail
          go_roundw
          case rel => exact ⟨k + 1, q2, by omega, by go_num, rfl⟩
          case measure => simp [intOf]; omega
    · obtain rfl : k = n := by omega
      have CCo := Lib.hid (fun W h1 h2 => cost_any A A3 k c c3 w4.heap.size lo f HN.out (by omega) HFl.out HLo.out W h1 h2)
      have CCo2 := Lib.hid (fun W h1 h2 => cost_any A A4 k c c4 w4.heap.size lo f2 HN.out (by omega) HFl2.out HLo.out W h1 h2)
      have SLq : Hid (∀ m, Seen (w4.drewN m) w4.heap.size 1 A k c (iv lo)) := Lib.hid (fun m => SL.out.below (by exact ⟨rfl, rfl, rfl, Nat.le_refl _, fun _ _ => rfl⟩))
      have S3q : Hid (∀ m, Seen (w4.drewN m) w4.heap.size 1 A3 k c3 (orow k f)) := Lib.hid (fun m => S34.out.below (by exact ⟨rfl, rfl, rfl, Nat.le_refl _, fun _ _ => rfl⟩))
      have S4q : Hid (∀ m, Seen (w4.drewN m) w4.heap.size 1 A4 k c4 (orow k f2)) := Lib.hid (fun m => S4.out.below (by exact ⟨rfl, rfl, rfl, Nat.le_refl _, fun _ _ => rfl⟩))
      have C1 := Lib.hid (fun m => CCo.out (w4.drewN m) (SLq.out m) (S3q.out m))
      have C2 := Lib.hid (fun m => CCo2.out (w4.drewN m) (SLq.out m) (S4q.out m))
      have hco := HCo.out
      obtain ⟨X, hX⟩ : ∃ X, costTo lo f k = X := ⟨_, rfl⟩
      obtain ⟨Y, hY⟩ : ∃ Y, costTo lo f2 k = Y := ⟨_, rfl⟩
      rw [hX] at hco C1
      rw [hY] at hco C2
      clear hX hY
      go_wp2_with fail
      refine (C2.out q).mono ?_
      rintro e w5 ⟨rfl, m5, rfl⟩
      rw [World.drewN_drewN]
      go_wp2_with fail
      refine (C1.out _).mono ?_
      rintro e w6 ⟨rfl, m6, rfl⟩
      go_wp2_with fail
      go_ret
      exact ⟨by simp, ⟨B4.out.os, B4.out.tape, B4.out.output, B4.out.size, B4.out.block⟩⟩

theorem looser_law (A : Option Addr) (n c : Nat) (_ : n ≤ 9223372036854775807) (most : Int) (_ : (Lit.int .i64 most).wf = true) (w : World) (hp : ∃ l : List Int, l.length = n ∧ (∀ y ∈ l, -9223372036854775808 ≤ y ∧ y < 9223372036854775808) ∧ Seen w w.heap.size 1 A n c (iv l)) :
    Calls Try.prog 6 #[.slice A n c, .int .i64 most] w fun e w' => e = .returned (.bool true) ∧ Below w.heap.size w w' := by
  obtain ⟨lo, h1, _, h2⟩ := hp
  by_cases hf : 300 < n
  · exact looser_far A n c most hf w
  by_cases ha : most < 1 ∨ 15 < most
  · exact looser_arg A n c most (by omega) ha w
  obtain ⟨L, rfl⟩ := Int.eq_ofNat_of_zero_le (show 0 ≤ most by omega)
  by_cases hb : lo.any beyond = true ∨ 2 ^ L < come lo ∨ L = 15
  · exact looser_bad A n c lo h1 (by omega) L (by omega) (by omega) w h2 hb
  · exact looser_good A n c lo h1 (by omega) L (by omega) (by omega) w h2 (by simpa using fun h => hb (.inl h)) (Nat.le_of_not_lt fun h => hb (.inr (.inl h)))
end Go.Proofs.Ytijjcecboepiiaa
