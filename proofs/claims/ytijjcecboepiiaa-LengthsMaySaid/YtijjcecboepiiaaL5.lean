/-
  The walk of LengthsMay: it answers true, and changes nothing that was there. Conditions: the slice is read as told (Seen).
-/
import Derived.Test.YtijjcecboepiiaaY6
import Derived.Test.YtijjcecboepiiaaS12
import Derived.Test.YtijjcecboepiiaaF2
import Derived.Test.YtijjcecboepiiaaO1
namespace Go.Proofs.Ytijjcecboepiiaa
open Go.Proofs Go.Shelf Go.RowKit Go.Sort Go.Lib

/-- Lengths by a function, as a list. -/
def lst (n : Nat) (f : Nat → Nat) : List Int := (List.range n).map fun i => (f i : Int)
theorem lst_length (n : Nat) (f : Nat → Nat) : (lst n f).length = n := by simp [lst]
theorem lst_succ (n : Nat) (f : Nat → Nat) : lst (n + 1) f = lst n f ++ [(f n : Int)] := by simp [lst, List.range_succ]
theorem iv_lst (n : Nat) (f : Nat → Nat) : iv (lst n f) = orow n f := by
  simp [iv, lst, orow, mr]
theorem words_lst (lo : List Int) (f : Nat → Nat) (n : Nat) (h : ∀ i, i < n → (f i = 0 ↔ ¬ 0 < lo.getD i 0)) : words (lst n f) = (cm lo n).length := by
  induction n with
  | zero => rfl
  | succ n ih =>
    rw [lst_succ, words_append, ih (fun i hi => h i (by omega)), cm_succ, List.length_append]
    have := h n (by omega)
    by_cases h0 : 0 < lo.getD n 0
    · have : ¬ f n = 0 := fun e => (this.1 e) h0
      rw [if_pos h0]
      simp [words, this]
    · have := this.2 h0
      rw [if_neg h0]
      simp [words, this]
theorem weight_lst (lo : List Int) (f : Nat → Nat) (n : Nat) (h : ∀ i, i < n → (f i = 0 ↔ ¬ 0 < lo.getD i 0)) : weight (lst n f) = ((cm lo n).map fun s => 2 ^ (15 - f s)).sum := by
  induction n with
  | zero => rfl
  | succ n ih =>
    rw [lst_succ, weight_append, ih (fun i hi => h i (by omega)), cm_succ, List.map_append, List.sum_append]
    congr 1
    have := h n (by omega)
    by_cases h0 : 0 < lo.getD n 0
    · have : ¬ f n = 0 := fun e => (this.1 e) h0
      rw [if_pos h0]
      simp [weight, wt, this]
    · have := this.2 h0
      rw [if_neg h0]
      simp [weight, wt, this]
theorem ones_lst (f : Nat → Nat) (n : Nat) (h : ∀ i, i < n → f i = 0 ∨ f i = 1) : ones (lst n f) = words (lst n f) := by
  induction n with
  | zero => rfl
  | succ n ih =>
    rw [lst_succ, ones_append, words_append, ih (fun i hi => h i (by omega))]
    congr 1
    rcases h n (by omega) with e | e <;> simp [ones, words, e]

section
variable {N : Nat} (S : Sorter N) (lo : List Int) (L : Nat) (hN : lo.length ≤ N) (hN2 : 2 * lo.length ≤ N) (hb : lo.any beyond = false) (hL1 : 1 ≤ L) (hL : L ≤ 15) (hx : come lo ≤ 2 ^ L)
include hN in
theorem best_one (h1 : come lo = 1) (s : Nat) (hs : s < lo.length) (h0 : 0 < lo.getD s 0) : bestF S lo L s = 1 := by
  have ok := order_ok S lo hN
  have hmem : s ∈ order S lo := ok.perm.mem_iff.2 (by
    unfold cm
    rw [List.mem_filter]
    exact ⟨List.mem_range.2 hs, by simpa using h0⟩)
  have hl : (order S lo).length = 1 := by rw [ok.len, h1]
  obtain ⟨i, hi, rfl⟩ := List.getElem_of_mem hmem
  rw [bestF_at S lo L hN i hi]
  have : i = 0 := by omega
  subst this
  unfold csOf
  rw [if_neg (by omega), if_pos h1]
  rfl

include hN hN2 hb hL1 hL hx in
theorem best_span (s : Nat) (hs : s < lo.length) (h0 : 0 < lo.getD s 0) : 1 ≤ bestF S lo L s ∧ bestF S lo L s ≤ L := by
  rcases Nat.lt_or_ge (come lo) 2 with h | h
  · have h1 : come lo = 1 := by
      have hm : s ∈ cm lo lo.length := by
        unfold cm
        rw [List.mem_filter]
        exact ⟨List.mem_range.2 hs, by simpa using h0⟩
      have := List.length_pos_of_mem hm
      unfold come at h ⊢
      omega
    rw [best_one S lo L hN h1 s hs h0]
    omega
  · exact bestF_range S lo L hN hN2 hb hL1 hL hx h s hs h0

include hN hN2 hb hL1 hL hx in
theorem best_kind : kindOf (lst lo.length (bestF S lo L)) = min (come lo + 1) 3 := by
  have hz : ∀ i, i < lo.length → (bestF S lo L i = 0 ↔ ¬ 0 < lo.getD i 0) := by
    intro i hi
    constructor
    · intro e h0
      have := best_span S lo L hN hN2 hb hL1 hL hx i hi h0
      omega
    · intro h0
      exact bestF_none S lo L i (fun h => h0 h.2) hN
  have hw : words (lst lo.length (bestF S lo L)) = come lo := words_lst lo _ _ hz
  have hok : Ok (lst lo.length (bestF S lo L)) := by
    intro x hxm
    simp only [lst, List.mem_map, List.mem_range] at hxm
    obtain ⟨i, hi, rfl⟩ := hxm
    by_cases h0 : 0 < lo.getD i 0
    · have := best_span S lo L hN hN2 hb hL1 hL hx i hi h0
      omega
    · have := (hz i hi).2 h0
      omega
  rw [kind_doc, if_pos hok, hw]
  rcases Nat.lt_or_ge (come lo) 2 with h | h
  · by_cases h0 : come lo = 0
    · rw [if_pos h0, h0]; rfl
    · have h1 : come lo = 1 := by omega
      have ho : ones (lst lo.length (bestF S lo L)) = 1 := by
        rw [ones_lst _ _ (fun i hi => ?_), hw, h1]
        by_cases hp : 0 < lo.getD i 0
        · exact .inr (best_one S lo L hN h1 i hi hp)
        · exact .inl ((hz i hi).2 hp)
      rw [if_neg h0, if_pos ⟨h1, ho⟩, h1]; rfl
  · have hwt : weight (lst lo.length (bestF S lo L)) = 32768 := by
      have ok := order_ok S lo hN
      obtain ⟨_, _, _, c4, _⟩ := best_cut S lo L hN hN2 hb hL1 hL hx h
      rw [weight_lst lo _ _ hz, ← (ok.perm.map _).sum_nat]
      rw [sum_get (order S lo) _ (fun i => 2 ^ (15 - lenAt (csOf S lo L) i)) (fun i hi => by rw [bestF_at S lo L hN i hi]), ok.len]
      exact c4
    rw [if_neg (by omega), if_neg (by omega), if_pos hwt]
    omega
end

theorem may_far (A : Option Addr) (n c : Nat) (most : Int) (h1 : 700 < n) (w : World) : Calls Try.prog 4 #[.slice A n c, .int .i64 most] w (TrueBelow w) := by
  go_enter Try.func4, Try.ntmps4
  go_wp2_with (go_at_call 10; refine (fixed4_any _).mono ?_; rintro e w1 ⟨rfl, hb1⟩; have B1 := Lib.hid hb1; clear hb1)
  go_ret
  exact ⟨rfl, B1.out⟩

/-- Refused: Best and the statement's own asking tell one error. -/
theorem may_refused (A : Option Addr) (n c : Nat) (most : Int) (hn : n ≤ 700) (er m : Nat) (he : 0 < er) (he2 : er < 100) (w : World)
    (CB : ∀ W, Below w.heap.size w W → Calls Try.prog 13 #[.slice A n c, .int .i64 most] W (BestBad W er)) (CR : ∀ W, Below w.heap.size w W → Calls Try.prog 14 #[.slice A n c, .int .i64 most] W fun e w' => e = .returned (.tuple #[.int .i64 m, .int .i64 er]) ∧ W = w') :
    Calls Try.prog 4 #[.slice A n c, .int .i64 most] w (TrueBelow w) := by
  have HCB := Lib.hid CB; clear CB
  have HCR := Lib.hid CR; clear CR
  have z1 : (er == 0) = false := by simp; omega
  have z2 : ((er : Int) == 0) = false := by simp; omega
  have z3 : ¬ (er : Int) = 0 := by omega
  go_enter Try.func4, Try.ntmps4
  go_wp2_with fail
  refine (fixed4_any _).mono ?_; rintro e w1 ⟨rfl, hb1⟩; have B1 := Lib.hid hb1; clear hb1
  go_wp2_with fail
  refine (HCB.out w1 B1.out).mono ?_
  rintro e w2 ⟨rfl, hb2⟩
  have B2 := Lib.hid (B1.out.trans (hb2.mono B1.out.size)); clear hb2
  go_wp2_with fail
  refine (HCR.out w2 B2.out).mono ?_
  rintro e w3 ⟨rfl, rfl⟩
  go_wp2_with fail
  go_ret
  exact ⟨rfl, B2.out⟩

set_option maxRecDepth 100000 in
set_option maxHeartbeats 2000000 in
theorem may_good (A : Option Addr) (n c : Nat) (lo : List Int) (hn : lo.length = n) (h6 : n ≤ 512) (L : Nat) (hL1 : 1 ≤ L) (hL : L ≤ 15) (w : World) (hs : Seen w w.heap.size 1 A n c (iv lo)) (hb : lo.any beyond = false) (hx : come lo ≤ 2 ^ L) : Calls Try.prog 4 #[.slice A n c, .int .i64 L] w (TrueBelow w) := by
  have HBst : Hid (∀ W, Below w.heap.size w W → Calls Try.prog 13 #[.slice A n c, .int .i64 L] W (BestOk bigSorter W lo L n)) := Lib.hid (fun W h1 => best_ok bigSorter A n c w.heap.size lo hn (by omega) (by omega) (by omega) (by omega) L hL1 (by omega) hb hx W (hs.below h1) h1.size)
  have CR : Hid (∀ W, Below w.heap.size w W → Calls Try.prog 14 #[.slice A n c, .int .i64 L] W fun e w' => e = .returned (.tuple #[.int .i64 (come lo : Nat), .int .i64 0]) ∧ W = w') := Lib.hid (fun W h => by
    have h1 := right_go A n c w.heap.size lo hn (by omega) L hL1 (by omega) W (hs.below h)
    have e : rightVal lo L = .tuple #[.int .i64 (come lo : Nat), .int .i64 0] := by
      unfold rightVal
      rw [if_neg (by rw [hb]; simp), if_neg (by omega)]
      rfl
    rw [e] at h1
    exact h1)
  have HSp : Hid (∀ k, k < n → (0 < lo.getD k 0 → 1 ≤ bestF bigSorter lo L k ∧ bestF bigSorter lo L k ≤ L) ∧ (¬ 0 < lo.getD k 0 → bestF bigSorter lo L k = 0) ∧ 0 ≤ lo.getD k 0) := Lib.hid (fun k hk => ⟨best_span bigSorter lo L (by omega) (by omega) hb hL1 hL hx k (by omega), fun h0 => bestF_none bigSorter lo L k (fun h => h0 h.2) (by omega), by
    rw [List.any_eq_false] at hb
    have hkl : k < lo.length := by omega
    have := hb lo[k] (List.getElem_mem hkl)
    simp [beyond] at this
    simp [List.getD, hkl]
    omega⟩)
  have HKd : Hid (kindOf (lst n (bestF bigSorter lo L)) = min (come lo + 1) 3) := Lib.hid (by rw [← hn]; exact best_kind bigSorter lo L (by omega) (by omega) hb hL1 hL hx)
  have hcm : come lo ≤ 512 := by have := come_le lo; omega
  have HS := Lib.hid hs; clear hs
  have HN := Lib.hid hn
  clear hb hn hx
  obtain ⟨f, hf⟩ : ∃ f, bestF bigSorter lo L = f := ⟨_, rfl⟩
  have HF := Lib.hid hf
  rw [hf] at HSp HKd
  clear hf
  obtain ⟨m, hm⟩ : ∃ m, come lo = m := ⟨_, rfl⟩
  rw [hm] at CR HKd hcm
  clear hm
  go_enter Try.func4, Try.ntmps4
  go_wp2_with fail
  refine (fixed4_any _).mono ?_; rintro e w1 ⟨rfl, hb1⟩; have B1 := Lib.hid hb1; clear hb1
  go_wp2_with fail
  refine (HBst.out w1 B1.out).mono ?_
  rintro e w3 ⟨v3, rfl, ho3, hb3⟩
  rw [HF.out] at ho3
  obtain ⟨A3, c3, rfl, _, hs3⟩ := own_seen ho3
  have S3 := Lib.hid hs3
  have B3 := Lib.hid (B1.out.trans (hb3.mono B1.out.size))
  have SL := Lib.hid ((HS.out.below B3.out).more B3.out.size)
  clear ho3 hs3 hb3 B1
  go_wp2_with fail
  refine (CR.out w3 B3.out).mono ?_; rintro e w2 ⟨rfl, rfl⟩
  go_wp2_with fail
  go_loop [9, 10, 53] (fun _ _ i => ∃ k : Nat, k ≤ n ∧ i = .int .i64 k) (fun _ _ i => n - (intOf i).toNat)
  case atStart => exact ⟨0, by omega, rfl⟩
  case round =>
    obtain ⟨k, hk, rfl⟩ := hrel
    by_cases hlt : k < n
    · have hkl : k < lo.length := by rw [HN.out]; exact hlt
      obtain ⟨b, o, rfl, hbB, hc⟩ := SL.out.int HN.out hlt
      obtain ⟨b1, o1, x1, rfl, _, q1, hc1⟩ := S3.out.at hlt
      have hu : x1 = .int .i64 (f k : Nat) := by
        unfold orow at q1
        rw [mr_get _ _ _ hlt] at q1
        injection q1 with q1; exact q1.symm
      subst hu
      obtain ⟨g1, g2, g3⟩ := HSp.out k hlt
      obtain ⟨y, hy⟩ : ∃ y, lo[k] = y := ⟨_, rfl⟩
      have hyd : lo.getD k 0 = y := by simp [List.getD, hkl, hy]
      rw [hyd] at g1 g2 g3
      rw [hy] at hc
      obtain ⟨fk, hfk⟩ : ∃ a, f k = a := ⟨_, rfl⟩
      rw [hfk] at g1 g2 hc1
      clear hfk hy hyd q1
      have k0 : (0 : Int) ≤ k := by omega
      have kz : (k : Int) < n := by omega
      by_cases hy0 : 0 < y
      · obtain ⟨g4, g5⟩ := g1 hy0
        have d1 : (y == 0) = false := by simp; omega
        have d2 : decide (0 < y) = true := decide_eq_true hy0
        have d3 : decide ((fk : Int) < 1) = false := decide_eq_false (by omega)
        have d4 : decide (L < fk) = false := decide_eq_false (by omega)
        have d5 : decide (fk < 1) = false := decide_eq_false (by omega)
        clear g1 g2 g3
        go_wp2_with fail
        go_round
        case rel => exact ⟨k + 1, by omega, by go_num⟩
        case measure => simp [intOf]; omega
      · obtain rfl : y = 0 := by omega
        have hf0 := g2 (by omega)
        subst hf0
        clear g1 g2 g3 hy0
        go_wp2_with fail
        go_round
        case rel => exact ⟨k + 1, by omega, by go_num⟩
        case measure => simp [intOf]; omega
    · obtain rfl : k = n := by omega
      go_wp2_with fail
      refine (HBst.out w3 B3.out).mono ?_
      rintro e w4 ⟨v4, rfl, ho4, hb4⟩
      rw [HF.out] at ho4
      obtain ⟨A4, c4, rfl, _, hs4⟩ := own_seen ho4
      have S4 := Lib.hid hs4
      have S34 := Lib.hid ((S3.out.below hb4).more hb4.size)
      have B4 := Lib.hid (B3.out.trans (hb4.mono B3.out.size))
      clear ho4 hs4 hb4
      go_wp2_with fail
      go_loopw [13, 95] (fun _ i wr => ∃ (t q : Nat), t ≤ k ∧ i = .int .i64 t ∧ wr = w4.drewN q) (fun _ i _ => k - (intOf i).toNat)
      case atStart => exact ⟨0, 0, by omega, rfl, rfl⟩
      case round =>
        obtain ⟨t, q, ht, rfl, rfl⟩ := hrel
        by_cases hlt2 : t < k
        · obtain ⟨b1, o1, x1, rfl, _, q1, hc1⟩ := S34.out.at hlt2
          obtain ⟨b2, o2, x2, rfl, _, q2, hc2⟩ := S4.out.at hlt2
          have hu : x1 = .int .i64 (f t : Nat) := by
            unfold orow at q1
            rw [mr_get _ _ _ hlt2] at q1
            injection q1 with q1; exact q1.symm
          have hu2 : x2 = .int .i64 (f t : Nat) := by
            unfold orow at q2
            rw [mr_get _ _ _ hlt2] at q2
            injection q2 with q2; exact q2.symm
          subst hu hu2
          have hcq1 : (w4.drewN q).cell? ⟨b1, o1 + t, none⟩ = some (.int .i64 (f t : Nat)) := by simpa using hc1
          have hcq2 : (w4.drewN q).cell? ⟨b2, o2 + t, none⟩ = some (.int .i64 (f t : Nat)) := by simpa using hc2
          obtain ⟨ft, hft⟩ : ∃ a, f t = a := ⟨_, rfl⟩
          rw [hft] at hcq1 hcq2
          obtain ⟨wr, hwr⟩ : ∃ wr, w4.drewN q = wr := ⟨_, rfl⟩
          rw [hwr] at hcq1 hcq2 ⊢
          have HO : Hid (∀ m, ∃ q, wr.drewN m = w4.drewN q) := Lib.hid (fun m => ⟨q + m, by rw [← hwr, World.drewN_drewN]⟩)
          clear hwr hft hc1 hc2 q1 q2
          have t0 : (0 : Int) ≤ t := by omega
          have tz : (t : Int) < k := by omega
          have dg : decide (k ≤ t) = false := decide_eq_false (by omega)
          have dg2 : decide ((k : Int) ≤ t) = false := decide_eq_false (by omega)
          go_wp2_with fail
          go_quiet (fail)
          go_wp2_with fail
          go_roundw
          case rel => obtain ⟨q3, hq3⟩ := HO.out nq; exact ⟨t + 1, q3, by omega, by go_num, hq3⟩
          case measure => simp [intOf]; omega
        · obtain rfl : t = k := by omega
          have CK : Hid (Calls Try.prog 11 #[.slice A3 t c3] (w4.drewN q) fun e w' => e = .returned (.int .i64 (min (m + 1) 3 : Nat)) ∧ (w4.drewN q) = w') := Lib.hid (by
            have h1 := kind_any A3 t c3 w4.heap.size (lst t f) (lst_length t f) (by omega) (w4.drewN q) (by rw [iv_lst]; exact S34.out.below ⟨rfl, rfl, rfl, Nat.le_refl _, fun _ _ => rfl⟩)
            rwa [HKd.out] at h1)
          obtain ⟨mm, hmm⟩ : ∃ mm, min (m + 1) 3 = mm := ⟨_, rfl⟩
          rw [hmm] at CK
          have hmm2 : (if (m : Int) + 1 < 3 then (m : Int) + 1 else 3) = mm := by split <;> omega
          have hmm3 : min ((m : Int) + 1) 3 = mm := by omega
          go_wp2_with fail
          refine CK.out.mono ?_
          rintro e w5 ⟨rfl, rfl⟩
          go_wp2_with fail
          go_ret
          exact ⟨by simp, ⟨B4.out.os, B4.out.tape, B4.out.output, B4.out.size, B4.out.block⟩⟩

theorem may_law (A : Option Addr) (n c : Nat) (_ : n ≤ 9223372036854775807) (most : Int) (_ : (Lit.int .i64 most).wf = true) (w : World) (hp : ∃ l : List Int, l.length = n ∧ (∀ y ∈ l, -9223372036854775808 ≤ y ∧ y < 9223372036854775808) ∧ Seen w w.heap.size 1 A n c (iv l)) :
    Calls Try.prog 4 #[.slice A n c, .int .i64 most] w fun e w' => e = .returned (.bool true) ∧ Below w.heap.size w w' := by
  obtain ⟨lo, h1, _, h2⟩ := hp
  by_cases hf : 700 < n
  · exact may_far A n c most hf w
  by_cases ha : most < 1 ∨ 15 < most
  · exact may_refused A n c most (by omega) 1 0 (by omega) (by omega) w (fun W hB => best_arg A n c w.heap.size lo h1 (by omega) most W (h2.below hB) (ha.elim .inl fun h => .inr (.inl h))) (fun W _ => right_arg A n c most W ha)
  obtain ⟨L, rfl⟩ := Int.eq_ofNat_of_zero_le (show 0 ≤ most by omega)
  by_cases hb : lo.any beyond = true
  · refine may_refused A n c L (by omega) 1 0 (by omega) (by omega) w (fun W hB => best_arg A n c w.heap.size lo h1 (by omega) L W (h2.below hB) (.inr (.inr hb))) (fun W hB => ?_)
    have h3 := right_go A n c w.heap.size lo h1 (by omega) L (by omega) (by omega) W (h2.below hB)
    have e : rightVal lo L = .tuple #[.int .i64 (0 : Nat), .int .i64 (1 : Nat)] := by unfold rightVal; rw [if_pos hb]; rfl
    rwa [e] at h3
  have hb' : lo.any beyond = false := by simpa using hb
  by_cases hm : 2 ^ L < come lo ∨ 512 < n
  · refine may_refused A n c L (by omega) 4 (come lo) (by omega) (by omega) w (fun W hB => best_many bigSorter A n c w.heap.size lo h1 (by omega) (by omega) (by omega) L (by omega) (by omega) hb' hm W (h2.below hB) hB.size) (fun W hB => ?_)
    have h3 := right_go A n c w.heap.size lo h1 (by omega) L (by omega) (by omega) W (h2.below hB)
    have e : rightVal lo L = .tuple #[.int .i64 (come lo : Nat), .int .i64 (4 : Nat)] := by unfold rightVal; rw [if_neg hb, if_pos (by rw [h1]; exact hm)]
    rwa [e] at h3
  · exact may_good A n c lo h1 (by omega) L (by omega) (by omega) w h2 hb' (by omega)
end Go.Proofs.Ytijjcecboepiiaa
