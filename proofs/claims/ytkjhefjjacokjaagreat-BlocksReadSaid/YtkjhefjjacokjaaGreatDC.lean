/-
  What Best's lengths are: from 1 on, of a right kind. Conditions: as many signs as the sorts serve.
  Contracts of Max, fewer, bestLengths, trimmed. Conditions: at most three hundred counts, each at most 65536; each theorem names its own.
  The contract of dynamicBlock: the codes' lengths, and what writes the header. Conditions: each count is at most 65536.
  append of noughts to nothing; the contract of Concat of two rows. Conditions: at most a thousand lengths each.
-/
import Derived.Test.YtkjhefjjacokjaaGreatQK6
import Derived.Test.YtkjhefjjacokjaaGreatQS12
import Derived.Test.YtkjhefjjacokjaaGreatW5
import Derived.Test.YtkjhefjjacokjaaGreatG7
namespace Go.Proofs.YtkjhefjjacokjaaGreat
open Go.Proofs Go.Shelf Go.RowKit Go.Sort Go.Lib
set_option maxRecDepth 100000
theorem sum_get (l : List Nat) (g h : Nat → Nat) (hh : ∀ i (hi : i < l.length), g l[i] = h i) : (l.map g).sum = sumTo l.length h := by
  unfold sumTo
  congr 1
  apply List.ext_getElem?
  intro i
  by_cases hi : i < l.length
  · simp [hi, hh i hi]
  · rw [List.getElem?_eq_none (by simp; omega), List.getElem?_eq_none (by simp; omega)]
section
variable {N : Nat} (S : Sorter N) (lo : List Int) (L : Nat) (hN : lo.length ≤ N) (hN2 : 2 * lo.length ≤ N) (hb : lo.any beyond = false) (hL1 : 1 ≤ L) (hL : L ≤ 15) (hx : come lo ≤ 2 ^ L)

theorem come_le : come lo ≤ lo.length := cm_len lo lo.length
theorem bestF_none (s : Nat) (h : ¬ (s < lo.length ∧ 0 < lo.getD s 0)) (hN : lo.length ≤ N) : bestF S lo L s = 0 := by
  unfold bestF lenQ
  rw [if_neg]
  intro hm
  have hp := (order_ok S lo hN).perm.mem_iff.1 hm
  exact h ⟨cm_mem lo _ s hp, cm_pos lo _ s hp⟩
theorem cm_all {lo : List Int} (s : Nat) (h1 : s < lo.length) (h2 : 0 < lo.getD s 0) : s ∈ cm lo lo.length := List.mem_filter.2 ⟨List.mem_range.2 h1, by simpa using h2⟩

include hN hN2 hb hL1 hL hx in
theorem best_cut (hm : 2 ≤ come lo) : csOf S lo L = cut (tops S (wsOf lo (order S lo)) (L - 1)) (2 * come lo - 2) ∧ (csOf S lo L).length = L ∧ (∀ i, i < come lo → 1 ≤ lenAt (csOf S lo L) i) ∧ sumTo (come lo) (fun i => 2 ^ (15 - lenAt (csOf S lo L) i)) = 32768 ∧
    sumTo (come lo) (fun i => (wsOf lo (order S lo)).getD i 0 * lenAt (csOf S lo L) i) = pcost ((rowAt S (wsOf lo (order S lo)) (L - 1)).take (2 * come lo - 2)) := by
  have ok := order_ok S lo hN
  have hwl : (wsOf lo (order S lo)).length = come lo := by simp [wsOf, ok.len]
  have hcl := come_le lo
  have e : csOf S lo L = cut (tops S (wsOf lo (order S lo)) (L - 1)) (2 * come lo - 2) := by unfold csOf; rw [if_neg (by omega), if_neg (by omega)]
  have hR := tops_rows S (wsOf lo (order S lo)) (by rw [hwl]; omega) (ok.most hb) (L - 1)
  obtain ⟨rest, hr, hrl⟩ := tops_head S (wsOf lo (order S lo)) (L - 1)
  rw [hr] at hR
  have h1 := cut_whole ok.sorted ok.pos (by omega) hR (by rw [hrl, hwl, show L - 1 + 1 = L by omega]; exact hx) (by rw [hrl]; omega)
  have hen := rows_enough 2 hR (by rw [hrl, hwl, Nat.mul_comm, ← Nat.pow_succ, show (L - 1).succ = L by omega]; exact hx)
  rw [hwl] at hen h1
  have h2 := cut_cost ok.sorted (2 * come lo - 2) hR (by omega)
  have h3 := lenAt_cost (wsOf lo (order S lo)) (cut (rowAt S (wsOf lo (order S lo)) (L - 1) :: rest) (2 * come lo - 2))
  rw [hwl, h2] at h3
  refine ⟨e, ?_, ?_, ?_, ?_⟩
  · rw [e, cut_length, tops_len]; omega
  · rw [e, hr]; exact h1.1
  · rw [e, hr]; exact h1.2
  · rw [e, hr]; exact h3

include hN in
theorem bestF_at (i : Nat) (hi : i < (order S lo).length) : bestF S lo L (order S lo)[i] = lenAt (csOf S lo L) i := by
  have ok := order_ok S lo hN
  unfold bestF lenQ
  rw [if_pos (List.getElem_mem hi), idx_get _ ok.nodup i hi]

include hN hN2 hb hL1 hL hx in
theorem bestF_range (hm : 2 ≤ come lo) (s : Nat) (h1 : s < lo.length) (h2 : 0 < lo.getD s 0) : 1 ≤ bestF S lo L s ∧ bestF S lo L s ≤ L := by
  have ok := order_ok S lo hN
  obtain ⟨_, c2, c3, _, _⟩ := best_cut S lo L hN hN2 hb hL1 hL hx hm
  have hmem : s ∈ order S lo := ok.perm.mem_iff.2 (cm_all s h1 h2)
  obtain ⟨i, hi, rfl⟩ := List.getElem_of_mem hmem
  rw [bestF_at S lo L hN i hi]
  have := lenAt_le (csOf S lo L) i
  exact ⟨c3 i (by rw [← ok.len]; exact hi), by omega⟩

end

/-- Lengths by a function, as a list. -/
def lst (n : Nat) (f : Nat → Nat) : List Int := (List.range n).map fun i => (f i : Int)
theorem lst_length (n : Nat) (f : Nat → Nat) : (lst n f).length = n := by simp [lst]
theorem lst_succ (n : Nat) (f : Nat → Nat) : lst (n + 1) f = lst n f ++ [(f n : Int)] := by simp [lst, List.range_succ]
theorem iv_lst (n : Nat) (f : Nat → Nat) : iv (lst n f) = orow n f := by
  simp [iv, lst, orow, mr]
theorem words_lst (lo : List Int) (f : Nat → Nat) (n : Nat) (h : ∀ i, i < n → (f i = 0 ↔ ¬ 0 < lo.getD i 0)) : words (lst n f) = (cm lo n).length := by
  induction n with
  | zero => rfl
  | succ n ih =>
    rw [lst_succ, words_append, ih (fun i hi => h i (by omega)), cm_succ, List.length_append]
    have := h n (by omega)
    by_cases h0 : 0 < lo.getD n 0
    · have : ¬ f n = 0 := fun e => (this.1 e) h0
      rw [if_pos h0]
      simp [words, this]
    · have := this.2 h0
      rw [if_neg h0]
      simp [words, this]
theorem weight_lst (lo : List Int) (f : Nat → Nat) (n : Nat) (h : ∀ i, i < n → (f i = 0 ↔ ¬ 0 < lo.getD i 0)) : weight (lst n f) = ((cm lo n).map fun s => 2 ^ (15 - f s)).sum := by
  induction n with
  | zero => rfl
  | succ n ih =>
    rw [lst_succ, weight_append, ih (fun i hi => h i (by omega)), cm_succ, List.map_append, List.sum_append]
    congr 1
    have := h n (by omega)
    by_cases h0 : 0 < lo.getD n 0
    · have : ¬ f n = 0 := fun e => (this.1 e) h0
      rw [if_pos h0]
      simp [weight, wt, this]
    · have := this.2 h0
      rw [if_neg h0]
      simp [weight, wt, this]
theorem ones_lst (f : Nat → Nat) (n : Nat) (h : ∀ i, i < n → f i = 0 ∨ f i = 1) : ones (lst n f) = words (lst n f) := by
  induction n with
  | zero => rfl
  | succ n ih =>
    rw [lst_succ, ones_append, words_append, ih (fun i hi => h i (by omega))]
    congr 1
    rcases h n (by omega) with e | e <;> simp [ones, words, e]
section
variable {N : Nat} (S : Sorter N) (lo : List Int) (L : Nat) (hN : lo.length ≤ N) (hN2 : 2 * lo.length ≤ N) (hb : lo.any beyond = false) (hL1 : 1 ≤ L) (hL : L ≤ 15) (hx : come lo ≤ 2 ^ L)
include hN in
theorem best_one (h1 : come lo = 1) (s : Nat) (hs : s < lo.length) (h0 : 0 < lo.getD s 0) : bestF S lo L s = 1 := by
  have ok := order_ok S lo hN
  have hmem : s ∈ order S lo := ok.perm.mem_iff.2 (by
    unfold cm
    rw [List.mem_filter]
    exact ⟨List.mem_range.2 hs, by simpa using h0⟩)
  have hl : (order S lo).length = 1 := by rw [ok.len, h1]
  obtain ⟨i, hi, rfl⟩ := List.getElem_of_mem hmem
  rw [bestF_at S lo L hN i hi]
  have : i = 0 := by omega
  subst this
  unfold csOf
  rw [if_neg (by omega), if_pos h1]
  rfl

include hN hN2 hb hL1 hL hx in
theorem best_span (s : Nat) (hs : s < lo.length) (h0 : 0 < lo.getD s 0) : 1 ≤ bestF S lo L s ∧ bestF S lo L s ≤ L := by
  rcases Nat.lt_or_ge (come lo) 2 with h | h
  · have h1 : come lo = 1 := by
      have hm : s ∈ cm lo lo.length := by
        unfold cm
        rw [List.mem_filter]
        exact ⟨List.mem_range.2 hs, by simpa using h0⟩
      have := List.length_pos_of_mem hm
      unfold come at h ⊢
      omega
    rw [best_one S lo L hN h1 s hs h0]
    omega
  · exact bestF_range S lo L hN hN2 hb hL1 hL hx h s hs h0

include hN hN2 hb hL1 hL hx in
theorem best_kind : kindOf (lst lo.length (bestF S lo L)) = min (come lo + 1) 3 := by
  have hz : ∀ i, i < lo.length → (bestF S lo L i = 0 ↔ ¬ 0 < lo.getD i 0) := by
    intro i hi
    constructor
    · intro e h0
      have := best_span S lo L hN hN2 hb hL1 hL hx i hi h0
      omega
    · intro h0
      exact bestF_none S lo L i (fun h => h0 h.2) hN
  have hw : words (lst lo.length (bestF S lo L)) = come lo := words_lst lo _ _ hz
  have hok : Ok (lst lo.length (bestF S lo L)) := by
    intro x hxm
    simp only [lst, List.mem_map, List.mem_range] at hxm
    obtain ⟨i, hi, rfl⟩ := hxm
    by_cases h0 : 0 < lo.getD i 0
    · have := best_span S lo L hN hN2 hb hL1 hL hx i hi h0
      omega
    · have := (hz i hi).2 h0
      omega
  rw [kind_doc, if_pos hok, hw]
  rcases Nat.lt_or_ge (come lo) 2 with h | h
  · by_cases h0 : come lo = 0
    · rw [if_pos h0, h0]; rfl
    · have h1 : come lo = 1 := by omega
      have ho : ones (lst lo.length (bestF S lo L)) = 1 := by
        rw [ones_lst _ _ (fun i hi => ?_), hw, h1]
        by_cases hp : 0 < lo.getD i 0
        · exact .inr (best_one S lo L hN h1 i hi hp)
        · exact .inl ((hz i hi).2 hp)
      rw [if_neg h0, if_pos ⟨h1, ho⟩, h1]; rfl
  · have hwt : weight (lst lo.length (bestF S lo L)) = 32768 := by
      have ok := order_ok S lo hN
      obtain ⟨_, _, _, c4, _⟩ := best_cut S lo L hN hN2 hb hL1 hL hx h
      rw [weight_lst lo _ _ hz, ← (ok.perm.map _).sum_nat]
      rw [sum_get (order S lo) _ (fun i => 2 ^ (15 - lenAt (csOf S lo L) i)) (fun i hi => by rw [bestF_at S lo L hN i hi]), ok.len]
      exact c4
    rw [if_neg (by omega), if_neg (by omega), if_pos hwt]
    omega
end

end Go.Proofs.YtkjhefjjacokjaaGreat

namespace Go.Proofs.YtkjhefjjacokjaaGreat
open Go.RowKit
set_option maxRecDepth 100000
set_option maxHeartbeats 1000000 in
theorem max_any (A : Option Addr) (n c B : Nat) (l : List Int) (hn : l.length = n) (h1 : 1 ≤ n) (h2 : n ≤ 1000) (M : Int) (hM : ∀ x ∈ l, x ≤ M) (w : World) (hs : Seen w B 1 A n c (iv l)) :
    Calls Tryz.prog 95 #[.slice A n c] w fun e w' => w = w' ∧ ∃ m : Int, e = .returned (.int .i64 m) ∧ m ≤ M := by
  obtain ⟨b, o, rfl, hb, c0⟩ := hs.int hn (k := 0) (by omega)
  obtain ⟨x, hx⟩ : ∃ x, l[0]'(by omega) = x := ⟨_, rfl⟩
  have hxM : x ≤ M := hM x (by rw [← hx]; exact List.getElem_mem _)
  rw [hx, Nat.add_zero] at c0
  have HS := Lib.hid hs; have HN := Lib.hid hn; have HM := Lib.hid hM
  have d1 : decide ((n : Int) < 1) = false := decide_eq_false (by omega)
  have d1' : decide (n < 1) = false := decide_eq_false (by omega)
  clear hx hs hn hM
  go_enter Tryz.func95, Tryz.ntmps95
  go_wp2_with fail
  clear c0
  go_loopw [3, 4] (fun m i wr => ∃ (k : Nat) (y : Int), 1 ≤ k ∧ k ≤ n ∧ i = .int .i64 k ∧ m = .int .i64 y ∧ y ≤ M ∧ w = wr) (fun _ i _ => n - (intOf i).toNat)
  case atStart => exact ⟨1, x, Nat.le_refl _, h1, rfl, rfl, hxM, rfl⟩
  case round =>
    obtain ⟨k, y, hk1, hk, rfl, rfl, hy, rfl⟩ := hrel
    by_cases hlt : k < n
    · obtain ⟨b', o', e, _, c1⟩ := HS.out.int HN.out hlt
      injection e with e
      injection e with e1 e2
      subst e1 e2
      have hz := HM.out _ (List.getElem_mem (show k < l.length by rw [HN.out]; exact hlt))
      obtain ⟨z, hzz⟩ : ∃ z, l[k]'(by rw [HN.out]; exact hlt) = z := ⟨_, rfl⟩
      rw [hzz] at c1 hz
      have hk0 : (0 : Int) ≤ k := by omega
      clear hzz
      obtain ⟨mx, hmx⟩ : ∃ mx, (if y < z then z else y) = mx := ⟨_, rfl⟩
      have hmM : mx ≤ M := by rw [← hmx]; split <;> assumption
      go_wp2_with fail
      go_roundw
      case rel => exact ⟨k + 1, mx, by omega, by omega, by go_num, by first | rfl | (rw [← hmx]; split <;> simp <;> omega), hmM, by trivial⟩
      case measure => simp [intOf]; omega
    · obtain rfl : k = n := by omega
      go_wp2_with fail
      go_ret
      exact ⟨rfl, y, rfl, hy⟩
theorem fewer_any (A : Option Addr) (n c B : Nat) (l : List Int) (hn : l.length = n) (h1 : 1 ≤ n) (h2 : n ≤ 1000) (hM : ∀ x ∈ l, x ≤ 16777216) (w : World) (hs : Seen w B 1 A n c (iv l)) (hB : B ≤ w.heap.size) :
    Calls Tryz.prog 76 #[.slice A n c] w (GivesRow w 3 1 n (iv l)) := by
  have CC := Lib.hid (cloneInt_any A n c B (iv l) w hs hB (by intro u hu; obtain ⟨_, _, rfl⟩ := List.mem_map.1 hu; rfl) (by omega))
  have HN := Lib.hid hn; have HM := Lib.hid hM
  clear hs hn hM
  go_enter Tryz.func76, Tryz.ntmps76
  go_wp2_with fail
  refine CC.out.mono ?_; rintro e w1 ⟨v, rfl, hown, hb⟩
  obtain ⟨A1, c1, rfl, _, hs1⟩ := own_seen hown
  have CM := Lib.hid (max_any A1 n c1 _ l HN.out h1 h2 16777216 HM.out w1 hs1)
  have HO := Lib.hid hown; have HB := Lib.hid hb
  clear hown hb hs1 CC
  go_wp2_with fail
  go_loopw [12] (fun _ wr => wr = w1) (fun _ _ => 0)
  case atStart => rfl
  case round =>
    obtain rfl := hrel
    go_wp2_with fail
    refine CM.out.mono ?_; rintro e w2 ⟨rfl, m, rfl, hm⟩
    have dm : decide ((16777216 : Int) < m) = false := decide_eq_false (by omega)
    go_wp2_with fail
    go_ret
    exact ⟨_, rfl, HO.out, HB.out⟩
/-- The lengths that cost least. -/
def bestL (lo : List Int) (L : Nat) : List Int := lst lo.length (bestF bigSorter lo L)
theorem bestL_length (lo : List Int) (L : Nat) : (bestL lo L).length = lo.length := lst_length _ _
/-- Counts whose best lengths can be. -/
def Often (lo : List Int) (n L : Nat) : Prop := lo.length = n ∧ 1 ≤ n ∧ n ≤ 300 ∧ 1 ≤ L ∧ L ≤ 15 ∧ n ≤ 2 ^ L ∧ ∀ x ∈ lo, 0 ≤ x ∧ x ≤ 65536
theorem Often.any {lo : List Int} {n L : Nat} (h : Often lo n L) : lo.any beyond = false := by
  rw [List.any_eq_false]
  intro x hx
  have := h.2.2.2.2.2.2 x hx
  simp [beyond]
  omega
theorem bestLengths_any (A : Option Addr) (n c B : Nat) (lo : List Int) (L : Nat) (hO : Often lo n L) (w : World) (hs : Seen w B 1 A n c (iv lo)) (hB : B ≤ w.heap.size) :
    Calls Tryz.prog 54 #[.slice A n c, .int .i64 L] w (GivesRow w 3 1 n (iv (bestL lo L))) := by
  obtain ⟨hn, h1, h2, hL1, hL, h2L, hx⟩ := hO
  have CF := Lib.hid (fewer_any A n c B lo hn h1 (by omega) (fun x hx' => by have := hx x hx'; omega) w hs hB)
  have hb := Often.any ⟨hn, h1, h2, hL1, hL, h2L, hx⟩
  have hcl := come_le lo
  have CB := Lib.hid (fun (A1 : Option Addr) (c1 B1 : Nat) (W : World) (h : Seen W B1 1 A1 n c1 (iv lo)) (hB1 : B1 ≤ W.heap.size) => best_ok bigSorter A1 n c1 B1 lo hn (by omega) (by omega) (by omega) (by omega) L hL1 hL hb (by omega) W h hB1)
  have HE : Hid (orow n (bestF bigSorter lo L) = iv (bestL lo L)) := Lib.hid (by unfold bestL; rw [iv_lst, hn])
  clear hs hb hx hcl
  go_enter Tryz.func54, Tryz.ntmps54
  go_wp2_with fail
  refine CF.out.mono ?_; rintro e w1 ⟨v, rfl, hown, hb1⟩
  obtain ⟨A1, c1, rfl, _, hs1⟩ := own_seen hown
  have CB1 := Lib.hid (CB.out A1 c1 _ w1 hs1 (Nat.le_refl _))
  have HB := Lib.hid hb1
  clear hown hb1 hs1 CB CF
  go_wp2_with fail
  refine CB1.out.mono ?_; rintro e w2 ⟨v2, rfl, hown2, hb2⟩
  rw [HE.out] at hown2
  have HO := Lib.hid hown2; have HB2 := Lib.hid (HB.out.trans (hb2.mono HB.out.size))
  have HS := Lib.hid HB.out.size
  obtain ⟨A2, c2, rfl, _⟩ := own_form hown2
  clear hown2 hb2
  go_wp2_with fail
  go_ret
  exact ⟨_, rfl, own_base HO.out HS.out, HB2.out⟩
/-- How many are left without the noughts at the end. -/
def trimN (l : List Int) (least : Nat) : Nat → Nat
  | 0 => 0
  | k + 1 => if least < k + 1 ∧ l.getD k 0 = 0 then trimN l least k else k + 1
theorem trimN_le (l : List Int) (least : Nat) : ∀ k, trimN l least k ≤ k
  | 0 => Nat.le_refl _
  | k + 1 => by
    have := trimN_le l least k
    unfold trimN
    split <;> omega
theorem trimN_least (l : List Int) (least : Nat) : ∀ k, least ≤ k → least ≤ trimN l least k
  | 0, h => by unfold trimN; exact h
  | k + 1, h => by
    unfold trimN
    split
    · rename_i h1
      exact trimN_least l least k (by omega)
    · exact h
theorem trimN_zero (l : List Int) (least : Nat) : ∀ k j, trimN l least k ≤ j → j < k → l.getD j 0 = 0
  | 0, j, _, h => by omega
  | k + 1, j, h1, h2 => by
    unfold trimN at h1
    split at h1
    · rename_i h
      by_cases hj : j = k
      · subst hj; exact h.2
      · exact trimN_zero l least k j h1 (by omega)
    · omega
set_option maxHeartbeats 1000000 in
theorem trimmed_any (A : Option Addr) (n c B : Nat) (l : List Int) (hn : l.length = n) (h1 : 1 ≤ n) (h2 : n ≤ 1000) (least : Nat) (w : World) (hs : Seen w B 1 A n c (iv l)) :
    Calls Tryz.prog 53 #[.slice A n c, .int .i64 least] w fun e w' => w = w' ∧ e = .returned (.slice A (trimN l least n) c) := by
  have hnc := hs.2.1
  obtain ⟨b, o, rfl, hb, hc0⟩ := hs.int hn (k := 0) (by omega)
  have HS := Lib.hid hs; have HN := Lib.hid hn
  clear hc0 hs hn
  obtain ⟨T, hT⟩ : ∃ T, trimN l least n = T := ⟨_, rfl⟩
  rw [hT]
  have HTT := Lib.hid hT
  clear hT
  go_enter Tryz.func53, Tryz.ntmps53
  go_wp2_with fail
  go_loopw [5] (fun i wr => ∃ k : Nat, k ≤ n ∧ i = .int .i64 k ∧ trimN l least k = T ∧ w = wr) (fun i _ => (intOf i).toNat)
  case atStart => exact ⟨n, Nat.le_refl _, rfl, HTT.out, rfl⟩
  case round =>
    obtain ⟨k, hk, rfl, ht, rfl⟩ := hrel
    have hkc : k ≤ c := by omega
    by_cases hlt : least < k
    · have d1 : decide (least < k) = true := decide_eq_true hlt
      have d1' : decide ((least : Int) < k) = true := decide_eq_true (by omega)
      obtain ⟨q, rfl⟩ : ∃ q, k = q + 1 := ⟨k - 1, by omega⟩
      obtain ⟨b', o', e, _, c1⟩ := HS.out.int HN.out (show q < n by omega)
      injection e with e
      injection e with e1 e2
      subst e1 e2
      obtain ⟨z, hzz⟩ : ∃ z, l[q]'(by rw [HN.out]; omega) = z := ⟨_, rfl⟩
      have hgz : l.getD q 0 = z := by
        have : q < l.length := by rw [HN.out]; omega
        rw [← hzz]; simp only [List.getD]; rw [List.getElem?_eq_getElem this]; rfl
      rw [hzz] at c1
      have eq1 : ((q + 1 : Nat) : Int) - 1 = q := by omega
      have q0 : (0 : Int) ≤ q := by omega
      have qn : (q : Int) < n := by omega
      have wq : IntKind.i64.wrap (q : Int) = q := IntWalk.i64_in _ (by omega)
      unfold trimN at ht
      rw [hgz] at ht
      have HT := Lib.hid ht
      clear ht hzz hgz
      by_cases hz : z = 0
      · subst hz
        go_wp2_with fail
        go_roundw
        case rel => exact ⟨q, by omega, by first | rfl | go_num, by have := HT.out; rwa [if_pos ⟨hlt, rfl⟩] at this, by trivial⟩
        case measure => simp [intOf]; try omega
      · have dz : (z == 0) = false := by simpa using hz
        go_wp2_with fail
        go_ret
        have h3 := HT.out
        rw [if_neg (fun h => hz h.2)] at h3
        exact ⟨rfl, by rw [← h3]; rfl⟩
    · have d1 : decide (least < k) = false := decide_eq_false hlt
      have d1' : decide ((least : Int) < k) = false := decide_eq_false (by omega)
      have HT := Lib.hid ht; clear ht
      have hkt : trimN l least k = k := by
        cases k with
        | zero => rfl
        | succ k => unfold trimN; rw [if_neg (fun h => hlt h.1)]
      have HKT := Lib.hid hkt; clear hkt
      go_wp2_with fail
      go_ret
      exact ⟨rfl, by rw [← HT.out, HKT.out]; rfl⟩
end Go.Proofs.YtkjhefjjacokjaaGreat

namespace Go.Proofs.YtkjhefjjacokjaaGreat
open Go.RowKit
set_option maxRecDepth 100000
theorem own_tw {w w' : World} {base n : Nat} {v : Value} {xs : List Value} (h : w.ownsRow base 3 1 v n xs) (ho : Tw w w') : w'.ownsRow base 3 1 v n xs :=
  own_only h ho (fun k hk => by
    rintro ⟨t, cs, hW, ht⟩
    obtain ⟨_, cs', hW'⟩ := own_whole h hk
    rcases ht with rfl | rfl
    · exact hW'.ne hW (by decide) rfl
    · exact hW'.ne hW (by decide) rfl)
theorem only_setRow (w : World) (g : Nat) (cs : Array Value) : Only (fun i => i = g) w (w.setRow g cs) :=
  ⟨rfl, rfl, rfl, by simp, fun i _ hn => setRow_other w g i cs hn⟩
/-- The first lengths of a row of one's own stay readable while bits are written. -/
theorem Lens.own {w : World} {base n q c : Nat} {A : Option Addr} {l : List Int} (h : w.ownsRow base 3 1 (.slice A n c) n (iv l)) (hq : q ≤ n) : Lens w A q c (l.take q) := by
  intro W hW
  have h1 := (Seen.of_own (own_tw h hW)).cut (q := 0) (n := q) (by omega)
  have e : ((iv l).drop 0).take q = iv (l.take q) := by simp [iv, List.map_take]
  rw [e] at h1
  refine ⟨_, Nat.le_refl _, ?_⟩
  have eA : Option.map (fun x : Addr => x.add 0) A = A := by cases A <;> simp [Addr.add]
  rw [eA] at h1
  simpa using h1
theorem seen_rzo {w : World} {g : Nat} {F : Nat → Int} (h : Whole w g 60 (rz 317 F)) (o n : Nat) (hn : o + n ≤ 317) : Seen w (g + 1) 1 (some ⟨g, o, none⟩) n n (iv ((List.range n).map fun i => F (o + i))) := by
  refine ⟨by simp, Nat.le_refl _, .inr ⟨_, rfl, fun _ => ⟨rfl, Nat.lt_succ_self _, fun j u hu => ?_⟩⟩⟩
  show w.cell? ⟨g, o + j, none⟩ = some u
  have hj : j < n := by
    have := (List.getElem?_eq_some_iff.1 hu).1
    simpa using this
  rw [h.cell (o + j), rz_get _ _ _ (by omega), ← hu]
  simp [iv, hj]
/-- The counts of signs, and of distances. -/
def sgC (F : Nat → Int) : List Int := (List.range 286).map fun i => F (0 + i)
def dsC (F : Nat → Int) : List Int := (List.range 30).map fun i => F (286 + i)
/-- The lengths of a dynamic block's codes. -/
def sgB (F : Nat → Int) : List Int := bestL (sgC F) 15
def dsB (F : Nat → Int) : List Int := bestL (dsC F) 15
def sgN (F : Nat → Int) : Nat := trimN (sgB F) 257 286
def dsN (F : Nat → Int) : Nat := trimN (dsB F) 1 30
theorem sgB_length (F : Nat → Int) : (sgB F).length = 286 := by unfold sgB sgC; rw [bestL_length]; simp
theorem dsB_length (F : Nat → Int) : (dsB F).length = 30 := by unfold dsB dsC; rw [bestL_length]; simp
theorem best15 (A : Option Addr) (n c B : Nat) (lo : List Int) (hO : Often lo n 15) (w : World) (hs : Seen w B 1 A n c (iv lo)) (hB : B ≤ w.heap.size) :
    Calls Tryz.prog 54 #[.slice A n c, .int .i64 15] w (GivesRow w 3 1 n (iv (bestL lo 15))) := bestLengths_any A n c B lo 15 hO w hs hB
theorem best7 (A : Option Addr) (n c B : Nat) (lo : List Int) (hO : Often lo n 7) (w : World) (hs : Seen w B 1 A n c (iv lo)) (hB : B ≤ w.heap.size) :
    Calls Tryz.prog 54 #[.slice A n c, .int .i64 7] w (GivesRow w 3 1 n (iv (bestL lo 7))) := bestLengths_any A n c B lo 7 hO w hs hB
theorem trimmed257 (A : Option Addr) (n c B : Nat) (l : List Int) (hn : l.length = n) (h1 : 1 ≤ n) (h2 : n ≤ 1000) (w : World) (hs : Seen w B 1 A n c (iv l)) :
    Calls Tryz.prog 53 #[.slice A n c, .int .i64 257] w fun e w' => w = w' ∧ e = .returned (.slice A (trimN l 257 n) c) := trimmed_any A n c B l hn h1 h2 257 w hs
theorem trimmed1 (A : Option Addr) (n c B : Nat) (l : List Int) (hn : l.length = n) (h1 : 1 ≤ n) (h2 : n ≤ 1000) (w : World) (hs : Seen w B 1 A n c (iv l)) :
    Calls Tryz.prog 53 #[.slice A n c, .int .i64 1] w fun e w' => w = w' ∧ e = .returned (.slice A (trimN l 1 n) c) := trimmed_any A n c B l hn h1 h2 1 w hs
theorem trimmed4 (A : Option Addr) (n c B : Nat) (l : List Int) (hn : l.length = n) (h1 : 1 ≤ n) (h2 : n ≤ 1000) (w : World) (hs : Seen w B 1 A n c (iv l)) :
    Calls Tryz.prog 53 #[.slice A n c, .int .i64 4] w fun e w' => w = w' ∧ e = .returned (.slice A (trimN l 4 n) c) := trimmed_any A n c B l hn h1 h2 4 w hs
/-- dynamicBlock's answer. -/
def DynBlk (F : Nat → Int) (w : World) (e : Ending) (w' : World) : Prop :=
  ∃ A1 c1 A2 c2 g3 g4, e = .returned (.agg (blkC F A1 (sgN F) c1 A2 (dsN F) c2 (.func (.func 55) #[] #[.pointer (some ⟨g3, 0, none⟩), .pointer (some ⟨g4, 0, none⟩)]))) ∧
    (∃ lo, w'.ownsRow lo 3 1 (.slice A1 286 c1) 286 (iv (sgB F))) ∧ (∃ lo, w'.ownsRow lo 3 1 (.slice A2 30 c2) 30 (iv (dsB F))) ∧ Whole w' g3 54 #[.slice A1 (sgN F) c1] ∧ Whole w' g4 54 #[.slice A2 (dsN F) c2] ∧ Below w.heap.size w w'
theorem built65' (F : Nat → Int) (A1 : Option Addr) (n1 c1 : Nat) (A2 : Option Addr) (n2 c2 : Nat) (K : Value) (hK : ∃ k ts q, K = .func (.func k) ts q) :
    Tryz.prog.built 65 [(0, .agg (rz 317 F)), (1, .slice A1 n1 c1), (2, .slice A2 n2 c2), (3, K)] = some (blkC F A1 n1 c1 A2 n2 c2 K) := by
  obtain ⟨k, ts, q, rfl⟩ := hK
  exact built65 F A1 n1 c1 A2 n2 c2 k ts q
set_option maxHeartbeats 2000000 in
theorem dynamicBlock_any (F : Nat → Int) (hF : ∀ i, 0 ≤ F i ∧ F i ≤ 65536) (w : World) : Calls Tryz.prog 32 #[.agg (rz 317 F)] w (DynBlk F w) := by
  have HI59 := Lib.hid (fun f => show (Tryz.prog.info? 60).map (·.size) = some (rz 317 f).size by rw [rz_size]; exact (zero_of_info row59).2)
  have HI65 := Lib.hid (fun F A1 n1 c1 A2 n2 c2 K => show (Tryz.prog.info? 65).map (·.size) = some (blkC F A1 n1 c1 A2 n2 c2 K).size by rw [blkC_size]; exact row65)
  have hzs : Hid (Tryz.zeroCells65.size = 320) := Lib.hid (by kernel_rfl)
  have O1 : Hid (Often (sgC F) 286 15) := Lib.hid ⟨by simp [sgC], by omega, by omega, by omega, by omega, by omega, by intro x hx; obtain ⟨i, _, rfl⟩ := List.mem_map.1 hx; exact hF _⟩
  have O2 : Hid (Often (dsC F) 30 15) := Lib.hid ⟨by simp [dsC], by omega, by omega, by omega, by omega, by omega, by intro x hx; obtain ⟨i, _, rfl⟩ := List.mem_map.1 hx; exact hF _⟩
  have W1 : Hid (Whole ((w.alloc (.cells (rz 317 F) 60)).alloc (.cells Tryz.zeroCells65 65)) w.heap.size 60 (rz 317 F)) := Lib.hid ((Whole.new w 60 _).alloc _)
  have W2 : Hid (Whole ((w.alloc (.cells (rz 317 F) 60)).alloc (.cells Tryz.zeroCells65 65)) (w.heap.size + 1) 65 Tryz.zeroCells65) := Lib.hid (by
    have := Whole.new (w.alloc (.cells (rz 317 F) 60)) 65 Tryz.zeroCells65
    simpa using this)
  have B1 : Hid (Below w.heap.size w ((w.alloc (.cells (rz 317 F) 60)).alloc (.cells Tryz.zeroCells65 65))) := Lib.hid (((Below.refl _ _).alloc (Nat.le_refl _) _).alloc (by simp) _)
  have SZ : Hid (((w.alloc (.cells (rz 317 F) 60)).alloc (.cells Tryz.zeroCells65 65)).heap.size = w.heap.size + 2) := Lib.hid (by simp)
  clear hF
  go_enter Tryz.func32, Tryz.ntmps32
  go_wp2_with fail
  generalize (w.alloc (.cells (rz 317 F) 60)).alloc (.cells Tryz.zeroCells65 65) = W at *
  have CB1 := Lib.hid (best15 (some ⟨w.heap.size, 0, none⟩) 286 286 (w.heap.size + 1) (sgC F) O1.out W (by have := seen_rzo W1.out 0 286 (by omega); exact this) (by rw [SZ.out]; omega))
  refine CB1.out.mono ?_
  rintro e w3 ⟨v3, rfl, hown3, hb3⟩
  obtain ⟨A1, c1, rfl, _, hs3⟩ := own_seen hown3
  have CT1 := Lib.hid (trimmed257 A1 286 c1 _ (sgB F) (sgB_length F) (by omega) (by omega) w3 hs3)
  have hN1 := trimN_le (sgB F) 257 286
  have HO3 : Hid (w3.ownsRow W.heap.size 3 1 (.slice A1 286 c1) 286 (iv (sgB F))) := Lib.hid hown3
  have V1 := Lib.hid (W1.out.only (Only.of_below hb3 Nob) (fun h => h)); have V2 := Lib.hid (W2.out.only (Only.of_below hb3 Nob) (fun h => h))
  have B3 := Lib.hid (B1.out.trans (hb3.mono B1.out.size))
  clear hown3 hb3 hs3 CB1 W1 W2 B1
  go_wp2_with fail
  refine CT1.out.mono ?_
  rintro e w4 ⟨rfl, rfl⟩
  have hB4 : Below w3.heap.size w3 (w3.alloc (.cells #[.slice A1 (sgN F) c1] 54)) := (Below.refl _ _).alloc (Nat.le_refl _) _
  have G3 := Lib.hid (Whole.new w3 54 #[.slice A1 (sgN F) c1])
  have HO4 := Lib.hid (own_only HO3.out (Only.of_below hB4 Nob) (fun _ _ h => h))
  have X1 := Lib.hid (V1.out.only (Only.of_below hB4 Nob) (fun h => h)); have X2 := Lib.hid (V2.out.only (Only.of_below hB4 Nob) (fun h => h))
  have B4 := Lib.hid (B3.out.trans (hB4.mono B3.out.size))
  obtain ⟨g3, hg3⟩ : ∃ g3, w3.heap.size = g3 := ⟨_, rfl⟩
  rw [hg3] at G3
  have hsg : trimN (sgB F) 257 286 = sgN F := rfl
  rw [hsg] at hN1 ⊢
  clear hB4 CT1 V1 V2 B3 HO3 hsg
  have SZ4 : Hid (w.heap.size + 1 ≤ (w3.alloc (.cells #[.slice A1 (sgN F) c1] 54)).heap.size) := Lib.hid (by have := X2.out.lt; omega)
  have CB2 := Lib.hid (best15 (some ⟨w.heap.size, 286, none⟩) 30 30 (w.heap.size + 1) (dsC F) O2.out (w3.alloc (.cells #[.slice A1 (sgN F) c1] 54)) (by have := seen_rzo X1.out 286 30 (by omega); exact this) SZ4.out)
  go_wp2_with fail
  clear hg3
  generalize w3.alloc (.cells #[.slice A1 (sgN F) c1] 54) = w5 at *
  refine CB2.out.mono ?_
  rintro e w6 ⟨v6, rfl, hown6, hb6⟩
  obtain ⟨A2, c2, rfl, _, hs6⟩ := own_seen hown6
  have CT2 := Lib.hid (trimmed1 A2 30 c2 _ (dsB F) (dsB_length F) (by omega) (by omega) w6 hs6)
  have hN2 := trimN_le (dsB F) 1 30
  have HO6 : Hid (w6.ownsRow w5.heap.size 3 1 (.slice A2 30 c2) 30 (iv (dsB F))) := Lib.hid hown6
  have HOa := Lib.hid (own_only HO4.out (Only.of_below hb6 Nob) (fun _ _ h => h))
  have V1 := Lib.hid (X1.out.only (Only.of_below hb6 Nob) (fun h => h)); have V2 := Lib.hid (X2.out.only (Only.of_below hb6 Nob) (fun h => h))
  have G3a := Lib.hid (G3.out.only (Only.of_below hb6 Nob) (fun h => h))
  have B6 := Lib.hid (B4.out.trans (hb6.mono B4.out.size))
  clear hown6 hb6 hs6 CB2 X1 X2 B4 HO4 G3
  go_wp2_with fail
  refine CT2.out.mono ?_
  rintro e w7 ⟨rfl, rfl⟩
  have hB8 : Below w6.heap.size w6 (w6.alloc (.cells #[.slice A2 (dsN F) c2] 54)) := (Below.refl _ _).alloc (Nat.le_refl _) _
  have G4 := Lib.hid (Whole.new w6 54 #[.slice A2 (dsN F) c2])
  have G3b := Lib.hid (G3a.out.only (Only.of_below hB8 Nob) (fun h => h))
  have HO8 := Lib.hid (own_only HO6.out (Only.of_below hB8 Nob) (fun _ _ h => h))
  have HOb := Lib.hid (own_only HOa.out (Only.of_below hB8 Nob) (fun _ _ h => h))
  have X1 := Lib.hid (V1.out.only (Only.of_below hB8 Nob) (fun h => h)); have X2 := Lib.hid (V2.out.only (Only.of_below hB8 Nob) (fun h => h))
  have B8 := Lib.hid (B6.out.trans (hB8.mono B6.out.size))
  obtain ⟨g4, hg4⟩ : ∃ g4, w6.heap.size = g4 := ⟨_, rfl⟩
  rw [hg4] at G4
  have hds : trimN (dsB F) 1 30 = dsN F := rfl
  rw [hds] at hN2 ⊢
  have hlt3 := G3a.out.lt
  have hne34 : g3 ≠ g4 := by omega
  clear hB8 CT2 V1 V2 B6 HO6 HOa G3a hds hlt3
  have p3 : (w6.alloc (.cells #[.slice A2 (dsN F) c2] 54)).cell? ⟨g3, 0, none⟩ = some (.slice A1 (sgN F) c1) := G3b.out.cell 0
  have p4 : (w6.alloc (.cells #[.slice A2 (dsN F) c2] 54)).cell? ⟨g4, 0, none⟩ = some (.slice A2 (dsN F) c2) := G4.out.cell 0
  obtain ⟨K, hK⟩ : ∃ K, Value.func (.func 55) #[] #[.pointer (some ⟨g3, 0, none⟩), .pointer (some ⟨g4, 0, none⟩)] = K := ⟨_, rfl⟩
  have hKK : ∃ k ts q, K = .func (.func k) ts q := ⟨_, _, _, hK.symm⟩
  obtain ⟨C, hC⟩ : ∃ C, blkC F A1 (sgN F) c1 A2 (dsN F) c2 K = C := ⟨_, rfl⟩
  have hb65 := built65' F A1 (sgN F) c1 A2 (dsN F) c2 K hKK
  have hcs := HI65.out F A1 (sgN F) c1 A2 (dsN F) c2 K
  have hc1 := blkC_one F A1 (sgN F) c1 A2 (dsN F) c2 K (by rw [← hK]; rfl)
  have hc2 := blkC_size F A1 (sgN F) c1 A2 (dsN F) c2 K
  rw [hC] at hb65 hcs hc1 hc2
  obtain ⟨R, hR⟩ : ∃ R, rz 317 F = R := ⟨_, rfl⟩
  have hrs := HI59.out F
  rw [hR] at hb65 X1 hrs ⊢
  rw [← hK] at hb65
  have HB65 := Lib.hid hb65; have HCS := Lib.hid hcs; have HC1 := Lib.hid hc1; have HC2 := Lib.hid hc2; have HCC := Lib.hid hC; have HRS := Lib.hid hrs; have HKE := Lib.hid hK
  clear hb65 hcs hc1 hc2 hC hR hrs hK hKK
  go_wp2_with (first
    | (refine wpList_load_row rfl 60 (.tmp 1) rfl w.heap.size rfl 60 R (0, 0) _ X1.out Tryz.underlying60 rfl HRS.out ?_)
    | (refine wpList_buildTo rfl 65 _ rfl (some 17) rfl C ?hf ?_; case hf => simpa [Act.eval] using HB65.out)
    | (refine wpList_store_row rfl 65 (.tmp 2) (.tmp 17) rfl (w.heap.size + 1) C rfl rfl 65 Tryz.zeroCells65 X2.out HCS.out (by rw [hzs.out, HC2.out]) HC1.out ?_))
  have q3 := G3b.out.lt
  refine bodyPost_ret (v := .agg C) (results_cell_row (p := 2) (ty := 65) rfl _ _ (w.heap.size + 1) 65 C (0, 0) _ rfl (X2.out.setRow _) Tryz.underlying65 rfl HCS.out) rfl ⟨A1, c1, A2, c2, g3, g4, by rw [← HCC.out, HKE.out], ?_, ?_, G3b.out.setRow_far _ (G3b.out.ne X2.out (by decide)), G4.out.setRow_far _ (G4.out.ne X2.out (by decide)), below_setRow B8.out _ (by omega)⟩
  · exact ⟨_, own_only HOb.out (only_setRow _ _ _) (fun j hj e => own_ne_whole HOb.out X2.out (by decide) j hj e)⟩
  · exact ⟨_, own_only HO8.out (only_setRow _ _ _) (fun j hj e => own_ne_whole HO8.out X2.out (by decide) j hj e)⟩
end Go.Proofs.YtkjhefjjacokjaaGreat

namespace Go.Proofs.YtkjhefjjacokjaaGreat
open Go.RowKit
set_option maxRecDepth 100000
theorem zeroCells_one (z : Value) (m : Nat) : Builtin.zeroCells #[z] m = (List.replicate m z).toArray := by
  apply Array.ext
  · simp [Builtin.zeroCells]
  · intro i h1 h2
    simp [Builtin.zeroCells, Nat.mod_one]
theorem own_newP (w : World) {base : Nat} {e : TypeId} {n cap : Nat} {cs : Array Value} {xs : List Value} (hb : base ≤ w.heap.size) (hx : xs.length = n) (hn : n ≤ cap) (hc : cap ≤ maxLen) (hs : cs.size = cap) (ht : cs.toList.take n = xs) :
    (w.alloc (.cells cs e)).ownsRow base e 1 (.slice (some ⟨w.heap.size, 0, none⟩) n cap) n xs :=
  ⟨by omega, .inr ⟨w.heap.size, cap, cs, rfl, hb, Whole.new w e cs, hn, hc, by omega, by simpa using ht⟩⟩
theorem grown_drewP (w : World) (o : Obj) (row : Option Nat) : w.grownBy (w.drew.alloc o) row :=
  ⟨rfl, rfl, rfl, by simp, fun k hk _ => Below.heap_alloc w.drew o k hk⟩
theorem own_cutP {w : World} {base : Nat} {e : TypeId} {g n cap : Nat} {xs : List Value} (h : w.ownsRow base e 1 (.slice (some ⟨g, 0, none⟩) n cap) n xs) (k : Nat) (hk : k ≤ n) : w.ownsRow base e 1 (.slice (some ⟨g, 0, none⟩) k cap) k (xs.take k) := by
  have hl := h.1
  rcases h.2 with ⟨hv, _⟩ | ⟨g', cap', cur, hv, hbg, hg, hnc, hcm, hcs, ht⟩
  · cases hv
  · injection hv with h1 h2 h3
    injection h1 with h1
    injection h1 with h1
    subst h1 h3
    refine ⟨by simp at hl ⊢; omega, .inr ⟨g, cap, cur, rfl, hbg, hg, by omega, hcm, hcs, ?_⟩⟩
    rw [← ht, List.take_take]
    congr 1
    omega
section
variable {P : Program} (w : World)
theorem run_nil_noughts (base : Nat) (t it ty e : TypeId) (i : TypeInfo) (z : Value) (ht : P.underlying t = some (.slice e)) (hit : P.underlying it = some (.int .i64)) (hi : P.info? e = some i) (hz : i.zero = some z)
    (hsize : i.size = 1) (hby : i.bytes = 8) (hzc : z.cells = #[z]) (m : Nat) (hm : 0 < m) (hM : m ≤ 1000000) (hbase : base ≤ w.heap.size) :
    ∃ cap w', (Builtin.append_ #[t, it] ty #[.slice none 0 0, .int .i64 m]).run P w = .ok (.slice (some ⟨w.heap.size, 0, none⟩) m cap) w' ∧ m ≤ cap ∧ w'.ownsRow base e 1 (.slice (some ⟨w.heap.size, 0, none⟩) m cap) m (List.replicate m z) ∧ w.grownBy w' none := by
  have hw : IntKind.i64.wrap (m : Int) = m := IntWalk.i64_in _ (by omega)
  have hm0 : ¬ ((m : Int) < 0) := by omega
  have hm48' : ¬ (281474976710656 < (m : Int) * 8) := by omega
  have hmz : ¬ m = 0 := by omega
  have hzl := zeroCells_one z
  have made : ∀ K, m ≤ K → K ≤ maxLen → (w.drew.alloc (.cells (Array.replicate m z ++ Array.replicate (K - m) z) e)).ownsRow base e 1 (.slice (some ⟨w.heap.size, 0, none⟩) m K) m (List.replicate m z) := by
    intro K h1 h2
    refine own_newP w.drew hbase (by simp) h1 h2 (by simp; omega) ?_
    simp
  have h63 : m ≤ maxLen := by unfold maxLen; omega
  have h63' : ¬ (9223372036854775807 < (m : Int)) := by omega
  have h48' : ¬ (281474976710656 < Builtin.nextslicecap m 0 * 8) := by rw [nextslicecap_zero hm]; omega
  refine ⟨grownCap w m 0 e, _, ?_, grownCap_ge w m 0 e, made (grownCap w m 0 e) (grownCap_ge w m 0 e) (grownCap_le_maxLen w m 0 e h63), grown_drewP w _ _⟩
  simp [Builtin.append_, run_underlying ht, run_underlying hit, sizeOf, typeInfo, zeroValue, hi, hz, hsize, hby, hw, hm0, hm48', hmz, asInt, asIntOf, h63', h48', Question.forced, run_firstCells_none, newRow, grownCap, hzc, hzl]
theorem wpList_nil_noughts {ops : Array Oper} {rest : List Oper} {o : Oper} {a : Act} {Q : Exit → Act → World → Prop} (hgd : o.guard = none) (s x : Operand) (t it : TypeId)
    (ho : o.op = .call { callee := .builtin .append, args := #[s, x], argTypes := #[t, it] })
    (base : Nat) (e : TypeId) (i : TypeInfo) (z : Value) (ht : P.underlying t = some (.slice e)) (hit : P.underlying it = some (.int .i64)) (hi : P.info? e = some i) (hz : i.zero = some z)
    (hsize : i.size = 1) (hby : i.bytes = 8) (hzc : z.cells = #[z]) (hs : a.eval s = .slice none 0 0) (m : Nat) (hx : a.eval x = .int .i64 m) (hm : 0 < m) (hM : m ≤ 1000000) (hbase : base ≤ w.heap.size)
    (h : ∀ cap w', m ≤ cap → w'.ownsRow base e 1 (.slice (some ⟨w.heap.size, 0, none⟩) m cap) m (List.replicate m z) → w.grownBy w' none → wpList P ops Q rest (a.put o.dst (.slice (some ⟨w.heap.size, 0, none⟩) m cap)) w') : wpList P ops Q (o :: rest) a w := by
  refine wpList_plain hgd fun K hK => ?_
  obtain ⟨cap, w', hrun, h2, h3, h4⟩ := run_nil_noughts (P := P) w base t it o.type e i z ht hit hi hz hsize hby hzc m hm hM hbase
  unfold Oper.wp
  simp [execOp, ho, resolve, invoke, builtin, hs, hx, hrun, Result.andThen]
  exact hK _ _ (h cap w' h2 h3 h4)
end

theorem grow_any (m : Nat) (hm : 0 < m) (hM : m ≤ 1000000) (w : World) : Calls Tryz.prog 99 #[.slice none 0 0, .int .i64 m] w (GivesRow w 3 1 0 []) := by
  obtain ⟨i0, hi0, hz0, hz1, hz2⟩ := info_parts int_info
  have d1 : decide ((m : Int) < 0) = false := decide_eq_false (by omega)
  have d2 : decide ((0 : Int) < m) = true := decide_eq_true (by omega)
  have d2' : decide (0 < m) = true := decide_eq_true hm
  go_enter Tryz.func99, Tryz.ntmps99
  go_wp2_with (at_builtin; refine wpList_nil_noughts _ rfl (.tmp 20) (.tmp 21) _ _ rfl w.heap.size 3 i0 _ Tryz.underlying54 Tryz.underlying3 hi0 hz0 hz1 hz2 rfl rfl m rfl hm hM (Nat.le_refl _) ?_; intro cap w1 hcap hown hg)
  go_ret
  refine ⟨_, rfl, ?_, (Below.refl _ _).grown hg (Nat.le_refl _) (by simp)⟩
  simpa using own_cutP hown 0 (Nat.zero_le _)
theorem ivs_one (l : List Int) : ∀ u ∈ iv l, u.oneCell' = true := by
  intro u hu
  obtain ⟨_, _, rfl⟩ := List.mem_map.1 hu
  rfl
set_option maxHeartbeats 2000000 in
theorem concat_any (g : Nat) (A1 : Option Addr) (n1 c1 : Nat) (A2 : Option Addr) (n2 c2 B : Nat) (x y : List Int) (hx : x.length = n1) (hy : y.length = n2) (h1 : 0 < n1) (h2 : n1 ≤ 1000) (h3 : n2 ≤ 1000) (w : World)
    (hg : Whole w g 54 #[.slice A1 n1 c1, .slice A2 n2 c2]) (hsx : Seen w B 1 A1 n1 c1 (iv x)) (hsy : Seen w B 1 A2 n2 c2 (iv y)) (hB : B ≤ w.heap.size) :
    Calls Tryz.prog 78 #[.slice (some ⟨g, 0, none⟩) 2 2] w (GivesRow w 3 1 (n1 + n2) (iv (x ++ y))) := by
  obtain ⟨i0, hi0, hz0, hz1, hz2⟩ := info_parts int_info
  have hlt := hg.lt
  have q0 : w.cell? ⟨g, 0, none⟩ = some (.slice A1 n1 c1) := hg.cell 0
  have q1 : w.cell? ⟨g, 1, none⟩ = some (.slice A2 n2 c2) := hg.cell 1
  have HG := Lib.hid hg; have SX := Lib.hid hsx; have SY := Lib.hid hsy; have HX := Lib.hid hx; have HY := Lib.hid hy
  obtain ⟨m, hm⟩ : ∃ m, n1 + n2 = m := ⟨_, rfl⟩
  have em : (n1 : Int) + n2 = m := by omega
  have wm : IntKind.i64.wrap (m : Int) = m := IntWalk.i64_in _ (by omega)
  have CG := Lib.hid (grow_any m (by omega) (by omega) w)
  have dn : decide ((n1 : Int) < 0) = false := decide_eq_false (by omega)
  have dm : decide ((m : Int) < 0) = false := decide_eq_false (by omega)
  have HM := Lib.hid hm
  rw [hm]
  clear hg hsx hsy hx hy hm
  go_enter Tryz.func78, Tryz.ntmps78
  go_wp2_with fail
  go_loopw [3, 11] (fun s i wr => w = wr ∧ ((s = .int .i64 0 ∧ i = .int .i64 0) ∨ (s = .int .i64 n1 ∧ i = .int .i64 1) ∨ (s = .int .i64 m ∧ i = .int .i64 2))) (fun _ i _ => 2 - (intOf i).toNat)
  case atStart => exact ⟨rfl, .inl ⟨rfl, rfl⟩⟩
  case round =>
    obtain ⟨rfl, ⟨rfl, rfl⟩ | ⟨rfl, rfl⟩ | ⟨rfl, rfl⟩⟩ := hrel
    · go_wp2_with fail
      go_roundw
      case rel => exact ⟨by trivial, .inr (.inl ⟨by first | rfl | simp, rfl⟩)⟩
      case measure => simp [intOf]
    · go_wp2_with fail
      go_roundw
      case rel => exact ⟨by trivial, .inr (.inr ⟨by first | rfl | simp, rfl⟩)⟩
      case measure => simp [intOf]
    · go_wp2_with fail
      refine CG.out.mono ?_
      rintro e w1 ⟨v1, rfl, hown1, hb1⟩
      have HO1 := Lib.hid hown1; have B1 := Lib.hid hb1
      have HG1 := Lib.hid (HG.out.only (Only.of_below hb1 Nob) (fun h => h))
      clear hown1 hb1 q0 q1
      go_wp2_with fail
      go_loopw [6, 27] (fun v i wr => ∃ (k n : Nat) (z : List Int), i = .int .i64 k ∧ ((k = 0 ∧ n = 0 ∧ z = []) ∨ (k = 1 ∧ n = n1 ∧ z = x) ∨ (k = 2 ∧ n = m ∧ z = x ++ y)) ∧ Hid (wr.ownsRow w.heap.size 3 1 v n (iv z) ∧ Below w.heap.size w wr ∧ Whole wr g 54 #[.slice A1 n1 c1, .slice A2 n2 c2])) (fun _ i _ => 2 - (intOf i).toNat)
      case atStart => exact ⟨0, 0, [], rfl, .inl ⟨rfl, rfl, rfl⟩, Lib.hid ⟨HO1.out, B1.out, HG1.out⟩⟩
      case round =>
        obtain ⟨k, n, z, rfl, hk, h⟩ := hrel
        obtain ⟨hown, hbel, hG⟩ := h.out
        obtain ⟨Ao, co, rfl, _⟩ := own_form hown
        have p0 : wr.cell? ⟨g, 0, none⟩ = some (.slice A1 n1 c1) := hG.cell 0
        have p1 : wr.cell? ⟨g, 1, none⟩ = some (.slice A2 n2 c2) := hG.cell 1
        have HO := Lib.hid hown; have HB := Lib.hid hbel; have HGG := Lib.hid hG
        have SXr := Lib.hid (SX.out.below (hbel.mono hB)); have SYr := Lib.hid (SY.out.below (hbel.mono hB))
        clear h hown hbel hG
        rcases hk with ⟨rfl, rfl, rfl⟩ | ⟨rfl, rfl, rfl⟩ | ⟨rfl, rfl, rfl⟩
        · go_wp2_with (at_builtin; refine wpList_append_seen _ rfl (.tmp 31) (.tmp 32) _ rfl w.heap.size 3 i0 _ 1 8 Tryz.underlying54 hi0 hz0 hz1 hz2 rfl (by omega) (.slice Ao 0 co) 0 [] rfl HO.out _ A1 n1 c1 (iv x) rfl SXr.out (ivs_one _) (by simp only [maxLen]; omega) (by omega) (HB.out.size) ?_; intro v2 w2 hown2 hg2 hat2; have F2 := Lib.hid (And.intro hown2 (And.intro (HB.out.grown hg2 HB.out.size (fun j hj => (own_whole HO.out hj).1)) (HGG.out.grown hg2 (fun e => own_ne_whole HO.out HGG.out (by decide) _ e.symm rfl)))); clear hown2 hg2 hat2)
          go_roundw
          case rel => exact ⟨1, n1, x, rfl, .inr (.inl ⟨rfl, rfl, rfl⟩), Lib.hid ⟨by simpa using F2.out.1, F2.out.2.1, F2.out.2.2⟩⟩
          case measure => simp [intOf]
        · go_wp2_with (at_builtin; refine wpList_append_seen _ rfl (.tmp 31) (.tmp 32) _ rfl w.heap.size 3 i0 _ 1 8 Tryz.underlying54 hi0 hz0 hz1 hz2 rfl (by omega) (.slice Ao n co) n (iv z) rfl HO.out _ A2 n2 c2 (iv y) rfl SYr.out (ivs_one _) (by simp only [maxLen]; omega) (by omega) (HB.out.size) ?_; intro v2 w2 hown2 hg2 hat2; have F2 := Lib.hid (And.intro hown2 (And.intro (HB.out.grown hg2 HB.out.size (fun j hj => (own_whole HO.out hj).1)) (HGG.out.grown hg2 (fun e => own_ne_whole HO.out HGG.out (by decide) _ e.symm rfl)))); clear hown2 hg2 hat2)
          go_roundw
          case rel => exact ⟨2, m, z ++ y, rfl, .inr (.inr ⟨rfl, rfl, rfl⟩), Lib.hid ⟨by rw [← HM.out]; unfold iv; rw [List.map_append]; exact F2.out.1, F2.out.2.1, F2.out.2.2⟩⟩
          case measure => simp [intOf]
        · go_wp2_with fail
          go_ret
          exact ⟨_, rfl, HO.out, HB.out⟩
end Go.Proofs.YtkjhefjjacokjaaGreat
