/-
  Contracts of lengths: Best. Conditions: as many signs as the sorts serve.
-/
import Derived.Test.YtijjcecboepiiaaK5
namespace Go.Proofs.Ytijjcecboepiiaa
open Go.Proofs Go.Shelf Go.RowKit Go.Sort Go.Lib

/-- How many signs come. -/
def come (lo : List Int) : Nat := (cm lo lo.length).length
/-- Why there are no lengths. -/
def errOf (lo : List Int) (most : Int) : Nat := if most < 1 ∨ 15 < most ∨ lo.any beyond = true then 1 else if 2 ^ most.toNat < come lo ∨ 512 < lo.length then 4 else 0
def order {N : Nat} (S : Sorter N) (lo : List Int) : List Nat := S.sI lo (cm lo lo.length)
/-- How many single ones are taken of each row. -/
def csOf {N : Nat} (S : Sorter N) (lo : List Int) (L : Nat) : List Nat :=
  if come lo = 0 then [] else if come lo = 1 then [1] else cut (tops S (wsOf lo (order S lo)) (L - 1)) (2 * come lo - 2)
def bestF {N : Nat} (S : Sorter N) (lo : List Int) (L : Nat) (s : Nat) : Nat := lenOf (order S lo) (csOf S lo L) s

theorem cm_nodup (lo : List Int) (k : Nat) : (cm lo k).Nodup := List.Pairwise.filter _ List.nodup_range
theorem cm_pos (lo : List Int) (k : Nat) : ∀ s ∈ cm lo k, 0 < lo.getD s 0 := by
  intro s hs
  have := (List.mem_filter.1 hs).2
  simpa using this
structure OrderOk {N : Nat} (S : Sorter N) (lo : List Int) : Prop where
  perm : (order S lo).Perm (cm lo lo.length)
  len : (order S lo).length = come lo
  nodup : (order S lo).Nodup
  lt : ∀ s ∈ order S lo, s < lo.length
  sorted : SortedN (wsOf lo (order S lo))
  pos : ∀ x ∈ wsOf lo (order S lo), 0 < x
  most : lo.any beyond = false → ∀ x ∈ wsOf lo (order S lo), x ≤ 16777216
theorem order_ok {N : Nat} (S : Sorter N) (lo : List Int) (hN : lo.length ≤ N) : OrderOk S lo := by
  have hl := cm_len lo lo.length
  have hp := S.permI lo (cm lo lo.length) (cm_mem lo lo.length) (by omega)
  have hlt : ∀ s ∈ order S lo, s < lo.length := fun s hs => cm_mem lo _ s (hp.1.mem_iff.1 hs)
  have hps : ∀ s ∈ order S lo, 0 < lo.getD s 0 := fun s hs => cm_pos lo _ s (hp.1.mem_iff.1 hs)
  refine ⟨hp.1, hp.1.length_eq, hp.1.nodup_iff.2 (cm_nodup lo _), hlt, ?_, ?_, ?_⟩
  · unfold SortedN wsOf
    rw [List.pairwise_map]
    exact hp.2.imp fun {a b} h => by omega
  · intro x hx
    simp only [wsOf, List.mem_map] at hx
    obtain ⟨s, hs, rfl⟩ := hx
    have := hps s hs
    omega
  · intro hb x hx
    simp only [wsOf, List.mem_map] at hx
    obtain ⟨s, hs, rfl⟩ := hx
    have h1 := hlt s hs
    have h2 : beyond lo[s] = false := by
      rw [List.any_eq_false] at hb
      have := hb _ (List.getElem_mem h1)
      simpa using this
    have h3 : lo.getD s 0 = lo[s] := by simp [List.getD, h1]
    rw [h3]
    simp [beyond] at h2
    omega

def BestOk {N : Nat} (S : Sorter N) (w : World) (lo : List Int) (L n : Nat) (e : Ending) (w' : World) : Prop :=
  ∃ v, e = .returned (.tuple #[v, .int .i64 0]) ∧ w'.ownsRow w.heap.size 3 1 v n (orow n (bestF S lo L)) ∧ Below w.heap.size w w'
def BestBad (w : World) (er : Nat) (e : Ending) (w' : World) : Prop := e = .returned (.tuple #[.slice none 0 0, .int .i64 (er : Nat)]) ∧ Below w.heap.size w w'

theorem best_arg (A : Option Addr) (n c B : Nat) (lo : List Int) (hn : lo.length = n) (hl : n ≤ 1000) (most : Int) (w : World) (hs : Seen w B 1 A n c (iv lo)) (he : most < 1 ∨ 15 < most ∨ lo.any beyond = true) :
    Calls Try.prog 13 #[.slice A n c, .int .i64 most] w (BestBad w 1) := by
  have HC := Lib.hid (contains_any A n c B lo hn hl w hs)
  clear hs
  by_cases h1 : most < 1
  · have d1 : decide (most < 1) = true := by simpa using h1
    clear he
    go_enter Try.func13, Try.ntmps13
    go_wp2_with fail
    go_ret2
    exact ⟨rfl, Below.refl _ _⟩
  · have d1 : decide (most < 1) = false := by simpa using h1
    by_cases h2 : 15 < most
    · have d2 : decide (15 < most) = true := by simpa using h2
      clear he
      go_enter Try.func13, Try.ntmps13
      go_wp2_with fail
      go_ret2
      exact ⟨rfl, Below.refl _ _⟩
    · have d2 : decide (15 < most) = false := by simpa using h2
      have h3 : lo.any beyond = true := by simpa [h1, h2] using he
      rw [h3] at HC
      clear he h3
      go_enter Try.func13, Try.ntmps13
      go_wp2_with (go_at_call 33; refine HC.out.mono ?_; rintro e w1 ⟨rfl, rfl⟩)
      go_ret2
      exact ⟨rfl, Below.refl _ _⟩

set_option maxRecDepth 100000 in
set_option maxHeartbeats 1000000 in
theorem best_many {N : Nat} (S : Sorter N) (A : Option Addr) (n c B : Nat) (lo : List Int) (hn : lo.length = n) (hl : n ≤ N) (hN : N ≤ 100000) (hl1 : n ≤ 1000) (L : Nat) (hL1 : 1 ≤ L) (hL : L ≤ 15) (hb : lo.any beyond = false) (hx : 2 ^ L < come lo ∨ 512 < n) (w : World) (hs : Seen w B 1 A n c (iv lo)) (hB : B ≤ w.heap.size) :
    Calls Try.prog 13 #[.slice A n c, .int .i64 L] w (BestBad w 4) := by
  have HC := Lib.hid (contains_any A n c B lo hn hl1 w hs)
  rw [hb] at HC
  have HR := Lib.hid (rare_any S A n c B lo hn hl hN w hs hB)
  clear hs
  have hcl := cm_len lo lo.length
  rw [hn] at hcl
  have HM : Hid ((cm lo lo.length).length = come lo) := Lib.hid rfl
  rw [← hn, HM.out] at hcl
  obtain ⟨m, hm⟩ : ∃ m, come lo = m := ⟨_, rfl⟩
  rw [hm] at hx HM hcl
  have HN := Lib.hid hn; clear hn hb hm
  have d1 : decide ((L : Int) < 1) = false := by simp; omega
  have d2 : decide ((15 : Int) < L) = false := by simp; omega
  have hP := pow_le15 hL
  have ep : (((2 ^ L : Nat) : Int)) = 2 ^ L := by simp
  obtain ⟨P, hPe⟩ : ∃ P, 2 ^ L = P := ⟨_, rfl⟩
  rw [hPe] at hx hP ep
  clear hPe
  go_enter Try.func13, Try.ntmps13
  go_wp2_with (first
    | (go_at_call 33; refine HC.out.mono ?_; rintro e w1 ⟨rfl, rfl⟩)
    | (go_at_call 35; refine HR.out.mono ?_; rintro e w1 ⟨v1, rfl, ho1, hb1⟩; rw [HM.out] at ho1; obtain ⟨A1, c1, rfl, _, hs1⟩ := own_seen ho1; have B1 := Lib.hid hb1; clear ho1 hs1 hb1))
  all_goals
    go_ret2
    exact ⟨rfl, B1.out⟩

set_option maxRecDepth 100000 in
set_option maxHeartbeats 2000000 in
theorem best_ok {N : Nat} (S : Sorter N) (A : Option Addr) (n c B : Nat) (lo : List Int) (hn : lo.length = n) (hl : n ≤ N) (hN : N ≤ 100000) (hl1 : n ≤ 512) (hN2 : 2 * n ≤ N) (L : Nat) (hL1 : 1 ≤ L) (hL : L ≤ 15) (hb : lo.any beyond = false) (hx : come lo ≤ 2 ^ L) (w : World) (hs : Seen w B 1 A n c (iv lo)) (hB : B ≤ w.heap.size) :
    Calls Try.prog 13 #[.slice A n c, .int .i64 L] w (BestOk S w lo L n) := by
  obtain ⟨i0, hi0, hz0, hz1, hz2⟩ := info_parts int_info
  have HZ0 := Lib.hid hz0; clear hz0
  have HZ1 := Lib.hid hz1; clear hz1
  have HZ2 := Lib.hid hz2; clear hz2
  have HI0 := Lib.hid hi0; clear hi0
  have HC := Lib.hid (contains_any A n c B lo hn (by omega) w hs)
  rw [hb] at HC
  have HR := Lib.hid (rare_any S A n c B lo hn hl hN w hs hB)
  have HOk := Lib.hid (order_ok S lo (by omega))
  have HS := Lib.hid hs; clear hs
  have hcl := cm_len lo lo.length
  rw [hn] at hcl
  have HM : Hid ((cm lo lo.length).length = come lo) := Lib.hid rfl
  rw [← hn, HM.out, hn] at hcl
  obtain ⟨m, hm⟩ : ∃ m, come lo = m := ⟨_, rfl⟩
  have HCm := Lib.hid hm
  rw [hm] at hx HM hcl
  have hM := HOk.out.most hb
  have HMo := Lib.hid hM; clear hM
  have HNn : Hid (∀ x ∈ lo, 0 ≤ x) := Lib.hid (by
    intro x hx
    rw [List.any_eq_false] at hb
    have := hb x hx
    simp [beyond] at this
    omega)
  have HN := Lib.hid hn; clear hn hb hm
  have d1 : decide ((L : Int) < 1) = false := by simp; omega
  have d2 : decide ((15 : Int) < L) = false := by simp; omega
  have hP := pow_le15 hL
  have ep : (((2 ^ L : Nat) : Int)) = 2 ^ L := by simp
  have HX := Lib.hid hx
  obtain ⟨P, hPe⟩ : ∃ P, 2 ^ L = P := ⟨_, rfl⟩
  rw [hPe] at hx hP ep
  clear hPe
  have dn : decide ((512 : Int) < n) = false := by simp; omega
  -- the answer
  have HRes : Hid (∀ v w' f, (∀ s, s < n → f s = bestF S lo L s) → w'.ownsRow w.heap.size 3 1 v n (orow n f) → Below w.heap.size w w' → BestOk S w lo L n (.returned (.tuple #[v, .int .i64 0])) w') := Lib.hid (by
    intro v w' f hf h1 h2
    refine ⟨v, rfl, ?_, h2⟩
    have e : orow n (bestF S lo L) = orow n f := mr_ext _ _ _ fun i hi => by rw [hf i hi]
    rw [e]; exact h1)
  go_enter Try.func13, Try.ntmps13
  by_cases hm0 : m = 0
  · subst hm0
    go_wp2_with (first
      | (go_at_call 33; refine HC.out.mono ?_; rintro e w1 ⟨rfl, rfl⟩)
      | (go_at_call 35; refine HR.out.mono ?_; rintro e w1 ⟨v1, rfl, ho1, hb1⟩; rw [HM.out] at ho1; obtain ⟨A1, c1, rfl, _, hs1⟩ := own_seen ho1; have B1 := Lib.hid hb1; clear ho1 hs1 hb1)
      | (refine wpList_make_full _ rfl (.tmp 31) (.tmp 31) 22 rfl w.heap.size 3 i0 _ 1 Try.underlying22 HI0.out HZ0.out HZ1.out .i64 .i64 n n n rfl rfl rfl rfl (by rw [HZ2.out]; omega) (by simp [maxLen]; omega) (by have := B1.out.size; omega) ?_; intro w3 hown hg3; have HO3 := Lib.hid hown; have HG3 := Lib.hid hg3; clear hown hg3))
    go_ret2
    refine HRes.out _ _ (fun _ => 0) ?_ ?_ (B1.out.grown HG3.out B1.out.size (by simp))
    · intro s _
      unfold bestF csOf
      rw [HCm.out, if_pos rfl]
      simp [lenOf, lenAt]
    · have h : w3.ownsRow w.heap.size 3 1 (.slice (some ⟨w1.heap.size, 0, none⟩) n n) n (madeCells #[.int .i64 0] (n * 1)).toList := HO3.out
      rw [mr_made] at h
      exact h
  by_cases hm1 : m = 1
  · subst hm1
    have hol : (order S lo).length = 1 := by rw [HOk.out.len, HCm.out]
    obtain ⟨s0, hs0⟩ : ∃ s0, order S lo = [s0] := List.length_eq_one_iff.1 hol
    have hlt := HOk.out.lt s0 (by rw [hs0]; simp)
    rw [HN.out] at hlt
    have HSo : Hid (S.sI lo (cm lo lo.length) = [s0]) := Lib.hid hs0
    have HSo2 := Lib.hid hs0
    clear hs0 hol
    go_wp2_with (first
      | (go_at_call 33; refine HC.out.mono ?_; rintro e w1 ⟨rfl, rfl⟩)
      | (go_at_call 35; refine HR.out.mono ?_; rintro e w1 ⟨v1, rfl, ho1, hb1⟩; rw [HM.out, HSo.out] at ho1; obtain ⟨A1, c1, rfl, _, hs1⟩ := own_seen ho1; have B1 := Lib.hid hb1; have S1 := Lib.hid hs1; clear ho1 hs1 hb1)
      | (refine wpList_make_full _ rfl (.tmp 31) (.tmp 31) 22 rfl w.heap.size 3 i0 _ 1 Try.underlying22 HI0.out HZ0.out HZ1.out .i64 .i64 n n n rfl rfl rfl rfl (by rw [HZ2.out]; omega) (by simp [maxLen]; omega) (by have := B1.out.size; omega) ?_; intro w3 hown hg3; have HO3 := Lib.hid hown; have HG3 := Lib.hid hg3; obtain ⟨b5, o5, u5, rfl, hb5, q5, x5⟩ := (S1.out.below ((Below.refl _ _).grown hg3 (Nat.le_refl _) (by simp))).at (k := 0) (by omega); have hu5 : u5 = .int .i64 (s0 : Nat) := (by simpa [sv'] using q5.symm); subst hu5; obtain ⟨y5, z5, _⟩ := own_cell hown (i := s0) (u := .int .i64 0) (by show ((madeCells #[.int .i64 0] (n * 1)).toList)[s0]? = _; rw [mr_made]; exact mr_get _ _ _ hlt); simp only [Nat.add_zero] at x5; clear hown hg3 q5))
    go_ret2
    have hgw := (B1.out.size)
    refine HRes.out _ _ (fun s => if s = s0 then 1 else 0) ?_ ?_ ((B1.out.grown HG3.out B1.out.size (by simp)).setCell hgw _)
    · intro s _
      unfold bestF csOf
      rw [HCm.out, if_neg (show ¬ (1 : Nat) = 0 by omega), if_pos rfl, HSo2.out]
      by_cases h : s = s0
      · subst h; simp [lenOf, lenAt]
      · simp [lenOf, h]
    · have h0 : w3.ownsRow w.heap.size 3 1 (.slice (some ⟨w1.heap.size, 0, none⟩) n n) n (madeCells #[.int .i64 0] (n * 1)).toList := HO3.out
      have h := own_put h0 s0 (.int .i64 (1 : Nat))
      rw [mr_made, mr_set] at h
      have e : (mr n fun i => if i = s0 then Value.int .i64 ((1 : Nat) : Int) else Value.int .i64 0) = orow n (fun s => if s = s0 then 1 else 0) := mr_ext _ _ _ fun i _ => by
        by_cases h : i = s0 <;> simp [h]
      rw [e] at h
      exact h
  · have hm2 : 2 ≤ m := by omega
    have HE : Hid (S.sI lo (cm lo lo.length) = order S lo) := Lib.hid rfl
    have HOL : Hid ((order S lo).length = m) := Lib.hid (by rw [HOk.out.len, HCm.out])
    have dm : ((m : Int) == 1) = false := by simp; omega
    have dm' : (m == 1) = false := by simp; omega
    have CP : Hid (∀ (A1 : Option Addr) (c1 : Nat) (W : World), Seen W W.heap.size 1 A n c (iv lo) → Seen W W.heap.size 1 A1 m c1 (sv' (order S lo)) → Calls Try.prog 37 #[.slice A n c, .slice A1 m c1, .int .i64 L] W (PackRes S W (wsOf lo (order S lo)) L)) := Lib.hid (by
      intro A1 c1 W h1 h2
      exact packRows_any S A A1 n c m c1 W.heap.size L lo (order S lo) HN.out HOL.out hN (by omega) (by omega) (by rw [← HN.out]; exact HOk.out.lt) HMo.out HNn.out hL1 hL W h1 h2 (Nat.le_refl _))
    have HWL : Hid ((wsOf lo (order S lo)).length = m) := Lib.hid (by simp [wsOf, HOL.out])
    go_wp2_with (first
      | (go_at_call 33; refine HC.out.mono ?_; rintro e w1 ⟨rfl, rfl⟩)
      | (go_at_call 35; refine HR.out.mono ?_; rintro e w1 ⟨v1, rfl, ho1, hb1⟩; rw [HM.out, HE.out] at ho1; obtain ⟨A1, c1, rfl, _, hs1⟩ := own_seen ho1; have B1 := Lib.hid hb1; have S1 := Lib.hid hs1; clear ho1 hs1 hb1)
      | (refine wpList_make_full _ rfl (.tmp 31) (.tmp 31) 22 rfl w.heap.size 3 i0 _ 1 Try.underlying22 HI0.out HZ0.out HZ1.out .i64 .i64 n n n rfl rfl rfl rfl (by rw [HZ2.out]; omega) (by simp [maxLen]; omega) (by have := B1.out.size; omega) ?_; intro w3 hown hg3; have HO3 := Lib.hid hown; have HG3 := Lib.hid hg3; clear hown hg3))
    have hz1 := B1.out.size
    have B13 : Hid (Below w1.heap.size w1 w3) := Lib.hid ((Below.refl _ _).grown HG3.out (Nat.le_refl _) (by simp))
    have B3 : Hid (Below w.heap.size w w3) := Lib.hid (B1.out.trans (B13.out.mono hz1))
    have hz3 := B3.out.size
    have hz13 := B13.out.size
    refine (CP.out A1 c1 w3 ((HS.out.below (B3.out.mono hB)).more (by omega)) ((S1.out.below B13.out).more hz13)).mono ?_
    rintro e w4 ⟨v4, vs4, rfl, hvl, ho4, hr4, hb4⟩
    have HR4 : Hid (RowsOk S (wsOf lo (order S lo)) L w3.heap.size v4 vs4 w4) := Lib.hid ⟨hvl, ho4, hr4⟩
    have B14 : Hid (Below w1.heap.size w1 w4) := Lib.hid (B13.out.trans (hb4.mono hz13))
    have B4 : Hid (Below w.heap.size w w4) := Lib.hid (B1.out.trans (B14.out.mono hz1))
    have HO4 : Hid (w4.ownsRow w.heap.size 3 1 (.slice (some ⟨w1.heap.size, 0, none⟩) n n) n (orow n fun _ => 0)) := Lib.hid (by
      have h : w3.ownsRow w.heap.size 3 1 (.slice (some ⟨w1.heap.size, 0, none⟩) n n) n (madeCells #[.int .i64 0] (n * 1)).toList := HO3.out
      rw [mr_made] at h
      exact own_only h (Only.of_below hb4 Nob) (fun _ _ h => h))
    have CL := Lib.hid (lengthen_any S (wsOf lo (order S lo)) (order S lo) (by rw [HWL.out, HOL.out]) HOk.out.sorted HOk.out.pos (by rw [HWL.out]; omega) HMo.out HOk.out.nodup m n L HOL.out hm2 (by omega) hL1 hL HX.out (by rw [← HN.out]; exact HOk.out.lt) A1 c1 w1.heap.size w3.heap.size w.heap.size w1.heap.size v4 vs4 w4 (Nat.le_refl _) B14.out.size (S1.out.below B14.out) HR4.out HO4.out)
    clear hvl ho4 hr4 hb4
    go_wp2_with (go_at_call 36; refine CL.out.mono ?_; rintro e w5 ⟨rfl, ho5, hO5⟩; have HO5 := Lib.hid ho5; have HOn := Lib.hid hO5; clear ho5 hO5)
    go_ret2
    refine HRes.out _ _ _ ?_ HO5.out (B4.out.trans (HOn.out.below B4.out.size (by intro k hk; have : k = w1.heap.size := hk; omega)))
    intro s _
    unfold bestF csOf
    rw [HCm.out, if_neg hm0, if_neg hm1]
end Go.Proofs.Ytijjcecboepiiaa
