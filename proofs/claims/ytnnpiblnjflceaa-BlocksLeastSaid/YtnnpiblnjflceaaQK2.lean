/-
  Contracts of lengths: isBeyond, rarestFirst. Conditions: as many signs as the sorts serve.
-/
import Derived.Test.YtnnpiblnjflceaaQG2
import Derived.Test.YtnnpiblnjflceaaW3
namespace Go.Proofs.Ytnnpiblnjflceaa
open Go.Proofs Go.Shelf Go.RowKit Go.Sort Go.Lib
set_option maxRecDepth 100000

/-- May a number be? -/
def beyond (x : Int) : Bool := decide (x < 0 ∨ 16777216 < x)
theorem isBeyond_any (x : Int) (w : World) : Calls Try.prog 69 #[.int .i64 x] w fun e w' => e = .returned (.bool (beyond x)) ∧ w = w' := by
  by_cases h0 : x < 0
  · have e : beyond x = true := by simp [beyond, h0]
    rw [e]
    have d0 : decide (x < 0) = true := by simpa using h0
    clear e
    go_enter Try.func69, Try.ntmps69
    go_wp2
    go_ret
    exact ⟨rfl, rfl⟩
  · have d0 : decide (x < 0) = false := by simpa using h0
    by_cases h1 : 16777216 < x
    · have e : beyond x = true := by simp [beyond, h1]
      rw [e]
      have d1 : decide (16777216 < x) = true := by simpa using h1
      clear e
      go_enter Try.func69, Try.ntmps69
      go_wp2
      go_ret
      exact ⟨rfl, rfl⟩
    · have e : beyond x = false := by simp [beyond]; omega
      rw [e]
      have d1 : decide (16777216 < x) = false := by simpa using h1
      clear e
      go_enter Try.func69, Try.ntmps69
      go_wp2
      go_ret
      exact ⟨rfl, rfl⟩

/-- The place of the first one that may not be, or -1. -/
theorem indexFunc_any (A : Option Addr) (n c B : Nat) (l : List Int) (hn : l.length = n) (hl : n ≤ 1000) (w : World) (hs : Seen w B 1 A n c (iv l)) :
    Calls Try.prog 83 #[.slice A n c, .func (.func 69) #[] #[]] w fun e w' => (∃ r : Int, e = .returned (.int .i64 r) ∧ decide (0 ≤ r) = l.any beyond) ∧ w = w' := by
  have HS := Lib.hid hs; clear hs
  have HN := Lib.hid hn; clear hn
  go_enter Try.func83, Try.ntmps83
  go_wp2
  go_loop [5, 8] (fun _ i => ∃ k : Nat, k ≤ n ∧ i = .int .i64 k ∧ (l.take k).any beyond = false) (fun _ i => n - (intOf i).toNat)
  case atStart => exact ⟨0, by omega, rfl, rfl⟩
  case round =>
    obtain ⟨k, hk, rfl, hno⟩ := hrel
    have HNo := Lib.hid hno; clear hno
    by_cases hlt : k < n
    · obtain ⟨b, o, rfl, _, hc⟩ := HS.out.int HN.out hlt
      have hkl : k < l.length := by rw [HN.out]; exact hlt
      have E1 : Hid ((l.take (k + 1)).any beyond = beyond l[k]) := Lib.hid (by rw [take_snoc l k hkl, List.any_append, HNo.out]; simp)
      have E2 : Hid (beyond l[k] = true → l.any beyond = true) := Lib.hid fun h => List.any_eq_true.2 ⟨_, List.getElem_mem hkl, h⟩
      obtain ⟨x, hx⟩ : ∃ x, l[k] = x := ⟨_, rfl⟩
      rw [hx] at hc E1 E2
      clear hx
      have CB := Lib.hid (isBeyond_any x)
      cases hb : beyond x with
      | true =>
        have HT := Lib.hid (E2.out hb)
        rw [hb] at CB
        clear hb E1 E2
        go_wp2_with (go_at_call 69; refine (CB.out _).mono ?_; rintro e w1 ⟨rfl, rfl⟩)
        go_ret
        exact ⟨⟨k, rfl, by rw [HT.out]; simp⟩, rfl⟩
      | false =>
        rw [hb] at CB E1
        clear hb E2
        go_wp2_with (go_at_call 69; refine (CB.out _).mono ?_; rintro e w1 ⟨rfl, rfl⟩)
        go_round
        case rel => exact ⟨k + 1, by omega, by go_num, E1.out⟩
        case measure => simp [intOf]; omega
    · have HA : Hid (l.any beyond = false) := Lib.hid (by have h := HNo.out; rwa [List.take_of_length_le (by rw [HN.out]; omega)] at h)
      go_wp2
      go_ret
      exact ⟨⟨-1, rfl, by rw [HA.out]; rfl⟩, rfl⟩
theorem contains_any (A : Option Addr) (n c B : Nat) (l : List Int) (hn : l.length = n) (hl : n ≤ 1000) (w : World) (hs : Seen w B 1 A n c (iv l)) :
    Calls Try.prog 68 #[.slice A n c, .func (.func 69) #[] #[]] w fun e w' => e = .returned (.bool (l.any beyond)) ∧ w = w' := by
  have HC := Lib.hid (indexFunc_any A n c B l hn hl w hs)
  clear hs
  generalize l.any beyond = r at HC ⊢
  go_enter Try.func68, Try.ntmps68
  go_wp2_with (go_at_call 83; refine HC.out.mono ?_; rintro e w1 ⟨⟨q, rfl, hq⟩, rfl⟩)
  go_ret
  exact ⟨rfl, rfl⟩

/-- The signs that come, of the first k. -/
def cm (lo : List Int) (k : Nat) : List Nat := (List.range k).filter fun i => decide (0 < lo.getD i 0)
theorem cm_succ (lo : List Int) (k : Nat) : cm lo (k + 1) = cm lo k ++ if 0 < lo.getD k 0 then [k] else [] := by
  unfold cm
  rw [List.range_succ, List.filter_append]
  congr 1
  by_cases h : 0 < lo.getD k 0
  · rw [if_pos h, List.filter_cons_of_pos (by simpa using h)]; rfl
  · rw [if_neg h, List.filter_cons_of_neg (by simpa using h)]; rfl
theorem cm_len (lo : List Int) (k : Nat) : (cm lo k).length ≤ k := by
  unfold cm
  have := List.length_filter_le (fun i => decide (0 < lo.getD i 0)) (List.range k)
  simpa using this
theorem cm_mem (lo : List Int) (k : Nat) : ∀ s ∈ cm lo k, s < k := by
  intro s hs
  exact List.mem_range.1 (List.mem_filter.1 hs).1

theorem ins_empty (A : Option Addr) (cap : Nat) (fv : Value) (w : World) : Calls Try.prog 97 #[.slice A 0 cap, .int .i64 0, .int .i64 0, fv] w fun e w' => e = .returned (.tuple #[]) ∧ w = w' := by
  go_enter Try.func97, Try.ntmps97
  go_wp2_with fail
  refine wp_loop_rounds 1 ?_
  rw [rounds_succ]
  go_wp2_with fail
  go_end0
  exact ⟨rfl, rfl⟩
theorem stab_empty (A : Option Addr) (cap : Nat) (fv : Value) (w : World) : Calls Try.prog 92 #[.slice A 0 cap, .int .i64 0, fv] w fun e w' => e = .returned (.tuple #[]) ∧ w = w' := by
  go_enter Try.func92, Try.ntmps92
  go_wp2_with fail
  refine wp_loop_rounds 1 ?_
  rw [rounds_succ]
  go_wp2_with (go_at_call 97; refine (ins_empty _ _ _ _).mono ?_; rintro e w1 ⟨rfl, rfl⟩)
  refine wp_loop_rounds 1 ?_
  rw [rounds_succ]
  go_wp2_with fail
  go_end0
  exact ⟨rfl, rfl⟩
theorem sortI_empty (A : Option Addr) (cap : Nat) (fv : Value) (w : World) : Calls Try.prog 84 #[.slice A 0 cap, fv] w fun e w' => e = .returned (.tuple #[]) ∧ w = w' := by
  go_enter Try.func84, Try.ntmps84
  go_wp2_with (go_at_call 92; refine (stab_empty _ _ _ _).mono ?_; rintro e w1 ⟨rfl, rfl⟩)
  go_end0
  exact ⟨rfl, rfl⟩

def RareRes {N : Nat} (S : Sorter N) (w : World) (lo : List Int) (e : Ending) (w' : World) : Prop :=
  ∃ v, e = .returned v ∧ w'.ownsRow w.heap.size 3 1 v (cm lo lo.length).length (sv' (S.sI lo (cm lo lo.length))) ∧ Below w.heap.size w w'
def RareIn (w : World) (lo : List Int) (A : Option Addr) (n c k : Nat) (v : Value) (wr : World) : Prop :=
  wr.cell? ⟨w.heap.size, 0, none⟩ = some (.slice A n c) ∧ wr.ownsRow (w.heap.size + 1) 3 1 v (cm lo k).length (sv' (cm lo k)) ∧ Below w.heap.size w wr ∧ w.heap.size < wr.heap.size

set_option maxRecDepth 10000 in
set_option maxHeartbeats 1000000 in
theorem rare_any {N : Nat} (S : Sorter N) (A : Option Addr) (n c B : Nat) (lo : List Int) (hn : lo.length = n) (hl : n ≤ N) (hN : N ≤ 100000) (w : World) (hs : Seen w B 1 A n c (iv lo)) (hB : B ≤ w.heap.size) :
    Calls Try.prog 70 #[.slice A n c] w (RareRes S w lo) := by
  obtain ⟨i0, hi0, hz0, hz1, hz2⟩ := info_parts int_info
  have HZ0 := Lib.hid hz0; clear hz0
  have HZ1 := Lib.hid hz1; clear hz1
  have HZ2 := Lib.hid hz2; clear hz2
  have HI0 := Lib.hid hi0; clear hi0
  have HS := Lib.hid hs; clear hs
  have HN := Lib.hid hn; clear hn
  go_enter Try.func70, Try.ntmps70
  go_wp2_with fail
  have H0 : Hid (RareIn w lo A n c 0 (.slice (some ⟨w.heap.size + 1, 0, none⟩) 0 0) ((w.alloc (.cells #[.slice A n c] 62)).alloc (.cells #[] 3))) := Lib.hid (by
    refine ⟨?_, ?_, ((Below.refl _ _).alloc (Nat.le_refl _) _).alloc (by simp) _, by simp; omega⟩
    · exact ((Whole.new w 62 #[.slice A n c]).alloc (.cells #[] 3)).cell 0
    · have := World.ownsRow_made (w.alloc (.cells #[.slice A n c] 62)) #[] 0 (base := w.heap.size + 1) (e := 3) (size := 1) (by simp) (by simp [maxLen]) rfl
      simpa [cm, sv'] using this)
  obtain ⟨g1, hg1⟩ : ∃ g1, w.heap.size + 1 = g1 := ⟨_, rfl⟩
  rw [hg1] at H0 ⊢
  clear hg1
  go_loopw [3, 4, 5, 9] (fun v _ _ i wr => ∃ k : Nat, k ≤ n ∧ i = .int .i64 k ∧ RareIn w lo A n c k v wr) (fun _ _ _ i _ => n - (intOf i).toNat)
  case atStart => exact ⟨0, by omega, rfl, H0.out⟩
  case round =>
    clear H0
    obtain ⟨k, hk, rfl, hbx, hown, hbel, hsz⟩ := hrel
    have HBX := Lib.hid hbx; clear hbx
    have HO := Lib.hid hown; clear hown
    have HB := Lib.hid hbel; clear hbel
    have hcl := cm_len lo k
    by_cases hlt : k < n
    · obtain ⟨b, o, rfl, hbB, hc⟩ := (HS.out.below (HB.out.mono hB)).int HN.out hlt
      have hkl : k < lo.length := by rw [HN.out]; exact hlt
      have E : Hid (cm lo (k + 1) = cm lo k ++ if 0 < lo[k] then [k] else []) := Lib.hid (by rw [cm_succ]; simp [List.getD, hkl])
      obtain ⟨x, hx⟩ : ∃ x, lo[k] = x := ⟨_, rfl⟩
      rw [hx] at hc E
      clear hx hkl
      by_cases h0 : 0 < x
      · have d0 : decide (0 < x) = true := by simpa using h0
        rw [if_pos h0] at E
        have hAp : ∀ (v7 : Value) (w7 : World), w7.ownsRow (w.heap.size + 1) 3 1 v7 ((cm lo k).length + 1) (sv' (cm lo k) ++ [.int .i64 (k : Int)]) → (wr.alloc (.cells #[.int .i64 (k : Int)] 3)).grownBy w7 u3.ownBlock → RareIn w lo (some ⟨b, o, none⟩) n c (k + 1) v7 w7 := by
          intro v7 w7 hown7 hg7
          have hne : ∀ i, u3.ownBlock = some i → w.heap.size + 1 ≤ i := fun i hi => (own_whole HO.out hi).1
          refine ⟨?_, ?_, (HB.out.alloc HB.out.size _).grown hg7 (by simp; omega) (fun i hi => by have := hne i hi; omega), by have := hg7.size; simp at this; omega⟩
          · have h1 := (Below.alloc (Below.refl wr.heap.size wr) (Nat.le_refl _) (.cells #[.int .i64 (k : Int)] 3)).cell (p := ⟨w.heap.size, 0, none⟩) hsz
            have h2 := hg7.block w.heap.size (by simp; omega) (fun e => by have := hne _ e.symm; omega)
            have h3 : w7.cell? ⟨w.heap.size, 0, none⟩ = (wr.alloc (.cells #[.int .i64 (k : Int)] 3)).cell? ⟨w.heap.size, 0, none⟩ := by
              simp only [World.cell?, h2]
            rw [h3, h1]; exact HBX.out
          · rw [E.out]
            have e : sv' (cm lo k ++ [k]) = sv' (cm lo k) ++ [.int .i64 (k : Int)] := by simp [sv']
            rw [e, List.length_append]
            exact hown7
        have HAp := Lib.hid hAp; clear hAp
        go_wp2_with (at_builtin; refine wpList_append_seen _ rfl (.tmp 16) (.tmp 18) _ rfl (w.heap.size + 1) 3 i0 _ 1 8 Try.underlying62 HI0.out HZ0.out HZ1.out HZ2.out rfl (by omega) u3 (cm lo k).length _ rfl (HO.out.alloc _) _ _ 1 1 _ rfl (seen_one _ _ _) (by simp [Value.oneCell']) (by simp only [maxLen]; omega) (by omega) (by simp only [World.size_alloc]; omega) ?_; intro v7 w7 hown7 hg7 hat7; have HR := Lib.hid (HAp.out v7 w7 hown7 hg7); clear hown7 hg7 hat7)
        go_roundw
        case rel => exact ⟨k + 1, by omega, by go_num, HR.out⟩
        case measure => simp [intOf]; omega
      · have d0 : decide (0 < x) = false := by simpa using h0
        rw [if_neg h0, List.append_nil] at E
        go_wp2
        go_roundw
        case rel => exact ⟨k + 1, by omega, by go_num, HBX.out, by rw [E.out]; exact HO.out, HB.out, hsz⟩
        case measure => simp [intOf]; omega
    · obtain rfl : k = n := by omega
      have hmem := cm_mem lo k
      have hm : (cm lo k).length ≤ N := by omega
      have HRes : Hid (∀ v w', w'.ownsRow w.heap.size 3 1 v (cm lo k).length (sv' (S.sI lo (cm lo k))) → Below w.heap.size w w' → RareRes S w lo (.returned v) w') := Lib.hid (by
        intro v w' h1 h2
        refine ⟨v, rfl, ?_, h2⟩
        rw [HN.out]; exact h1)
      have hperm := S.permI lo (cm lo k) (by rw [HN.out]; exact hmem) hm
      by_cases h0 : (cm lo k).length = 0
      · have hnil : cm lo k = [] := List.eq_nil_of_length_eq_zero h0
        have hs0 : S.sI lo (cm lo k) = [] := List.eq_nil_of_length_eq_zero (by rw [hperm.1.length_eq, h0])
        obtain ⟨A9, c9, rfl, _⟩ := own_form HO.out
        have H2 : Hid (∀ w', wr = w' → RareRes S w lo (.returned (.slice A9 (cm lo k).length c9)) w') := Lib.hid (by
          rintro w' rfl
          refine HRes.out _ _ ?_ HB.out
          have := own_base HO.out (Nat.le_succ _)
          rw [hs0]
          rwa [hnil] at this ⊢)
        rw [h0] at H2 ⊢
        clear hperm hnil hs0 hmem h0 HRes
        go_wp2_with (go_at_call 84; refine (sortI_empty _ _ _ _).mono ?_; rintro e w1 ⟨rfl, rfl⟩)
        go_ret
        exact H2.out _ rfl
      · obtain ⟨g, cap, rfl, hcap, _⟩ := own_pos HO.out (by omega)
        have hk0 : 0 < k := by omega
        obtain ⟨b, o, rfl, hbB, _⟩ := (HS.out.below (HB.out.mono hB)).int HN.out hk0
        have hg := (own_whole HO.out (k := g) rfl).1
        have HC := Lib.hid (S.callI lo k w.heap.size b o c HN.out (w.heap.size + 1) g cap (cm lo k) wr hmem (by omega) hm HBX.out (by
          intro i hi
          obtain ⟨b', o', hA, _, hc'⟩ := (HS.out.below (HB.out.mono hB)).int HN.out (k := i) (by rw [← HN.out]; exact hi)
          injection hA with hA
          injection hA with h1 h2
          subst h1 h2
          exact hc') (by omega) (by omega) HO.out)
        clear hperm hmem HO
        go_wp2_with (go_at_call 84; refine HC.out.mono ?_; rintro e w1 ⟨rfl, ho1, hO1⟩; have HO1 := Lib.hid ho1; have HO2 := Lib.hid hO1; clear ho1 hO1)
        go_ret
        exact HRes.out _ _ (own_base HO1.out (Nat.le_succ _)) (HB.out.trans (HO2.out.below HB.out.size (by intro q hq; have : q = g := hq; omega)))
end Go.Proofs.Ytnnpiblnjflceaa
