/-
  Contracts of wrong, told and the document's same. Conditions: each theorem names its own.
-/
import Derived.Test.YtnobeghnljjidaaC
namespace Go.Proofs.Ytnobeghnljjidaa
open Go.RowKit
set_option maxRecDepth 100000

theorem told_any (s : Int) (A : Option Addr) (n c B : Nat) (o : List Int) (hn : o.length = n) (hl : n ≤ 1000) (h0 : s = 16 → 0 < n) (w : World) (hs : Seen w B 1 A n c (iv o)) :
    Calls Try.prog 15 #[.int .i64 s, .slice A n c] w fun e w' => e = .returned (.int .i64 (toldR s o)) ∧ w = w' := by
  obtain ⟨r, hr⟩ : ∃ r, toldR s o = r := ⟨_, rfl⟩
  rw [hr]
  unfold toldR at hr
  have HS := Lib.hid hs; clear hs
  by_cases h16 : s = 16
  · subst h16
    have hpos := h0 rfl
    rw [if_pos rfl, hn] at hr
    obtain ⟨m, rfl⟩ : ∃ m, n = m + 1 := ⟨n - 1, by omega⟩
    obtain ⟨b, o', rfl, hb, hc⟩ := HS.out.int hn (show m < m + 1 by omega)
    have e : o[m]'(by omega) = r := by rw [← hr]; simp [List.getD, hn]
    rw [e] at hc
    clear hr e h0
    go_enter Try.func15, Try.ntmps15
    go_wp2
    go_ret
    exact ⟨rfl, rfl⟩
  · rw [if_neg h16] at hr
    clear h0
    go_enter Try.func15, Try.ntmps15
    go_wp2
    all_goals go_ret
    all_goals exact ⟨ret_int (by simp_all), rfl⟩

theorem same_any (A A2 : Option Addr) (n c n2 c2 B : Nat) (o o2 : List Int) (hn : o.length = n) (hn2 : o2.length = n2) (hl : n ≤ 1000) (hl2 : n2 ≤ 1000) (w : World) (hB : B ≤ w.heap.size) (hs : Seen w B 1 A n c (iv o)) (hs2 : Seen w B 1 A2 n2 c2 (iv o2)) :
    Calls Try.prog 12 #[.slice A n c, .slice A2 n2 c2] w fun e w' => e = .returned (.bool (decide (o = o2))) ∧ Below w.heap.size w w' := by
  have HS := Lib.hid hs; have HS2 := Lib.hid hs2; clear hs hs2
  by_cases hnn : n = n2
  · subst hnn
    have dn : decide (n = n) = true := decide_eq_true rfl
    have HN := Lib.hid hn; have HN2 := Lib.hid hn2; clear hn hn2
    go_enter Try.func12, Try.ntmps12
    go_wp2_with fail
    go_loopw [13] (fun i wr => ∃ k : Nat, k ≤ n ∧ i = .int .i64 k ∧ Hid (∀ j, j < k → o[j]? = o2[j]?) ∧ Below w.heap.size w wr) (fun i _ => n - (intOf i).toNat)
    case atStart => exact ⟨0, Nat.zero_le _, rfl, Lib.hid (fun j hj => absurd hj (by omega)), Below.refl _ _⟩
    case round =>
      obtain ⟨k, hk, rfl, hall, hbel⟩ := hrel
      have HBEL := Lib.hid hbel; clear hbel
      by_cases hlt : k < n
      · obtain ⟨b1, o1, rfl, hb1, c1⟩ := (HS.out.only (Only.of_below HBEL.out Nob) hB (fun _ _ h => h)).int HN.out hlt
        obtain ⟨b2, o2', rfl, hb2, c2'⟩ := (HS2.out.only (Only.of_below HBEL.out Nob) hB (fun _ _ h => h)).int HN2.out hlt
        have e1 : o[k]? = some (o[k]'(by have := HN.out; omega)) := List.getElem?_eq_getElem _
        have e2 : o2[k]? = some (o2[k]'(by have := HN2.out; omega)) := List.getElem?_eq_getElem _
        obtain ⟨x, hx⟩ : ∃ x, o[k]'(by have := HN.out; omega) = x := ⟨_, rfl⟩
        obtain ⟨y, hy⟩ : ∃ y, o2[k]'(by have := HN2.out; omega) = y := ⟨_, rfl⟩
        rw [hx] at c1 e1
        rw [hy] at c2' e2
        have E1 := Lib.hid e1; have E2 := Lib.hid e2
        clear hx hy e1 e2
        have k0 : (0 : Int) ≤ k := by omega
        by_cases hxy : x = y
        · subst hxy
          have dx : (x != x) = false := by simp
          go_wp2_with fail
          go_quiet (fail)
          go_wp2_with fail
          go_roundw
          case rel => exact ⟨k + 1, by omega, by go_num, Lib.hid (fun j hj => by
            by_cases e : j = k
            · subst e; rw [E1.out, E2.out]
            · exact hall.out j (by omega)), below_drewN HBEL.out _⟩
          case measure => simp [intOf]; omega
        · have dx : (x != y) = true := by simpa using hxy
          have HE : Hid (decide (o = o2) = false) := Lib.hid (decide_eq_false (by
            rintro rfl
            rw [E1.out] at E2
            exact hxy (by injection E2.out)))
          clear hxy
          go_wp2_with fail
          go_quiet (fail)
          go_wp2_with fail
          go_ret
          exact ⟨by rw [HE.out]; rfl, below_drewN HBEL.out _⟩
      · obtain rfl : k = n := by omega
        have HE : Hid (decide (o = o2) = true) := Lib.hid (decide_eq_true (by
          apply List.ext_getElem?
          intro j
          by_cases hj : j < k
          · exact hall.out j hj
          · rw [List.getElem?_eq_none (by have := HN.out; omega), List.getElem?_eq_none (by have := HN2.out; omega)]))
        go_wp2_with fail
        go_ret
        exact ⟨by rw [HE.out]; rfl, HBEL.out⟩
  · have dn : (n == n2) = false := by simpa using hnn
    have dn' : ((n : Int) == n2) = false := by simp; omega
    have HE : Hid (decide (o = o2) = false) := Lib.hid (decide_eq_false (by rintro rfl; omega))
    clear hn hn2 hnn
    go_enter Try.func12, Try.ntmps12
    go_wp2
    go_ret
    exact ⟨by rw [HE.out]; rfl, Below.refl _ _⟩

theorem wrong_any (s m : Int) (n : Nat) (hl : n ≤ 1000) (w : World) :
    Calls Try.prog 14 #[.agg #[.int .i64 s, .int .i64 m], .int .i64 n] w (Gives w (.int .i64 (wrongR ⟨s, m⟩ n : Nat))) := by
  obtain ⟨r, hr⟩ : ∃ r, wrongR ⟨s, m⟩ n = r := ⟨_, rfl⟩
  rw [hr]
  unfold wrongR at hr
  have C1 := Lib.hid (fun W => right_any s m W)
  obtain ⟨R, hR⟩ : ∃ R, rightR ⟨s, m⟩ = R := ⟨_, rfl⟩
  rw [hR] at C1 hr
  simp only at hr
  cases R with
  | false =>
    rw [if_pos rfl] at hr
    subst hr
    clear hR
    go_enter Try.func14, Try.ntmps14
    go_wp2_with fail
    refine (C1.out _).mono ?_; rintro e w1 ⟨rfl, hb1⟩; have B1 := Lib.hid hb1; clear hb1
    go_wp2_with fail
    go_ret
    exact ⟨rfl, ((Below.refl _ _).alloc (Nat.le_refl _) _).trans (B1.out.mono (by simp))⟩
  | true =>
    rw [if_neg (by simp)] at hr
    have h4 := rightR_nums hR
    simp only at h4
    have h5 := leastR_pos s
    have h6 := roomR_pos s
    have hmm : 0 ≤ m ∧ m < 128 := by omega
    clear h4 h6 hR
    obtain ⟨t, ht⟩ : ∃ t, leastR s = t := ⟨_, rfl⟩
    rw [ht] at h5 hr
    have HT := Lib.hid ht
    clear ht
    by_cases h16 : s = 16
    · subst h16
      by_cases h0 : n = 0
      · subst h0
        rw [if_pos ⟨rfl, rfl⟩] at hr
        subst hr
        go_enter Try.func14, Try.ntmps14
        go_wp2_with fail
        refine (C1.out _).mono ?_; rintro e w1 ⟨rfl, hb1⟩; have B1 := Lib.hid hb1
        have k0 : w1.cell? ⟨w.heap.size, 0, none⟩ = some (.int .i64 16) := (hb1.cell (p := ⟨w.heap.size, 0, none⟩) (by simp)).trans ((Whole.new w 26 _).cell 0)
        clear hb1
        go_wp2_with fail
        go_ret
        exact ⟨rfl, ((Below.refl _ _).alloc (Nat.le_refl _) _).trans (B1.out.mono (by simp))⟩
      · rw [if_neg (by omega)] at hr
        have dn : ((n : Int) == 0) = false := by simpa using h0
        have dn' : (n == 0) = false := by simpa using h0
        by_cases hlg : 320 - (n : Int) < t + m
        · rw [if_pos hlg] at hr
          have dl : decide (320 - (n : Int) < t + m) = true := decide_eq_true hlg
          subst hr
          clear hlg h0
          go_enter Try.func14, Try.ntmps14
          go_wp2_with fail
          refine (C1.out _).mono ?_; rintro e w1 ⟨rfl, hb1⟩; have B1 := Lib.hid hb1
          have k0 : w1.cell? ⟨w.heap.size, 0, none⟩ = some (.int .i64 16) := (hb1.cell (p := ⟨w.heap.size, 0, none⟩) (by simp)).trans ((Whole.new w 26 _).cell 0)
          have k1 : w1.cell? ⟨w.heap.size, 1, none⟩ = some (.int .i64 m) := (hb1.cell (p := ⟨w.heap.size, 1, none⟩) (by simp)).trans ((Whole.new w 26 _).cell 1)
          clear hb1
          go_wp2_with fail
          go_quiet ((go_at_call 16; exact least_quiet 16 t HT.out _ _))
          go_wp2_with fail
          go_ret
          exact ⟨rfl, ((Below.refl _ _).alloc (Nat.le_refl _) _).trans ((below_drewN B1.out _).mono (by simp))⟩
        · rw [if_neg hlg] at hr
          have dl : decide (320 - (n : Int) < t + m) = false := decide_eq_false hlg
          subst hr
          clear hlg h0
          go_enter Try.func14, Try.ntmps14
          go_wp2_with fail
          refine (C1.out _).mono ?_; rintro e w1 ⟨rfl, hb1⟩; have B1 := Lib.hid hb1
          have k0 : w1.cell? ⟨w.heap.size, 0, none⟩ = some (.int .i64 16) := (hb1.cell (p := ⟨w.heap.size, 0, none⟩) (by simp)).trans ((Whole.new w 26 _).cell 0)
          have k1 : w1.cell? ⟨w.heap.size, 1, none⟩ = some (.int .i64 m) := (hb1.cell (p := ⟨w.heap.size, 1, none⟩) (by simp)).trans ((Whole.new w 26 _).cell 1)
          clear hb1
          go_wp2_with fail
          go_quiet ((go_at_call 16; exact least_quiet 16 t HT.out _ _))
          go_wp2_with fail
          go_ret
          exact ⟨rfl, ((Below.refl _ _).alloc (Nat.le_refl _) _).trans ((below_drewN B1.out _).mono (by simp))⟩
    · rw [if_neg (by omega)] at hr
      have d16 : (s == 16) = false := by simpa using h16
      by_cases hlg : 320 - (n : Int) < t + m
      · rw [if_pos hlg] at hr
        have dl : decide (320 - (n : Int) < t + m) = true := decide_eq_true hlg
        subst hr
        clear hlg h16
        go_enter Try.func14, Try.ntmps14
        go_wp2_with fail
        refine (C1.out _).mono ?_; rintro e w1 ⟨rfl, hb1⟩; have B1 := Lib.hid hb1
        have k0 : w1.cell? ⟨w.heap.size, 0, none⟩ = some (.int .i64 s) := (hb1.cell (p := ⟨w.heap.size, 0, none⟩) (by simp)).trans ((Whole.new w 26 _).cell 0)
        have k1 : w1.cell? ⟨w.heap.size, 1, none⟩ = some (.int .i64 m) := (hb1.cell (p := ⟨w.heap.size, 1, none⟩) (by simp)).trans ((Whole.new w 26 _).cell 1)
        clear hb1
        go_wp2_with fail
        go_quiet ((go_at_call 16; exact least_quiet s t HT.out _ _))
        go_wp2_with fail
        go_ret
        exact ⟨rfl, ((Below.refl _ _).alloc (Nat.le_refl _) _).trans ((below_drewN B1.out _).mono (by simp))⟩
      · rw [if_neg hlg] at hr
        have dl : decide (320 - (n : Int) < t + m) = false := decide_eq_false hlg
        subst hr
        clear hlg h16
        go_enter Try.func14, Try.ntmps14
        go_wp2_with fail
        refine (C1.out _).mono ?_; rintro e w1 ⟨rfl, hb1⟩; have B1 := Lib.hid hb1
        have k0 : w1.cell? ⟨w.heap.size, 0, none⟩ = some (.int .i64 s) := (hb1.cell (p := ⟨w.heap.size, 0, none⟩) (by simp)).trans ((Whole.new w 26 _).cell 0)
        have k1 : w1.cell? ⟨w.heap.size, 1, none⟩ = some (.int .i64 m) := (hb1.cell (p := ⟨w.heap.size, 1, none⟩) (by simp)).trans ((Whole.new w 26 _).cell 1)
        clear hb1
        go_wp2_with fail
        go_quiet ((go_at_call 16; exact least_quiet s t HT.out _ _))
        go_wp2_with fail
        go_ret
        exact ⟨rfl, ((Below.refl _ _).alloc (Nat.le_refl _) _).trans ((below_drewN B1.out _).mono (by simp))⟩
end Go.Proofs.Ytnobeghnljjidaa
