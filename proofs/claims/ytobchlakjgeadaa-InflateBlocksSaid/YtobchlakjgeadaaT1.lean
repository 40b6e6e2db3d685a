/-
  Contracts of the inflating's small functions: bits, signs, Length, Distance, room, added. Conditions: the state stands as told (StAt), its things are where they should be (Cx.Good).
-/
import Derived.Test.YtobchlakjgeadaaS
namespace Go.Proofs.Ytobchlakjgeadaa
open Go.RowKit
set_option maxRecDepth 100000

theorem getBits_any {c : Cx} (hg : c.Good) (ov p q : Value) (a : Nat) (o : List Nat) (n : Nat) (hn : n ≤ 32) (w : World) (h : StAt c w ov p q a o) :
    Calls Try.prog 35 #[.pointer (some ⟨c.gr, 0, none⟩), .int .i64 n] w fun e w' =>
      (∃ v : Nat, bitsAt c.L a n = .ok v ∧ v < 2 ^ n ∧ e = .returned (.tuple #[.int .u32 v, .int .i64 0]) ∧ StAt c w' ov p q (a + n) o ∧ Fr c.B0 w w') ∨
      (bitsAt c.L a n = .er 6 ∧ e = .returned (.tuple #[.int .u32 0, .int .i64 6]) ∧ StAt c w' ov p q a o ∧ Fr c.B0 w w') := by
  by_cases hl : a + n ≤ 8 * c.bs.length
  · refine (get_yes c.B0 c.gr c.rv c.bs a n w h.rd (by have := hg.long; omega) hg.bytes hn hl).mono ?_
    rintro e w' ⟨rfl, hr, ho⟩
    have hv := num_lt ((c.L.drop a).take n)
    rw [show ((c.L.drop a).take n).length = n by simp; omega] at hv
    exact .inl ⟨_, by unfold bitsAt; rw [if_pos (by simpa using hl)], hv, rfl, h.read hr ho hl⟩
  · refine (get_end c.B0 c.gr c.rv c.bs a n w h.rd (by have := hg.long; omega) h.place (by omega) (by have := h.place; omega)).mono ?_
    rintro e w' ⟨rfl, rfl⟩
    exact .inr ⟨by unfold bitsAt; rw [if_neg (by simpa using hl)], rfl, h.drew, (Fr.refl _ _).drew⟩

theorem getSign_any {c : Cx} (hg : c.Good) (ov p q : Value) (a : Nat) (o : List Nat) (lo g : Nat) (l : List Int) (n : Nat) (hn : l.length = n) (hl : n ≤ 1000) (hr : kindOf l ≠ 0) (w : World) (hc : CodeOwn w lo g l n) (h : StAt c w ov p q a o) :
    Calls Try.prog 61 #[.pointer (some ⟨g, 0, none⟩), .pointer (some ⟨c.gr, 0, none⟩)] w fun e w' =>
      (∃ j a' : Nat, signAt l c.L a = .ok (j, a') ∧ j < n ∧ a < a' ∧ a' ≤ 8 * c.bs.length ∧ e = .returned (.tuple #[.int .i64 j, .int .i64 0]) ∧ StAt c w' ov p q a' o ∧ Fr c.B0 w w') ∨
      (∃ er : Nat, 0 < er ∧ er < 100 ∧ signAt l c.L a = .er er ∧ e = .returned (.tuple #[.int .i64 0, .int .i64 er]) ∧ StAt c w' ov p q a o ∧ Fr c.B0 w w') := by
  refine (codeGet_any lo g l n hn hl hr c.B0 c.gr c.rv c.bs a w hc h.rd (by have := hg.long; omega) hg.bytes h.place).mono ?_
  rintro e w' ⟨j, er, m, hgot, rfl, hrd, ho⟩
  unfold CodeGot at hgot
  cases hLk : lookup l (c.L.drop a) with
  | found m' v =>
    rw [hLk] at hgot
    obtain ⟨h1, h2, h3, rfl, rfl⟩ := hgot
    obtain ⟨k1, k2, k3⟩ := signAt_found hr hLk h1 h2 h3
    have k4 : a + m ≤ 8 * c.bs.length := by have := h.place; simp at k3; omega
    exact .inl ⟨j, a + m, k1, by omega, by omega, k4, rfl, h.read hrd ho k4⟩
  | code =>
    rw [hLk] at hgot
    obtain ⟨rfl, rfl, rfl⟩ := hgot
    exact .inr ⟨12, by omega, by omega, by unfold signAt; rw [hLk], rfl, h.read hrd ho h.place⟩
  | fin =>
    rw [hLk] at hgot
    obtain ⟨rfl, rfl, rfl⟩ := hgot
    exact .inr ⟨6, by omega, by omega, by unfold signAt; rw [hLk], rfl, h.read hrd ho h.place⟩

/-- What Length and Distance answer. -/
def optV : Option (Nat × Nat) → Value
  | none => .tuple #[.int .i64 0, .int .i64 0, .bool false]
  | some (b, n) => .tuple #[.int .i64 b, .int .i64 n, .bool true]

theorem lenOf_bits (s b n : Nat) (h : lenOf s = some (b, n)) : n ≤ 5 ∧ b ≤ 258 := by
  unfold lenOf at h
  split at h
  · cases h
  · split at h
    · injection h with h; injection h with h1 h2; omega
    · split at h
      · injection h with h; injection h with h1 h2; omega
      · rename_i h1 h2 h3
        injection h with h; injection h with e1 e2
        have : ∀ d, d < 28 → 8 ≤ d → d / 4 - 1 ≤ 5 ∧ (4 + d % 4) * 2 ^ (d / 4 - 1) + 3 ≤ 258 := by decide
        have := this (s - 257) (by omega) (by omega)
        omega
theorem dstOf_bits (s b n : Nat) (h : dstOf s = some (b, n)) : n ≤ 13 ∧ b ≤ 24577 ∧ 1 ≤ b := by
  unfold dstOf at h
  split at h
  · cases h
  · split at h
    · injection h with h; injection h with h1 h2; omega
    · rename_i h1 h2
      injection h with h; injection h with e1 e2
      have : ∀ d, d < 30 → 4 ≤ d → d / 2 - 1 ≤ 13 ∧ (2 + d % 2) * 2 ^ (d / 2 - 1) + 1 ≤ 24577 := by decide
      have := this s (by omega) (by omega)
      omega

theorem length_any (s : Int) (w : World) : Calls Try.prog 12 #[.int .i64 s] w fun e w' => e = .returned (if s < 0 then optV none else optV (lenOf s.toNat)) ∧ w = w' := by
  by_cases h1 : s < 257 ∨ 285 < s
  · have e : (if s < 0 then optV none else optV (lenOf s.toNat)) = optV none := by
      split
      · rfl
      · unfold lenOf; rw [if_pos (by omega)]
    rw [e]
    clear e
    by_cases h2 : s < 257
    · clear h1
      go_enter Try.func12, Try.ntmps12
      go_wp2
      go_ret3
      exact ⟨rfl, rfl⟩
    · have h3 : decide (s < 257) = false := decide_eq_false h2
      have h4 : decide (285 < s) = true := decide_eq_true (h1.resolve_left h2)
      clear h1
      go_enter Try.func12, Try.ntmps12
      go_wp2
      go_ret3
      exact ⟨rfl, rfl⟩
  · have n0 : ¬ s < 0 := by omega
    rw [if_neg n0]
    have h3 : decide (s < 257) = false := decide_eq_false (by omega)
    have h4 : decide (285 < s) = false := decide_eq_false (by omega)
    by_cases h5 : s = 285
    · subst h5
      go_enter Try.func12, Try.ntmps12
      go_wp2
      go_ret3
      exact ⟨rfl, rfl⟩
    · have h6 : (s == 285) = false := by simpa using h5
      by_cases h7 : s < 265
      · have e : lenOf s.toNat = some ((s - 254).toNat, 0) := by
          unfold lenOf; rw [if_neg (by omega), if_neg (by omega), if_pos (by omega)]; congr 2; omega
        rw [e]
        have h8 : decide (s < 265) = true := decide_eq_true h7
        have E : Hid (((s - 254).toNat : Int) = s - 257 + 3) := Lib.hid (by omega)
        clear e
        go_enter Try.func12, Try.ntmps12
        go_wp2
        go_ret3
        refine ⟨?_, rfl⟩
        simp only [optV]
        rw [E.out]
        rfl
      · have h8 : decide (s < 265) = false := decide_eq_false h7
        obtain ⟨d, hd⟩ : ∃ d : Nat, s - 257 = d := ⟨(s - 257).toNat, by omega⟩
        have e : lenOf s.toNat = some ((4 + d % 4) * 2 ^ (d / 4 - 1) + 3, d / 4 - 1) := by
          unfold lenOf; rw [if_neg (by omega), if_neg (by omega), if_neg (by omega)]
          have : s.toNat - 257 = d := by omega
          rw [this]
        rw [e]
        have hd2 : d < 28 := by omega
        have hd3 : 8 ≤ d := by omega
        have hall : ∀ d, d < 28 → 8 ≤ d → d / 4 - 1 ≤ 5 ∧ (4 + d % 4) * 2 ^ (d / 4 - 1) + 3 ≤ 258 := by decide
        have hal := hall d hd2 hd3
        clear hall
        obtain ⟨q, hq⟩ : ∃ q, d / 4 = q := ⟨_, rfl⟩
        obtain ⟨r, hr⟩ : ∃ r, d % 4 = r := ⟨_, rfl⟩
        obtain ⟨k, hk⟩ : ∃ k, q - 1 = k := ⟨_, rfl⟩
        have eq1 : (d : Int).tdiv 4 = q := by rw [Int.tdiv_eq_ediv_of_nonneg (by omega)]; omega
        have eq2 : (d : Int).tmod 4 = r := by rw [Int.tmod_eq_emod_of_nonneg (by omega)]; omega
        have eq3 : (d : Int) / 4 = q := by omega
        have eq4 : (d : Int) % 4 = r := by omega
        have eq5 : (q : Int) - 1 = k := by omega
        rw [hq, hr, hk] at hal ⊢
        have hr4 : r < 4 := by omega
        have EB : Hid ((4 + (r : Int)) * 2 ^ k + 3 = ((4 + r) * 2 ^ k + 3 : Nat)) := Lib.hid (by simp)
        have EW : Hid (wrap64 ((4 + (r : Int)) * 2 ^ k) = (4 + (r : Int)) * 2 ^ k) := Lib.hid (by
          have : ((4 + (r : Int)) * 2 ^ k) = ((4 + r) * 2 ^ k : Nat) := by simp
          rw [this]
          exact IntWalk.wrap64_in _ (by omega))
        have EW2 : Hid (wrap64 ((4 + (r : Int)) * 2 ^ k + 3) = (4 + (r : Int)) * 2 ^ k + 3) := Lib.hid (by
          have : ((4 + (r : Int)) * 2 ^ k + 3) = ((4 + r) * 2 ^ k + 3 : Nat) := by simp
          rw [this]
          exact IntWalk.wrap64_in _ (by omega))
        have hk5 := hal.1
        clear e hq hr hk hal
        go_enter Try.func12, Try.ntmps12
        go_wp2
        go_ret3
        refine ⟨?_, rfl⟩
        simp only [optV]
        rw [EW.out, EW2.out, EB.out]
        rfl

theorem distance_any (s : Int) (w : World) : Calls Try.prog 14 #[.int .i64 s] w fun e w' => e = .returned (if s < 0 then optV none else optV (dstOf s.toNat)) ∧ w = w' := by
  by_cases h1 : s < 0 ∨ 30 ≤ s
  · have e : (if s < 0 then optV none else optV (dstOf s.toNat)) = optV none := by
      split
      · rfl
      · unfold dstOf; rw [if_pos (by omega)]
    rw [e]
    clear e
    by_cases h2 : s < 0
    · clear h1
      go_enter Try.func14, Try.ntmps14
      go_wp2
      go_ret3
      exact ⟨rfl, rfl⟩
    · have h3 : decide (s < 0) = false := decide_eq_false h2
      have h4 : decide (30 ≤ s) = true := decide_eq_true (h1.resolve_left h2)
      clear h1
      go_enter Try.func14, Try.ntmps14
      go_wp2
      go_ret3
      exact ⟨rfl, rfl⟩
  · have n0 : ¬ s < 0 := by omega
    rw [if_neg n0]
    have h3 : decide (s < 0) = false := decide_eq_false (by omega)
    have h4 : decide (30 ≤ s) = false := decide_eq_false (by omega)
    obtain ⟨d, rfl⟩ : ∃ d : Nat, s = d := ⟨s.toNat, by omega⟩
    by_cases h7 : d < 4
    · have e : dstOf ((d : Int).toNat) = some (d + 1, 0) := by
        unfold dstOf; rw [if_neg (by omega), if_pos (by omega)]; simp
      rw [e]
      have h8 : decide ((d : Int) < 4) = true := decide_eq_true (by omega)
      clear e
      go_enter Try.func14, Try.ntmps14
      go_wp2
      go_ret3
      exact ⟨rfl, rfl⟩
    · have h8 : decide ((d : Int) < 4) = false := decide_eq_false (by omega)
      have e : dstOf ((d : Int).toNat) = some ((2 + d % 2) * 2 ^ (d / 2 - 1) + 1, d / 2 - 1) := by
        unfold dstOf; rw [if_neg (by omega), if_neg (by omega)]; simp
      rw [e]
      have hall : ∀ d, d < 30 → 4 ≤ d → d / 2 - 1 ≤ 13 ∧ (2 + d % 2) * 2 ^ (d / 2 - 1) + 1 ≤ 24577 := by decide
      have hal := hall d (by omega) (by omega)
      clear hall
      obtain ⟨q, hq⟩ : ∃ q, d / 2 = q := ⟨_, rfl⟩
      obtain ⟨r, hr⟩ : ∃ r, d % 2 = r := ⟨_, rfl⟩
      obtain ⟨k, hk⟩ : ∃ k, q - 1 = k := ⟨_, rfl⟩
      have eq1 : (d : Int).tdiv 2 = q := by rw [Int.tdiv_eq_ediv_of_nonneg (by omega)]; omega
      have eq2 : (d : Int).tmod 2 = r := by rw [Int.tmod_eq_emod_of_nonneg (by omega)]; omega
      have eq3 : (d : Int) / 2 = q := by omega
      have eq4 : (d : Int) % 2 = r := by omega
      have eq5 : (q : Int) - 1 = k := by omega
      rw [hq, hr, hk] at hal ⊢
      have hr4 : r < 2 := by omega
      have EB : Hid ((2 + (r : Int)) * 2 ^ k + 1 = ((2 + r) * 2 ^ k + 1 : Nat)) := Lib.hid (by simp)
      have EW : Hid (wrap64 ((2 + (r : Int)) * 2 ^ k) = (2 + (r : Int)) * 2 ^ k) := Lib.hid (by
        have : ((2 + (r : Int)) * 2 ^ k) = ((2 + r) * 2 ^ k : Nat) := by simp
        rw [this]
        exact IntWalk.wrap64_in _ (by omega))
      have EW2 : Hid (wrap64 ((2 + (r : Int)) * 2 ^ k + 1) = (2 + (r : Int)) * 2 ^ k + 1) := Lib.hid (by
        have : ((2 + (r : Int)) * 2 ^ k + 1) = ((2 + r) * 2 ^ k + 1 : Nat) := by simp
        rw [this]
        exact IntWalk.wrap64_in _ (by omega))
      have hk5 := hal.1
      clear e hq hr hk hal
      go_enter Try.func14, Try.ntmps14
      go_wp2
      go_ret3
      refine ⟨?_, rfl⟩
      simp only [optV]
      rw [EW.out, EW2.out, EB.out]
      rfl

theorem room_any {c : Cx} (hg : c.Good) (ov p q : Value) (a : Nat) (o : List Nat) (w : World) (h : StAt c w ov p q a o) :
    Calls Try.prog 50 #[.pointer (some ⟨c.gs, 0, none⟩)] w fun e w' => e = .returned (.int .i64 ((c.most - o.length : Nat) : Int)) ∧ w' = w.drew := by
  have c1 := h.c1
  have c2 := h.c2
  obtain ⟨A, cp, rfl, _⟩ := own_form h.out
  have h1 := h.room
  have h2 := hg.most
  clear h
  go_enter Try.func50, Try.ntmps50
  go_wp2
  go_still (by kernel_rfl)
  go_wp2
  go_ret
  refine ⟨ret_int ?_, rfl⟩
  rw [IntWalk.i64_in _ (by omega)]
  omega

/-- added: what a sign's least number and its bits make. -/
theorem added_any {c : Cx} (hg : c.Good) (ov p q : Value) (a : Nat) (o : List Nat) (b n : Nat) (hn : n ≤ 13) (hb : b ≤ 24577) (w : World) (h : StAt c w ov p q a o) :
    Calls Try.prog 71 #[.pointer (some ⟨c.gs, 0, none⟩), .int .i64 b, .int .i64 n, .bool true] w fun e w' =>
      (∃ v a' : Nat, addAt (some (b, n)) c.L a = .ok (v, a') ∧ (b ≤ v ∧ v ≤ 32768) ∧ a ≤ a' ∧ e = .returned (.tuple #[.int .i64 v, .int .i64 0]) ∧ StAt c w' ov p q a' o ∧ Fr c.B0 w w') ∨
      (∃ er : Nat, 0 < er ∧ er < 100 ∧ addAt (some (b, n)) c.L a = .er er ∧ (∃ v : Nat, e = .returned (.tuple #[.int .i64 v, .int .i64 er])) ∧ StAt c w' ov p q a o ∧ Fr c.B0 w w') := by
  have c0 := h.c0
  have H := Lib.hid h; clear h
  have HA : Hid (∀ v, bitsAt c.L a n = .ok v → addAt (some (b, n)) c.L a = .ok (b + v, a + n)) := Lib.hid (fun v hv => by simp [addAt, hv])
  have HE : Hid (bitsAt c.L a n = .er 6 → addAt (some (b, n)) c.L a = .er 6) := Lib.hid (fun hv => by simp [addAt, hv])
  have hp : 2 ^ n ≤ 8192 := Nat.pow_le_pow_right (n := 2) (i := n) (j := 13) (by omega) hn
  go_enter Try.func71, Try.ntmps71
  go_wp2_with fail
  refine (getBits_any hg ov p q a o n (by omega) _ H.out).mono ?_
  rintro e w1 (⟨v, hv, hv2, rfl, hs, hf⟩ | ⟨hv, rfl, hs, hf⟩)
  · have HS := Lib.hid hs
    have HF := Lib.hid hf
    have HV := Lib.hid hv
    clear hs hf hv
    have wv : IntKind.i64.wrap (v : Int) = v := IntWalk.i64_in _ (by omega)
    go_wp2_with fail
    go_ret2
    exact .inl ⟨b + v, a + n, HA.out v HV.out, ⟨by omega, by omega⟩, by omega, by simp, HS.out, HF.out⟩
  · have HS := Lib.hid hs
    have HF := Lib.hid hf
    have HV := Lib.hid hv
    clear hs hf hv
    go_wp2_with fail
    go_ret2
    exact .inr ⟨6, by omega, by omega, HE.out HV.out, ⟨b, rfl⟩, HS.out, HF.out⟩
theorem added_none {c : Cx} (w : World) (b n : Int) :
    Calls Try.prog 71 #[.pointer (some ⟨c.gs, 0, none⟩), .int .i64 b, .int .i64 n, .bool false] w fun e w' => e = .returned (.tuple #[.int .i64 0, .int .i64 5]) ∧ w = w' := by
  go_enter Try.func71, Try.ntmps71
  go_wp2_with fail
  go_ret2
  exact ⟨rfl, rfl⟩
end Go.Proofs.Ytobchlakjgeadaa
