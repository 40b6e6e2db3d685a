/-
  The document's Less. Conditions: rows of at most a hundred thousand bytes.
-/
import Derived.Test.YtdfliogomkpceaaDoorUC
namespace Go.Proofs.YtdfliogomkpceaaDoor
open Go Go.RowKit
set_option maxRecDepth 100000

/-- Units ahead of others. -/
def ltU : List Nat → List Nat → Bool
  | [], [] => false
  | [], _ :: _ => true
  | _ :: _, [] => false
  | x :: a, y :: b => if x = y then ltU a b else decide (x < y)
def lessM (a b : List UInt8) : Bool := match unitsM a, unitsM b with
  | some x, some y => ltU x y
  | _, _ => Op.bytesLess (tx a).toList (tx b).toList
theorem ltU_drop {x y : List Nat} {k : Nat} (hx : k < x.length) (hy : k < y.length) : ltU (x.drop k) (y.drop k) = if x[k] = y[k] then ltU (x.drop (k + 1)) (y.drop (k + 1)) else decide (x[k] < y[k]) := by
  rw [List.drop_eq_getElem_cons hx, List.drop_eq_getElem_cons hy, ltU]
theorem units_len {l : List UInt8} {u : List Nat} : ∀ (n : Nat) (p : List Nat) (s : List UInt8), s.length ≤ n → dU p s = some u → u.length ≤ p.length + s.length
  | n, p, [], _, h => by rw [dU] at h; cases h; simp
  | 0, p, c :: r, hn, _ => by simp at hn
  | n + 1, p, c :: r, hn, h => by
    rw [dU] at h
    split at h
    · cases h
    split at h
    · cases h
    split at h
    · cases h
    have := units_len (l := l) n _ _ (by rw [List.length_drop]; simp at hn; omega) h
    rw [List.length_append, List.length_drop] at this
    simp at this ⊢; omega
theorem units_lt {u : List Nat} : ∀ (n : Nat) (p : List Nat) (s : List UInt8), s.length ≤ n → (∀ x ∈ p, x < 65536) → dU p s = some u → ∀ x ∈ u, x < 65536
  | n, p, [], _, hp, h => by rw [dU] at h; cases h; exact hp
  | 0, p, c :: r, hn, _, _ => by simp at hn
  | n + 1, p, c :: r, hn, hp, h => by
    rw [dU] at h
    split at h
    · cases h
    split at h
    · cases h
    rename_i h65
    split at h
    · cases h
    refine units_lt n _ _ (by rw [List.length_drop]; simp at hn; omega) (fun x hx => ?_) h
    rcases List.mem_append.1 hx with hx | hx
    · exact hp x hx
    · rw [List.mem_singleton.1 hx]; omega

set_option maxHeartbeats 16000000 in
theorem less_any (a b : List UInt8) (ha : a.length ≤ 100000) (hb : b.length ≤ 100000) (w : World) : Calls Tryd.prog 17 #[.string (tx a), .string (tx b)] w (Gives w (.bool (lessM a b))) := by
  have CA := Lib.hid (fun W => units_any a a.length rfl ha W)
  have CB := Lib.hid (fun W => units_any b b.length rfl hb W)
  have hla : ∀ u, unitsM a = some u → u.length ≤ 100000 := fun u h => by have := units_len (l := a) a.length [] a (Nat.le_refl _) h; simp at this; omega
  have hlb : ∀ u, unitsM b = some u → u.length ≤ 100000 := fun u h => by have := units_len (l := b) b.length [] b (Nat.le_refl _) h; simp at this; omega
  have hA : ∀ u, unitsM a = some u → ∀ x ∈ u, x < 65536 := fun u h => units_lt a.length [] a (Nat.le_refl _) (fun x hx => by cases hx) h
  have hB : ∀ u, unitsM b = some u → ∀ x ∈ u, x < 65536 := fun u h => units_lt b.length [] b (Nat.le_refl _) (fun x hx => by cases hx) h
  obtain ⟨ra, hra⟩ : ∃ r, unitsM a = r := ⟨_, rfl⟩
  obtain ⟨rb, hrb⟩ : ∃ r, unitsM b = r := ⟨_, rfl⟩
  obtain ⟨R, hR⟩ : ∃ r, lessM a b = r := ⟨_, rfl⟩
  rw [hR]
  rw [hra] at CA hla hA
  rw [hrb] at CB hlb hB
  unfold lessM at hR
  rw [hra, hrb] at hR
  have HA := Lib.hid hA
  have HB := Lib.hid hB
  clear hA hB hra hrb ha hb
  go_enter Tryd.func17, Tryd.ntmps17
  go_wp2_with fail
  refine (CA.out _).mono ?_
  rintro e w1 ⟨v1, rfl, b1, n1, s1⟩
  cases ra with
  | none =>
    obtain rfl := n1 rfl
    subst hR
    clear s1
    go_wp2_with (go_at_call 8; refine (CB.out _).mono ?_; rintro e w2 ⟨v2, rfl, b2, n2, s2⟩)
    go_ret
    exact ⟨rfl, b1.trans (b2.mono b1.size)⟩
  | some x =>
    have o1 := s1 x rfl
    obtain ⟨A1, c1, rfl, _⟩ := own_form o1
    have S1 := Lib.hid (Seen.of_own o1)
    have B1 := Lib.hid b1
    clear s1 o1 n1 b1
    go_wp2_with fail
    refine (CB.out _).mono ?_
    rintro e w2 ⟨v2, rfl, b2, n2, s2⟩
    have B2 := Lib.hid (B1.out.trans (b2.mono B1.out.size))
    cases rb with
    | none =>
      obtain rfl := n2 rfl
      subst hR
      clear s2
      go_wp2_with fail
      go_ret
      exact ⟨rfl, B2.out⟩
    | some y =>
      have o2 := s2 y rfl
      obtain ⟨A2, c2, rfl, _⟩ := own_form o2
      have S2 := Lib.hid (Seen.of_own o2)
      have T1 := Lib.hid ((S1.out.below b2).more b2.size)
      have hR2 : R = ltU x y := hR.symm
      have HR := Lib.hid hR2
      have hx1 := hla x rfl
      have hy1 := hlb y rfl
      have hxs := HA.out x rfl
      have hys := HB.out y rfl
      obtain ⟨n, hn⟩ : ∃ n, x.length = n := ⟨_, rfl⟩
      obtain ⟨m, hm⟩ : ∃ m, y.length = m := ⟨_, rfl⟩
      rw [hn] at T1 hx1 ⊢
      rw [hm] at S2 hy1 ⊢
      have HN := Lib.hid (And.intro hn hm)
      have HX := Lib.hid (And.intro hxs hys)
      clear s2 o2 n2 b2 hR hR2 hn hm hxs hys hla hlb
      go_wp2_with fail
      go_loopg [31] n (fun j v wr => ∃ k : Nat, k ≤ n ∧ k ≤ m ∧ j = n - k ∧ v = .int .i64 k ∧ Below w2.heap.size w2 wr ∧ ltU x y = ltU (x.drop k) (y.drop k))
      case atStart => exact ⟨0, by omega, by omega, rfl, rfl, Below.refl _ _, rfl⟩
      case round =>
        obtain ⟨k, hk, hkm, rfl, rfl, hbl, hd⟩ := hrel
        obtain ⟨wo, rfl⟩ : ∃ W, W = wr := ⟨_, rfl⟩
        have BL := Lib.hid hbl
        have HD := Lib.hid hd
        clear hbl hd
        obtain ⟨hn, hm⟩ := HN.out
        by_cases hlt : k < n
        · have d0 : decide ((k : Int) < (n : Int)) = true := by rw [decide_eq_true_iff]; omega
          by_cases hkm2 : k = m
          · have dm : ((k : Int) == (m : Int)) = true := by rw [hkm2]; simp
            have hr : R = false := by
              rw [HR.out, HD.out, List.drop_eq_nil_of_le (show y.length ≤ k by omega), List.drop_eq_getElem_cons (show k < x.length by omega), ltU]
            have HRR := Lib.hid hr
            have HKM := Lib.hid hkm2
            clear hn hm hr hkm2
            go_wp2_with fail
            go_ret
            exact ⟨by rw [HRR.out]; rfl, B2.out.trans (BL.out.mono B2.out.size)⟩
          · have dm : ((k : Int) == (m : Int)) = false := by rw [beq_eq_false_iff_ne]; omega
            obtain ⟨b5, o5, u5, rfl, _, hu5, hc5⟩ := (T1.out.below BL.out).at hlt
            obtain ⟨b6, o6, u6, rfl, _, hu6, hc6⟩ := (S2.out.below BL.out).at (show k < m by omega)
            have hkx : k < x.length := by omega
            have hky : k < y.length := by omega
            have hst := ltU_drop hkx hky
            have hp5 := HX.out.1 _ (List.getElem_mem hkx)
            have hp6 := HX.out.2 _ (List.getElem_mem hky)
            obtain rfl : u5 = .int .u16 (x[k] : Nat) := (Option.some.inj ((uv_at x k hkx).symm.trans hu5)).symm
            obtain rfl : u6 = .int .u16 (y[k] : Nat) := (Option.some.inj ((uv_at y k hky).symm.trans hu6)).symm
            obtain ⟨p, hp⟩ : ∃ p, x[k] = p := ⟨_, rfl⟩
            obtain ⟨q, hq⟩ : ∃ q, y[k] = q := ⟨_, rfl⟩
            rw [hp] at hc5 hst hp5
            rw [hq] at hc6 hst hp6
            have hc5d : wo.drew.cell? ⟨b5, o5 + k, none⟩ = some (.int .u16 (p : Nat)) := hc5
            have hc6d : wo.drew.cell? ⟨b6, o6 + k, none⟩ = some (.int .u16 (q : Nat)) := hc6
            have hc5e : ({ heap := wo.heap, tape := wo.tape, drawn := wo.drawn + 1 + 1, os := wo.os, output := wo.output } : World).cell? ⟨b5, o5 + k, none⟩ = some (.int .u16 (p : Nat)) := hc5
            have hc6e : ({ heap := wo.heap, tape := wo.tape, drawn := wo.drawn + 1 + 1, os := wo.os, output := wo.output } : World).cell? ⟨b6, o6 + k, none⟩ = some (.int .u16 (q : Nat)) := hc6
            have q1 : IntKind.i64.wrap (k : Int) = (k : Int) := IntWalk.i64_in _ (by omega)
            have q2 : (0 : Int) ≤ (k : Int) := by omega
            have q3 : (k : Int) < (n : Int) := by omega
            have q4 : (k : Int) < (m : Int) := by omega
            have HST := Lib.hid hst
            have HBW : Hid (Below w2.heap.size w2 wo.drew) := Lib.hid ⟨BL.out.os, BL.out.tape, BL.out.output, BL.out.size, BL.out.block⟩
            clear hu5 hu6 hst hn hm hp hq
            by_cases hpq : p = q
            · have dp : ((p : Int) == (q : Int)) = true := by rw [hpq]; simp
              have hnx : ltU x y = ltU (x.drop (k + 1)) (y.drop (k + 1)) := by rw [HD.out, HST.out, if_pos hpq]
              have HNX := Lib.hid hnx
              clear hnx hpq
              go_upto_region 10 with fail
              refine wp_region_still_lit (by kernel_rfl) (by kernel_rfl) ?_
              repeat still_step
              refine wpStill_nil ?_
              go_wp2_with fail
              go_roundg (n - (k + 1))
              case measure => omega
              case rel => exact ⟨k + 1, by omega, by omega, rfl, by go_num, HBW.out, HNX.out⟩
            · have dp : ((p : Int) == (q : Int)) = false := by rw [beq_eq_false_iff_ne]; omega
              have hr : R = decide (p < q) := by rw [HR.out, HD.out, HST.out, if_neg hpq]
              have HRR := Lib.hid hr
              clear hr hpq
              go_upto_region 10 with fail
              refine wp_region_still_lit (by kernel_rfl) (by kernel_rfl) ?_
              repeat still_step
              refine wpStill_nil ?_
              go_upto_region 11 with fail
              refine wp_region_still_lit (by kernel_rfl) (by kernel_rfl) ?_
              repeat still_step
              refine wpStill_nil ?_
              go_wp2_with fail
              go_ret
              exact ⟨by rw [HRR.out]; rfl, B2.out.trans ((show Below w2.heap.size w2 wo.drew.drew from ⟨HBW.out.os, HBW.out.tape, HBW.out.output, HBW.out.size, HBW.out.block⟩).mono B2.out.size)⟩
        · obtain rfl : k = n := by omega
          have d0 : decide ((k : Int) < (k : Int)) = false := by rw [decide_eq_false_iff_not]; omega
          have hr : R = decide (k < m) := by
            rw [HR.out, HD.out, List.drop_eq_nil_of_le (show x.length ≤ k by omega)]
            by_cases hkm2 : k < m
            · rw [List.drop_eq_getElem_cons (show k < y.length by omega), ltU]
              symm; rw [decide_eq_true_iff]; omega
            · rw [List.drop_eq_nil_of_le (show y.length ≤ k by omega), ltU]
              symm; rw [decide_eq_false_iff_not]; omega
          have HRR := Lib.hid hr
          clear hr hn hm
          go_wp2_with fail
          go_ret
          exact ⟨by rw [HRR.out]; rfl, B2.out.trans (BL.out.mono B2.out.size)⟩
end Go.Proofs.YtdfliogomkpceaaDoor
