/-
  The library's Or of numbers, and the program's Compare. Conditions: of Or at most a hundred thousand numbers.
-/
import Derived.Test.YtmojclbejmnikaaPK
import Derived.StillTailTactics
namespace Go.Proofs.Ytmojclbejmnikaa
open Go Go.RowKit
set_option maxRecDepth 100000

/-- The first number that isn't 0. -/
def orM : List Int → Int | [] => 0 | x :: r => if x = 0 then orM r else x
theorem orM_step (l : List Int) (k : Nat) (hk : k < l.length) : orM (l.drop k) = if l[k] = 0 then orM (l.drop (k + 1)) else l[k] := by
  rw [List.drop_eq_getElem_cons hk]; rfl
set_option maxHeartbeats 4000000 in
theorem or_any (l : List Int) (A : Option Addr) (n c B : Nat) (hn : l.length = n) (hs : n ≤ 100000) (w : World) (hA : Seen w B 1 A n c (iv l)) :
    Calls Try.prog 36 #[.slice A n c] w (Rets w (.int .i64 (orM l))) := by
  have HA := Lib.hid hA
  obtain ⟨R, hR⟩ : ∃ R, orM l = R := ⟨_, rfl⟩
  rw [hR]
  have HR := Lib.hid hR
  clear hA hR
  go_enter Try.func36, Try.ntmps36
  go_wp2
  go_loopg [8] n (fun j v wr => ∃ k : Nat, k ≤ n ∧ j = n - k ∧ v = .int .i64 k ∧ wr = w ∧ orM (l.drop k) = R)
  case atStart => exact ⟨0, by omega, rfl, rfl, rfl, by rw [List.drop_zero]; exact HR.out⟩
  case round =>
    obtain ⟨k, hk, rfl, rfl, rfl, hix⟩ := hrel
    have HX := Lib.hid hix
    clear hix
    by_cases hlt : k < n
    · have hkl : k < l.length := by omega
      have d0 : decide ((k : Int) < (n : Int)) = true := by rw [decide_eq_true_iff]; omega
      have st := Lib.hid (orM_step l k hkl)
      obtain ⟨bb, oo, u, rfl, hbb, hu, hc⟩ := HA.out.at hlt
      obtain ⟨y, hy⟩ : ∃ y, l[k] = y := ⟨_, rfl⟩
      have hu2 : u = .int .i64 y := by
        rw [iv, List.getElem?_map, List.getElem?_eq_getElem hkl, hy] at hu; exact (Option.some.inj hu).symm
      subst hu2
      clear hu
      by_cases g : y = 0
      · have d1 : (y == 0) = true := by rw [beq_iff_eq]; exact g
        have HG := Lib.hid g
        have HY := Lib.hid hy
        clear g hy
        go_wp2_with fail
        go_roundg (n - (k + 1))
        case measure => omega
        case rel => exact ⟨k + 1, by omega, rfl, by go_num, rfl, by rw [← HX.out, st.out, HY.out, if_pos HG.out]⟩
      · have d1 : (y == 0) = false := by rw [beq_eq_false_iff_ne]; exact g
        have HG := Lib.hid g
        have HY := Lib.hid hy
        clear g hy
        go_wp2_with fail
        go_ret
        refine ⟨?_, rfl⟩
        rw [← HX.out, st.out, HY.out, if_neg HG.out]; rfl
    · have d0 : decide ((k : Int) < (n : Int)) = false := by rw [decide_eq_false_iff_not]; omega
      have hr : R = 0 := by rw [← HX.out, List.drop_of_length_le (by omega)]; rfl
      have HR2 := Lib.hid hr
      clear hr
      go_wp2_with fail
      go_ret
      exact ⟨by rw [HR2.out]; rfl, rfl⟩

def compM (a b : Val) : Int := orM [cmpI a.tag b.tag, cmpT a.text b.text, cmpI a.bits b.bits, cmpT a.cls b.cls, cmpT a.name b.name, cmpT a.desc b.desc]
set_option maxHeartbeats 8000000 in
theorem comp_any (a b : Val) (w : World) : Calls Try.prog 18 #[.agg #[.int .i64 a.tag, .string a.text, .int .u64 a.bits, .string a.cls, .string a.name, .string a.desc], .agg #[.int .i64 b.tag, .string b.text, .int .u64 b.bits, .string b.cls, .string b.name, .string b.desc]] w (Gives w (.int .i64 (compM a b))) := by
  obtain ⟨a0, a1, a2, a3, a4, a5⟩ := a
  obtain ⟨b0, b1, b2, b3, b4, b5⟩ := b
  obtain ⟨R, hR⟩ : ∃ r, compM ⟨a0, a1, a2, a3, a4, a5⟩ ⟨b0, b1, b2, b3, b4, b5⟩ = r := ⟨_, rfl⟩
  rw [hR]
  unfold compM at hR
  simp only at hR ⊢
  obtain ⟨w2, hw2⟩ : ∃ W, (w.alloc (.cells #[.int .i64 a0, .string a1, .int .u64 a2, .string a3, .string a4, .string a5] 41)).alloc (.cells #[.int .i64 b0, .string b1, .int .u64 b2, .string b3, .string b4, .string b5] 41) = W := ⟨_, rfl⟩
  obtain ⟨g2, hg2⟩ : ∃ g, w.heap.size = g := ⟨_, rfl⟩
  have B2 : Hid (Below w.heap.size w w2) := Lib.hid (hw2 ▸ ((Below.refl w.heap.size w).alloc (Nat.le_refl _) _).alloc (by simp) _)
  have P2 : Whole w2 g2 41 #[.int .i64 a0, .string a1, .int .u64 a2, .string a3, .string a4, .string a5] := hw2 ▸ hg2 ▸ (Whole.new w 41 #[.int .i64 a0, .string a1, .int .u64 a2, .string a3, .string a4, .string a5]).alloc _
  have P3 : Whole w2 (g2 + 1) 41 #[.int .i64 b0, .string b1, .int .u64 b2, .string b3, .string b4, .string b5] := by
    rw [← hw2, ← hg2]
    have := Whole.new (w.alloc (.cells #[.int .i64 a0, .string a1, .int .u64 a2, .string a3, .string a4, .string a5] 41)) 41 #[.int .i64 b0, .string b1, .int .u64 b2, .string b3, .string b4, .string b5]
    rw [World.size_alloc] at this; exact this
  have c0 := P2.cell 0
  have c1 := P2.cell 1
  have c2 := P2.cell 2
  have c3 := P2.cell 3
  have c4 := P2.cell 4
  have c5 := P2.cell 5
  have k0 := P3.cell 0
  have k1 := P3.cell 1
  have k2 := P3.cell 2
  have k3 := P3.cell 3
  have k4 := P3.cell 4
  have k5 := P3.cell 5
  simp only [List.getElem?_toArray, List.getElem?_cons_zero, List.getElem?_cons_succ] at c0 c1 c2 c3 c4 c5 k0 k1 k2 k3 k4 k5
  clear P2 P3
  have HR := Lib.hid hR
  clear hR
  go_enter Try.func18, Try.ntmps18
  go_wp2_with fail
  refine wp_region_still_tail 30 (by kernel_rfl) (by kernel_rfl) ?_
  simp only [List.take_succ_cons, List.take_zero]
  repeat still_step
  still_call (flip (cmpInt_any a0 b0 _))
  repeat still_step
  still_call (flip (compare_any a1 b1 _))
  repeat still_step
  still_call (flip (cmpU_any a2 b2 _))
  repeat still_step
  still_call (flip (compare_any a3 b3 _))
  repeat still_step
  still_call (flip (compare_any a4 b4 _))
  repeat still_step
  still_call (flip (compare_any a5 b5 _))
  repeat still_step
  refine wpStill_nil ?_
  simp only [List.drop_succ_cons, List.drop_zero]
  clear c0 c1 c2 c3 c4 c5 k0 k1 k2 k3 k4 k5
  go_wp2_with fail
  have HS := Lib.hid ((seen_lit w2 3 (iv [cmpI a0 b0, cmpT a1 b1, cmpI a2 b2, cmpT a3 b3, cmpT a4 b4, cmpT a5 b5])).more (B' := w2.heap.size + 1) (Nat.le_refl _) |>.keep (w' := (w2.alloc (.cells (iv [cmpI a0 b0, cmpT a1 b1, cmpI a2 b2, cmpT a3 b3, cmpT a4 b4, cmpT a5 b5]).toArray 3)).drew) (fun _ _ => rfl))
  refine (or_any [cmpI a0 b0, cmpT a1 b1, cmpI a2 b2, cmpT a3 b3, cmpT a4 b4, cmpT a5 b5] (some ⟨w2.heap.size, 0, none⟩) 6 6 (w2.heap.size + 1) rfl (by decide) _ HS.out).mono ?_
  rintro e w4 ⟨rfl, rfl⟩
  rw [HR.out]
  go_wp2_with fail
  go_ret
  exact ⟨rfl, (B2.out.alloc B2.out.size _).drew⟩

theorem cmpI_neg (a b : Int) : decide (cmpI a b < 0) = decide (a < b) := by
  unfold cmpI
  by_cases h : a < b
  · simp [h]
  · rw [if_neg h]; by_cases g : b < a <;> simp [g, h]
theorem cmpI_zero (a b : Int) : cmpI a b = 0 ↔ a = b := by
  unfold cmpI
  by_cases h : a < b
  · rw [if_pos h]; omega
  · rw [if_neg h]; by_cases g : b < a
    · rw [if_pos g]; omega
    · rw [if_neg g]; omega
theorem cmpT_neg (a b : ByteArray) : decide (cmpT a b < 0) = blt a b := by
  unfold cmpT
  cases h : blt a b
  · cases g : blt b a <;> simp
  · simp
theorem cmpT_zero (a b : ByteArray) : cmpT a b = 0 ↔ a = b := by
  unfold cmpT
  cases h : blt a b
  · cases g : blt b a
    · simp; exact blt_tri h g
    · simp; intro e; subst e; rw [g] at h; cases h
  · simp; intro e; subst e; rw [blt_self] at h; cases h
theorem or_neg (x : Int) (l : List Int) : decide (orM (x :: l) < 0) = if x = 0 then decide (orM l < 0) else decide (x < 0) := by
  rw [orM]; by_cases h : x = 0 <;> simp [h]
theorem or_zero (x : Int) (l : List Int) : orM (x :: l) = 0 ↔ x = 0 ∧ orM l = 0 := by
  rw [orM]; by_cases h : x = 0 <;> simp [h]
theorem comp_less (a b : Val) : decide (compM a b < 0) = lessV a b := by
  unfold compM lessV
  rw [or_neg, or_neg, or_neg, or_neg, or_neg, or_neg]
  simp only [cmpI_neg, cmpT_neg, cmpI_zero, cmpT_zero, Int.natCast_inj]
  have e : (if a.desc = b.desc then decide (orM [] < 0) else blt a.desc b.desc) = blt a.desc b.desc := by
    by_cases h : a.desc = b.desc
    · rw [if_pos h, h, blt_self]; rfl
    · rw [if_neg h]
  rw [e]
  simp only [ne_eq, ite_not, Int.ofNat_lt]
theorem comp_zero (a b : Val) : compM a b = 0 ↔ a = b := by
  unfold compM
  rw [or_zero, or_zero, or_zero, or_zero, or_zero, or_zero]
  simp only [cmpI_zero, cmpT_zero, Int.natCast_inj]
  constructor
  · rintro ⟨h0, h1, h2, h3, h4, h5, _⟩
    cases a; cases b; simp only at h0 h1 h2 h3 h4 h5; rw [h0, h1, h2, h3, h4, h5]
  · rintro rfl; exact ⟨rfl, rfl, rfl, rfl, rfl, rfl, rfl⟩
end Go.Proofs.Ytmojclbejmnikaa
