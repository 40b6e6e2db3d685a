/-
  The document's units of a row. Conditions: at most a hundred thousand bytes.
-/
import Derived.Test.YtibkdmliolebgaaDoorUB
import Derived.Deep.DeepCutAuto
import Derived.OrdersHeld
import Derived.Deep.RegionHeld3
import Derived.StillTailTactics
namespace Go.Proofs.YtibkdmliolebgaaDoor
open Go Go.RowKit
set_option maxRecDepth 100000

theorem bel_after {B : Nat} {a b c : World} (h : Below B a b) (hB : B ≤ a.heap.size) (k : Below b.heap.size b c) : Below B a c := h.trans (k.mono (Nat.le_trans hB h.size))
/-- How many bytes the unit has that begins so. -/
def nOf (c : Nat) : Nat := if 224 ≤ c then 3 else if 192 ≤ c then 2 else 1
/-- Which unit the bytes would be. -/
def vOf (c a b : Nat) : Nat := if 224 ≤ c then (c - 224) * 4096 + a % 64 * 64 + b % 64 else if 192 ≤ c then (c - 192) * 64 + a % 64 else c
def gN (s : List UInt8) (k : Nat) : Nat := (s.getD k 0).toNat
/-- What is read of a row, behind such units. -/
def dU (p : List Nat) (s : List UInt8) : Option (List Nat) :=
  match s with
  | [] => some p
  | c :: r =>
    if (c :: r).length < nOf c.toNat then none
    else if 65535 < vOf c.toNat (gN r 0) (gN r 1) then none
    else if uB (vOf c.toNat (gN r 0) (gN r 1)) ≠ (c :: r).take (nOf c.toNat) then none
    else dU (p ++ [vOf c.toNat (gN r 0) (gN r 1)]) (r.drop (nOf c.toNat - 1))
termination_by s.length
decreasing_by simp; omega
def unitsM (s : List UInt8) : Option (List Nat) := dU [] s
def GivesU (w : World) (r : Option (List Nat)) (e : Ending) (w' : World) : Prop :=
  ∃ v, e = .returned (.tuple #[v, .bool r.isSome]) ∧ Below w.heap.size w w' ∧ (r = none → v = .slice none 0 0) ∧ ∀ u, r = some u → w'.ownsRow w.heap.size 30 1 v u.length (uv u)
theorem nOf_pos (c : Nat) : 1 ≤ nOf c := by unfold nOf; split; · omega
                                            split <;> omega
theorem uBs_one (v : Nat) : uBs [v] = uB v := by simp [uBs]
theorem gN_at (s : List UInt8) (k : Nat) (h : k < s.length) : gN s k = s[k].toNat := by
  unfold gN; rw [List.getD_eq_getElem?_getD, List.getElem?_eq_getElem h]; rfl
theorem tmz (x a : Nat) (h : x % 64 = a) : (x : Int).tmod 64 = (a : Int) := tm64 x a h
/-- The step at a place. -/
theorem dU_step {p : List Nat} {l : List UInt8} {i c m v : Nat} (hi : i < l.length) (hc : l[i].toNat = c) (hm : nOf c = m) (hv : i + m ≤ l.length → vOf c (gN l (i + 1)) (gN l (i + 2)) = v) :
    dU p (l.drop i) = if l.length < i + m then none else if 65535 < v then none else if uB v ≠ (l.take (i + m)).drop i then none else dU (p ++ [v]) (l.drop (i + m)) := by
  have e : l.drop i = l[i] :: l.drop (i + 1) := List.drop_eq_getElem_cons hi
  have hmp := nOf_pos c
  have g1 : ∀ k, gN (l.drop (i + 1)) k = gN l (i + 1 + k) := fun k => by
    unfold gN; rw [List.getD_eq_getElem?_getD, List.getD_eq_getElem?_getD, List.getElem?_drop]
  rw [e, dU, hc, hm]
  have e1 : (l[i] :: l.drop (i + 1)).length = l.length - i := by rw [← e, List.length_drop]
  rw [e1]
  by_cases h1 : l.length < i + m
  · rw [if_pos (by omega), if_pos h1]
  · rw [if_neg (by omega), if_neg h1, g1, g1, Nat.add_zero, show i + 1 + 1 = i + 2 by omega, hv (by omega)]
    have e2 : (l[i] :: l.drop (i + 1)).take m = (l.take (i + m)).drop i := by rw [← e, List.drop_take, Nat.add_sub_cancel_left]
    have e3 : (l.drop (i + 1)).drop (m - 1) = l.drop (i + m) := by rw [List.drop_drop]; congr 1; omega
    rw [e2, e3]
theorem take_lt {l : List UInt8} (i m : Nat) : ((l.take (i + m)).drop i) = (l.drop i).take m := by rw [List.drop_take, Nat.add_sub_cancel_left]

set_option maxHeartbeats 16000000 in
theorem units_any (l : List UInt8) (n : Nat) (hn : l.length = n) (hs : n ≤ 100000) (w : World) : Calls Tryd.prog 36 #[.string (tx l)] w (GivesU w (unitsM l)) := by
  obtain ⟨i0, hi0, hz0, hz1, hz2⟩ := info_parts unit_info
  have hts : (tx l).size = n := by rw [tx_size, hn]
  go_enter Tryd.func36, Tryd.ntmps36
  go_wp2
  go_loopg [4, 5] n (fun j v4 v wr => ∃ (i : Nat) (p : List Nat), i ≤ n ∧ j = n - i ∧ v = .int .i64 i ∧ wr.ownsRow w.heap.size 30 1 v4 p.length (uv p) ∧ Below w.heap.size w wr ∧ unitsM l = dU p (l.drop i) ∧ p.length ≤ i)
  case atStart => exact ⟨0, [], by omega, rfl, rfl, World.ownsRow_nil _ _ _ _, Below.refl _ _, rfl, Nat.le_refl _⟩
  case round =>
    obtain ⟨i, p, hi, rfl, rfl, ho, hb, hU, hpl⟩ := hrel
    obtain ⟨wo, rfl⟩ : ∃ W, W = wr := ⟨_, rfl⟩
    obtain ⟨A4, c4, rfl, _⟩ := own_form ho
    obtain ⟨P, hP⟩ : ∃ P, p.length = P := ⟨_, rfl⟩
    rw [hP] at ho hpl ⊢
    have HO := Lib.hid ho
    have HB := Lib.hid hb
    have HU := Lib.hid hU
    have HP := Lib.hid hP
    clear ho hb hU hP
    by_cases hlt : i < n
    · have hil : i < l.length := by omega
      have d0 : decide ((i : Int) < (n : Int)) = true := by rw [decide_eq_true_iff]; omega
      have hat := tx_at l i (by rw [hts]; exact hlt)
      obtain ⟨c, hc⟩ : ∃ c, l[i].toNat = c := ⟨_, rfl⟩
      have hat2 : ((tx l)[i]'(by rw [hts]; exact hlt)).toNat = c := by rw [hat]; exact hc
      have hc256 : c < 256 := by rw [← hc]; exact UInt8.toNat_lt _
      have HC := Lib.hid hc
      clear hat hc
      by_cases h3 : 224 ≤ c
      · skip
        have hm : nOf c = 3 := by unfold nOf; rw [if_pos h3]
        have f3 : decide ((224 : Int) ≤ (c : Int)) = true := by rw [decide_eq_true_iff]; omega
        by_cases him : n < i + 3
        · have hst := dU_step (p := p) (v := vOf c (gN l (i + 1)) (gN l (i + 2))) hil HC.out hm (fun _ => rfl)
          have hr : unitsM l = none := by rw [HU.out, hst, if_pos (by omega)]
          have HR := Lib.hid hr
          have fi : decide ((n : Int) < (i : Int) + 3) = true := by rw [decide_eq_true_iff]; omega
          clear hr hst
          go_wp2_with fail
          go_ret2
          rw [HR.out]
          exact ⟨_, rfl, HB.out, fun _ => rfl, fun u h => (by cases h)⟩
        have fi : decide ((n : Int) < (i : Int) + 3) = false := by rw [decide_eq_false_iff_not]; omega
        have hj1 : i + 1 < l.length := by omega
        have ht1 := tx_at l (i + 1) (by rw [hts]; omega)
        obtain ⟨y1, hy1⟩ : ∃ y, l[i + 1].toNat = y := ⟨_, rfl⟩
        have ht1b : ((tx l)[i + 1]'(by rw [hts]; omega)).toNat = y1 := by rw [ht1]; exact hy1
        have hy1b : y1 < 256 := by rw [← hy1]; exact UInt8.toNat_lt _
        obtain ⟨a1, ha1⟩ : ∃ a, y1 % 64 = a := ⟨_, rfl⟩
        have ha1b : a1 < 64 := by omega
        have hj2 : i + 2 < l.length := by omega
        have ht2 := tx_at l (i + 2) (by rw [hts]; omega)
        obtain ⟨y2, hy2⟩ : ∃ y, l[i + 2].toNat = y := ⟨_, rfl⟩
        have ht2b : ((tx l)[i + 2]'(by rw [hts]; omega)).toNat = y2 := by rw [ht2]; exact hy2
        have hy2b : y2 < 256 := by rw [← hy2]; exact UInt8.toNat_lt _
        obtain ⟨a2, ha2⟩ : ∃ a, y2 % 64 = a := ⟨_, rfl⟩
        have ha2b : a2 < 64 := by omega
        obtain ⟨d, hd⟩ : ∃ d, c = 224 + d := ⟨c - 224, by omega⟩
        have hdb : d < 32 := by omega
        obtain ⟨v, hv⟩ : ∃ v, d * 4096 + a1 * 64 + a2 = v := ⟨_, rfl⟩
        have hvb : v < 200000 := by omega
        have HST := Lib.hid (dU_step (p := p) (v := v) hil HC.out hm (fun _ => by unfold vOf; rw [if_pos h3, gN_at l (i + 1) hj1, gN_at l (i + 2) hj2, hy1, ha1, hy2, ha2, ← hv, hd]; omega))
        have k1 : (c : Int) - 224 = (d : Int) := by omega
        have k2 : (d : Int) * 4096 + (a1 : Int) * 64 + (a2 : Int) = (v : Int) := by omega
        have yb6 : 0 ≤ (y1 : Int) ∧ (y1 : Int) ≤ 10000000 := by omega
        have yb7 : 0 ≤ (y2 : Int) ∧ (y2 : Int) ≤ 10000000 := by omega
        have yb8 : 0 ≤ (c : Int) ∧ (c : Int) ≤ 10000000 := by omega
        have yb1 : 0 ≤ (d : Int) ∧ (d : Int) ≤ 10000000 := by omega
        have yb2 : 0 ≤ (d : Int) * 4096 ∧ (d : Int) * 4096 ≤ 10000000 := by omega
        have yb3 : 0 ≤ (v : Int) ∧ (v : Int) ≤ 10000000 := by omega
        have yb4 : 0 ≤ (a1 : Int) * 64 ∧ (a1 : Int) * 64 ≤ 10000000 := by omega
        have yb5 : 0 ≤ (d : Int) * 4096 + (a1 : Int) * 64 ∧ (d : Int) * 4096 + (a1 : Int) * 64 ≤ 10000000 := by omega
        have j1 : (i : Int) + 1 < (n : Int) := by omega
        have j2 : (i : Int) + 2 < (n : Int) := by omega
        have zb6 : ∀ z : Int, z = (y1 : Int) → wrap64 z = (y1 : Int) := fun z h => h ▸ w64 ((y1 : Int)) yb6
        have zb7 : ∀ z : Int, z = (y2 : Int) → wrap64 z = (y2 : Int) := fun z h => h ▸ w64 ((y2 : Int)) yb7
        have zb8 : ∀ z : Int, z = (c : Int) → wrap64 z = (c : Int) := fun z h => h ▸ w64 ((c : Int)) yb8
        have zb1 : ∀ z : Int, z = (d : Int) → wrap64 z = (d : Int) := fun z h => h ▸ w64 ((d : Int)) yb1
        have zb2 : ∀ z : Int, z = (d : Int) * 4096 → wrap64 z = (d : Int) * 4096 := fun z h => h ▸ w64 ((d : Int) * 4096) yb2
        have zb3 : ∀ z : Int, z = (v : Int) → wrap64 z = (v : Int) := fun z h => h ▸ w64 ((v : Int)) yb3
        have zb4 : ∀ z : Int, z = (a1 : Int) * 64 → wrap64 z = (a1 : Int) * 64 := fun z h => h ▸ w64 ((a1 : Int) * 64) yb4
        have zb5 : ∀ z : Int, z = (d : Int) * 4096 + (a1 : Int) * 64 → wrap64 z = (d : Int) * 4096 + (a1 : Int) * 64 := fun z h => h ▸ w64 ((d : Int) * 4096 + (a1 : Int) * 64) yb5
        have zd6 : ∀ z : Int, z = (y1 : Int) → IntKind.i64.wrap z = (y1 : Int) := fun z h => h ▸ IntWalk.i64_in ((y1 : Int)) (by have := yb6; omega)
        have zd7 : ∀ z : Int, z = (y2 : Int) → IntKind.i64.wrap z = (y2 : Int) := fun z h => h ▸ IntWalk.i64_in ((y2 : Int)) (by have := yb7; omega)
        have zd8 : ∀ z : Int, z = (c : Int) → IntKind.i64.wrap z = (c : Int) := fun z h => h ▸ IntWalk.i64_in ((c : Int)) (by have := yb8; omega)
        have zd1 : ∀ z : Int, z = (d : Int) → IntKind.i64.wrap z = (d : Int) := fun z h => h ▸ IntWalk.i64_in ((d : Int)) (by have := yb1; omega)
        have zd2 : ∀ z : Int, z = (d : Int) * 4096 → IntKind.i64.wrap z = (d : Int) * 4096 := fun z h => h ▸ IntWalk.i64_in ((d : Int) * 4096) (by have := yb2; omega)
        have zd3 : ∀ z : Int, z = (v : Int) → IntKind.i64.wrap z = (v : Int) := fun z h => h ▸ IntWalk.i64_in ((v : Int)) (by have := yb3; omega)
        have zd4 : ∀ z : Int, z = (a1 : Int) * 64 → IntKind.i64.wrap z = (a1 : Int) * 64 := fun z h => h ▸ IntWalk.i64_in ((a1 : Int) * 64) (by have := yb4; omega)
        have zd5 : ∀ z : Int, z = (d : Int) * 4096 + (a1 : Int) * 64 → IntKind.i64.wrap z = (d : Int) * 4096 + (a1 : Int) * 64 := fun z h => h ▸ IntWalk.i64_in ((d : Int) * 4096 + (a1 : Int) * 64) (by have := yb5; omega)
        obtain ⟨I1, hI1⟩ : ∃ I, i + 1 = I := ⟨_, rfl⟩
        have ga1 : IntKind.i64.wrap ((i : Int) + 1) = (I1 : Int) := by rw [← hI1, IntWalk.i64_in _ (by omega)]; simp
        have gb1 : (0 : Int) ≤ (I1 : Int) := by omega
        have gc1 : (I1 : Int) < (n : Int) := by omega
        have ge1 : I1 < (tx l).size := by rw [hts]; omega
        have gd1 : ((tx l)[I1]'ge1).toNat = y1 := by subst hI1; exact ht1b
        obtain ⟨I2, hI2⟩ : ∃ I, i + 2 = I := ⟨_, rfl⟩
        have ga2 : IntKind.i64.wrap ((i : Int) + 2) = (I2 : Int) := by rw [← hI2, IntWalk.i64_in _ (by omega)]; simp
        have gb2 : (0 : Int) ≤ (I2 : Int) := by omega
        have gc2 : (I2 : Int) < (n : Int) := by omega
        have ge2 : I2 < (tx l).size := by rw [hts]; omega
        have gd2 : ((tx l)[I2]'ge2).toNat = y2 := by subst hI2; exact ht2b
        have t1 := tmz y1 a1 ha1
        have t2 := tmz y2 a2 ha2
        clear hv hy1 ht1 ha1 hy2 ht2 ha2 hd hI1 hI2 ht1b ht2b
        go_upto_region 16 with fail
        refine wp_region_still_lit (by kernel_rfl) (by kernel_rfl) ?_
        repeat still_step
        refine wpStill_nil ?_
        obtain ⟨wq, hq⟩ : ∃ W, wo.drew = W := ⟨_, rfl⟩
        have HOq := Lib.hid (own_only HO.out (Only.refl Nob wo).drew (fun _ _ h => h))
        have HBq : Hid (Below w.heap.size w wo.drew) := Lib.hid ⟨HB.out.os, HB.out.tape, HB.out.output, HB.out.size, HB.out.block⟩
        have hq2 : ({ heap := wo.heap, tape := wo.tape, drawn := wo.drawn + 1, os := wo.os, output := wo.output } : World) = wq := hq
        rw [hq2]
        rw [hq] at HOq HBq
        clear hq hq2
        replace HO := HOq
        replace HB := HBq
        by_cases h65 : 65535 < v
        · have hr : unitsM l = none := by rw [HU.out, HST.out, if_neg (by omega), if_pos h65]
          have HR := Lib.hid hr
          have e65 : decide ((65535 : Int) < (v : Int)) = true := by rw [decide_eq_true_iff]; omega
          clear hr
          go_upto_region 17 with fail
          refine wp_region_held_drew (S := (fun W => Below wq.heap.size wq W)) (by kernel_rfl) (Below.refl _ _).drew (fun hHeld => ?_)
          have hHeld0 := hHeld
          generalize hwd : wq.drew = wd at *
          clear hwd hHeld0
          refine wpAnyH_take (i := 0) (oi := ⟨some 60, _, _, _, _, _⟩) (v := ?vk30_1) rfl (by kernel_rfl) (by kernel_rfl) (by kernel_rfl) (fun _ _ _ h => h) (Or.inl ⟨by rfl, ?hyk30_1⟩) (by assumption) ?restk30_1
          case hyk30_1 => intro W hSW; go_simp; try rfl
          try simp only [Act.put, List.setIfInBounds_toArray, List.set_cons_zero, List.set_cons_succ]
          refine wpAnyH_take (i := 1) (oi := ⟨some 61, _, _, _, _, _⟩) (v := .bool true) rfl (by kernel_rfl) (by kernel_rfl) (by kernel_rfl) (fun _ _ _ h => h) (Or.inl ⟨by rfl, ?hyk31_2⟩) (by assumption) ?restk31_2
          case hyk31_2 => intro W hSW; go_simp; try rfl
          try simp only [Act.put, List.setIfInBounds_toArray, List.set_cons_zero, List.set_cons_succ]
          refine wpAnyH_take (i := 2) (oi := ⟨some 62, _, _, _, _, _⟩) (v := .bool true) rfl (by kernel_rfl) (by kernel_rfl) (by kernel_rfl) (fun _ _ _ h => h) (Or.inl ⟨by rfl, ?hyk32_3⟩) (by assumption) ?restk32_3
          case hyk32_3 => intro W hSW; go_simp; try rfl
          try simp only [Act.put, List.setIfInBounds_toArray, List.set_cons_zero, List.set_cons_succ]
          refine wpAnyH_take (i := 3) (oi := ⟨some 63, _, _, _, _, _⟩) (v := undef) rfl (by kernel_rfl) (by kernel_rfl) (by kernel_rfl) (fun _ _ _ h => h) (Or.inr ⟨by rfl, rfl⟩) (by assumption) ?restk33_4
          try simp only [Act.put, List.setIfInBounds_toArray, List.set_cons_zero, List.set_cons_succ]
          refine wpAnyH_take (i := 4) (oi := ⟨some 64, _, _, _, _, _⟩) (v := undef) rfl (by kernel_rfl) (by kernel_rfl) (by kernel_rfl) (fun _ _ _ h => h) (Or.inr ⟨by rfl, rfl⟩) (by assumption) ?restk34_5
          try simp only [Act.put, List.setIfInBounds_toArray, List.set_cons_zero, List.set_cons_succ]
          refine wpAnyH_take (i := 5) (oi := ⟨some 65, _, _, _, _, _⟩) (v := undef) rfl (by kernel_rfl) (by kernel_rfl) (by kernel_rfl) (fun _ _ _ h => h) (Or.inr ⟨by rfl, rfl⟩) (by assumption) ?restk35_6
          try simp only [Act.put, List.setIfInBounds_toArray, List.set_cons_zero, List.set_cons_succ]
          refine wpAnyH_take (i := 6) (oi := ⟨some 66, _, _, _, _, _⟩) (v := undef) rfl (by kernel_rfl) (by kernel_rfl) (by kernel_rfl) (fun _ _ _ h => h) (Or.inr ⟨by rfl, rfl⟩) (by assumption) ?restk36_7
          try simp only [Act.put, List.setIfInBounds_toArray, List.set_cons_zero, List.set_cons_succ]
          refine wpAnyH_take (i := 7) (oi := ⟨some 67, _, _, _, _, _⟩) (v := undef) rfl (by kernel_rfl) (by kernel_rfl) (by kernel_rfl) (fun _ _ _ h => h) (Or.inr ⟨by rfl, rfl⟩) (by assumption) ?restk37_8
          try simp only [Act.put, List.setIfInBounds_toArray, List.set_cons_zero, List.set_cons_succ]
          refine wpAnyH_take (i := 8) (oi := ⟨some 68, _, _, _, _, _⟩) (v := undef) rfl (by kernel_rfl) (by kernel_rfl) (by kernel_rfl) (fun _ _ _ h => h) (Or.inr ⟨by rfl, rfl⟩) (by assumption) ?restk38_9
          try simp only [Act.put, List.setIfInBounds_toArray, List.set_cons_zero, List.set_cons_succ]
          refine wpAnyH_take (i := 9) (oi := ⟨some 69, _, _, _, _, _⟩) (v := undef) rfl (by kernel_rfl) (by kernel_rfl) (by kernel_rfl) (fun _ _ _ h => h) (Or.inr ⟨by rfl, rfl⟩) (by assumption) ?restk39_10
          try simp only [Act.put, List.setIfInBounds_toArray, List.set_cons_zero, List.set_cons_succ]
          refine wpAnyH_take (i := 10) (oi := ⟨some 70, _, _, _, _, _⟩) (v := undef) rfl (by kernel_rfl) (by kernel_rfl) (by kernel_rfl) (fun _ _ _ h => h) (Or.inr ⟨by rfl, rfl⟩) (by assumption) ?restk310_11
          try simp only [Act.put, List.setIfInBounds_toArray, List.set_cons_zero, List.set_cons_succ]
          refine wpAnyH_take (i := 11) (oi := ⟨some 71, _, _, _, _, _⟩) (v := undef) rfl (by kernel_rfl) (by kernel_rfl) (by kernel_rfl) (fun _ _ _ h => h) (Or.inr ⟨by rfl, rfl⟩) (by assumption) ?restk311_12
          try simp only [Act.put, List.setIfInBounds_toArray, List.set_cons_zero, List.set_cons_succ]
          refine wpAnyH_take (i := 12) (oi := ⟨some 72, _, _, _, _, _⟩) (v := undef) rfl (by kernel_rfl) (by kernel_rfl) (by kernel_rfl) (fun _ _ _ h => h) (Or.inr ⟨by rfl, rfl⟩) (by assumption) ?restk312_13
          try simp only [Act.put, List.setIfInBounds_toArray, List.set_cons_zero, List.set_cons_succ]
          refine wpAnyH_take (i := 13) (oi := ⟨some 73, _, _, _, _, _⟩) (v := undef) rfl (by kernel_rfl) (by kernel_rfl) (by kernel_rfl) (fun _ _ _ h => h) (Or.inr ⟨by rfl, rfl⟩) (by assumption) ?restk313_14
          try simp only [Act.put, List.setIfInBounds_toArray, List.set_cons_zero, List.set_cons_succ]
          refine wpAnyH_take (i := 14) (oi := ⟨some 74, _, _, _, _, _⟩) (v := .bool true) rfl (by kernel_rfl) (by kernel_rfl) (by kernel_rfl) (fun _ _ _ h => h) (Or.inl ⟨by rfl, ?hyk314_15⟩) (by assumption) ?restk314_15
          case hyk314_15 => intro W hSW; go_simp; try rfl
          try simp only [Act.put, List.setIfInBounds_toArray, List.set_cons_zero, List.set_cons_succ]
          refine wpAnyH_done (by kernel_rfl) ?_ _
          have HB9 := Lib.hid hHeld
          clear hHeld
          go_wp2_with fail
          go_ret2
          rw [HR.out]
          exact ⟨_, rfl, HB.out.trans (HB9.out.mono HB.out.size), fun _ => rfl, fun u h => (by cases h)⟩
        have e65 : decide ((65535 : Int) < (v : Int)) = false := by rw [decide_eq_false_iff_not]; omega
        have h65b : v < 65536 := by omega
        have u16 : IntKind.u16.wrap (v : Int) = (v : Int) := IntWalk.u16_in _ (by omega)
        have UBC := Lib.hid (fun (W : World) (A : Option Addr) (c B : Nat) (h1 : Seen W B 1 A 1 c (uv [v])) (h2 : B ≤ W.heap.size) => uBs_one v ▸ unitBytes_any [v] (by simpa using h65b) A 1 c B rfl (by omega) W h1 h2)
        have hcut := tx_cut l i (i + 3)
        obtain ⟨T, hT⟩ : ∃ T, (l.take (i + 3)).drop i = T := ⟨_, rfl⟩
        rw [hT] at hcut
        have HT := Lib.hid hT
        have x1 : (0 : Int) ≤ (i : Int) := by omega
        have x2 : (i : Int) ≤ (i : Int) + 3 := by omega
        have x3 : (i : Int) + 3 ≤ (n : Int) := by omega
        have x4 : IntKind.i64.wrap ((i : Int) + 3) = (i : Int) + 3 := IntWalk.i64_in _ (by omega)
        have x5 : ((i : Int) + 3).toNat = i + 3 := by omega
        have hzb := HB.out.size
        clear hT
        cases hcmp : ((tx (uB v)).toList == (tx T).toList) with
        | false =>
          have hne : uB v ≠ (l.take (i + 3)).drop i := by intro e; rw [HT.out] at e; rw [e] at hcmp; simp at hcmp
          have hr : unitsM l = none := by rw [HU.out, HST.out, if_neg (by omega), if_neg h65, if_pos hne]
          have HR := Lib.hid hr
          clear hr hne
          go_upto_region 17 with fail
          refine wp_region_held_drew (S := (fun W => Below wq.heap.size wq W)) (by kernel_rfl) (Below.refl _ _).drew (fun hHeld => ?_)
          have hHeld0 := hHeld
          generalize hwd : wq.drew = wd at *
          clear hwd hHeld0
          refine wpAnyH_take (i := 0) (oi := ⟨some 60, _, _, _, _, _⟩) (v := ?vt3t0_1) rfl (by kernel_rfl) (by kernel_rfl) (by kernel_rfl) (fun _ _ _ h => h) (Or.inl ⟨by rfl, ?hyt3t0_1⟩) (by assumption) ?restt3t0_1
          case hyt3t0_1 => intro W hSW; go_simp; try rfl
          try simp only [Act.put, List.setIfInBounds_toArray, List.set_cons_zero, List.set_cons_succ]
          refine wpAnyH_take (i := 1) (oi := ⟨some 61, _, _, _, _, _⟩) (v := .bool false) rfl (by kernel_rfl) (by kernel_rfl) (by kernel_rfl) (fun _ _ _ h => h) (Or.inl ⟨by rfl, ?hyt3t1_2⟩) (by assumption) ?restt3t1_2
          case hyt3t1_2 => intro W hSW; go_simp; try rfl
          try simp only [Act.put, List.setIfInBounds_toArray, List.set_cons_zero, List.set_cons_succ]
          refine wpAnyH_take (i := 2) (oi := ⟨some 62, _, _, _, _, _⟩) (v := .bool false) rfl (by kernel_rfl) (by kernel_rfl) (by kernel_rfl) (fun _ _ _ h => h) (Or.inl ⟨by rfl, ?hyt3t2_3⟩) (by assumption) ?restt3t2_3
          case hyt3t2_3 => intro W hSW; go_simp; try rfl
          try simp only [Act.put, List.setIfInBounds_toArray, List.set_cons_zero, List.set_cons_succ]
          refine wpAnyH_take (i := 3) (oi := ⟨some 63, _, _, _, _, _⟩) (v := ?vt3t3_4) rfl (by kernel_rfl) (by kernel_rfl) (by kernel_rfl) (fun _ _ _ h => h) (Or.inl ⟨by rfl, ?hyt3t3_4⟩) (by assumption) ?restt3t3_4
          case hyt3t3_4 => intro W hSW; go_simp; try rfl
          try simp only [Act.put, List.setIfInBounds_toArray, List.set_cons_zero, List.set_cons_succ]
          refine wpAnyH_take (i := 4) (oi := ⟨some 64, _, _, _, _, _⟩) (v := .int .u16 (v : Int)) rfl (by kernel_rfl) (by kernel_rfl) (by kernel_rfl) (fun _ _ _ h => h) (Or.inl ⟨by rfl, ?hyt3t4_5⟩) (by assumption) ?restt3t4_5
          case hyt3t4_5 => intro W hSW; go_simp; try rfl
          try simp only [Act.put, List.setIfInBounds_toArray, List.set_cons_zero, List.set_cons_succ]
          refine wpAnyH_take (i := 7) (oi := ⟨some 67, _, _, _, _, _⟩) (v := ?vt3t7_6) rfl (by kernel_rfl) (by kernel_rfl) (by kernel_rfl) (fun _ _ _ h => h) (Or.inl ⟨by rfl, ?hyt3t7_6⟩) (by assumption) ?restt3t7_6
          case hyt3t7_6 => intro W hSW; go_simp; try rfl
          try simp only [Act.put, List.setIfInBounds_toArray, List.set_cons_zero, List.set_cons_succ]
          refine wpAnyH_take (i := 8) (oi := ⟨some 68, _, _, _, _, _⟩) (v := ?vt3t8_7) rfl (by kernel_rfl) (by kernel_rfl) (by kernel_rfl) (fun _ _ _ h => h) (Or.inl ⟨by rfl, ?hyt3t8_7⟩) (by assumption) ?restt3t8_7
          case hyt3t8_7 => intro W hSW; go_simp; try rfl
          try simp only [Act.put, List.setIfInBounds_toArray, List.set_cons_zero, List.set_cons_succ]
          refine wpAnyH_take (i := 9) (oi := ⟨some 69, _, _, _, _, _⟩) (v := ?vt3t9_8) rfl (by kernel_rfl) (by kernel_rfl) (by kernel_rfl) (fun _ _ _ h => h) (Or.inl ⟨by rfl, ?hyt3t9_8⟩) (by assumption) ?restt3t9_8
          case hyt3t9_8 => intro W hSW; go_simp; try rfl
          try simp only [Act.put, List.setIfInBounds_toArray, List.set_cons_zero, List.set_cons_succ]
          refine wpAnyH_take (i := 10) (oi := ⟨some 70, _, _, _, _, _⟩) (v := ?vt3t10_9) rfl (by kernel_rfl) (by kernel_rfl) (by kernel_rfl) (fun _ _ _ h => h) (Or.inl ⟨by rfl, ?hyt3t10_9⟩) (by assumption) ?restt3t10_9
          case hyt3t10_9 => intro W hSW; go_simp; try rfl
          try simp only [Act.put, List.setIfInBounds_toArray, List.set_cons_zero, List.set_cons_succ]
          refine wpAnyH_take (i := 11) (oi := ⟨some 71, _, _, _, _, _⟩) (v := .int .i64 ((i : Int) + 3)) rfl (by kernel_rfl) (by kernel_rfl) (by kernel_rfl) (fun _ _ _ h => h) (Or.inl ⟨by rfl, ?hyt3t11_10⟩) (by assumption) ?restt3t11_10
          case hyt3t11_10 => intro W hSW; go_simp; try rfl
          try simp only [Act.put, List.setIfInBounds_toArray, List.set_cons_zero, List.set_cons_succ]
          refine wpAnyH_take (i := 12) (oi := ⟨some 72, _, _, _, _, _⟩) (v := .string (tx T)) rfl (by kernel_rfl) (by kernel_rfl) (by kernel_rfl) (fun _ _ _ h => h) (Or.inl ⟨by rfl, ?hyt3t12_11⟩) (by assumption) ?restt3t12_11
          case hyt3t12_11 => intro W hSW; have y := hcut; go_simp; try rfl
          try simp only [Act.put, List.setIfInBounds_toArray, List.set_cons_zero, List.set_cons_succ]
          refine wpAnyH_ready (rs := [5]) (by kernel_rfl) (by simp) ?_
          refine (AllReadyH.cons (o := ⟨some 65, _, _, _, _, _⟩) rfl (fun K hK => ?_) AllReadyH.nil)
          · go_simp
            have S17 := Lib.hid (seen_new wd 30 (uv [v]) 1 rfl #[.int .u16 (v : Int)] rfl)
            have hb := (Below.refl wd.heap.size wd).alloc (Nat.le_refl _) (.cells #[.int .u16 (v : Int)] 30)
            refine hK.out _ _ ?_ (fun hHeld2 => ?_)
            · exact bel_after hHeld (Nat.le_refl _) hb
            clear hK K hHeld
            have hHeld := hHeld2; clear hHeld2
            try simp only [Act.put, List.setIfInBounds_toArray, List.set_cons_zero, List.set_cons_succ]
            clear hb
            refine wpAnyH_ready (rs := [6]) (by kernel_rfl) (by simp) ?_
            refine (AllReadyH.cons (o := ⟨some 66, _, _, _, _, _⟩) rfl (fun K hK => ?_) AllReadyH.nil)
            · go_simp
              refine (UBC.out _ _ _ _ S17.out (by rw [World.size_alloc]; exact Nat.le_refl _)).mono ?_; rintro e17 w17 ⟨rfl, hb⟩
              refine hK.out _ _ ?_ (fun hHeld2 => ?_)
              · exact bel_after hHeld (Nat.le_refl _) hb
              clear hK K hHeld
              have hHeld := hHeld2; clear hHeld2
              try simp only [Act.put, List.setIfInBounds_toArray, List.set_cons_zero, List.set_cons_succ]
              clear hb
              refine wpAnyH_take (i := 13) (oi := ⟨some 73, _, _, _, _, _⟩) (v := .bool true) rfl (by kernel_rfl) (by kernel_rfl) (by kernel_rfl) (fun _ _ _ h => h) (Or.inl ⟨by rfl, ?hyt3t13_14⟩) (by assumption) ?restt3t13_14
              case hyt3t13_14 => intro W hSW; go_simp; try rfl
              try simp only [Act.put, List.setIfInBounds_toArray, List.set_cons_zero, List.set_cons_succ]
              refine wpAnyH_take (i := 14) (oi := ⟨some 74, _, _, _, _, _⟩) (v := .bool true) rfl (by kernel_rfl) (by kernel_rfl) (by kernel_rfl) (fun _ _ _ h => h) (Or.inl ⟨by rfl, ?hyt3t14_15⟩) (by assumption) ?restt3t14_15
              case hyt3t14_15 => intro W hSW; go_simp; try rfl
              try simp only [Act.put, List.setIfInBounds_toArray, List.set_cons_zero, List.set_cons_succ]
              refine wpAnyH_done (by kernel_rfl) ?_ _
              have HB9 := Lib.hid hHeld
              clear hHeld
              go_wp2_with fail
              go_ret2
              rw [HR.out]
              exact ⟨_, rfl, HB.out.trans (HB9.out.mono hzb), fun _ => rfl, fun u h => (by cases h)⟩
        | true =>
          have heq : uB v = (l.take (i + 3)).drop i := by
            have h1 : (tx (uB v)).toList = (tx T).toList := by simpa using hcmp
            rw [ByteArray.toList_eq, ByteArray.toList_eq, tx_list, tx_list] at h1
            rw [h1, HT.out]
          have hr : unitsM l = dU (p ++ [v]) (l.drop (i + 3)) := by rw [HU.out, HST.out, if_neg (by omega), if_neg h65, if_neg (fun h => h heq)]
          have HR := Lib.hid hr
          have r1 : P + 1 ≤ maxLen := by simp [maxLen]; omega
          have r2 : (P + 1) * 2 ≤ 140737488355328 := by omega
          clear hr heq
          go_upto_region 17 with fail
          refine wp_region_held_drew (S := (fun W => Below wq.heap.size wq W)) (by kernel_rfl) (Below.refl _ _).drew (fun hHeld => ?_)
          have hHeld0 := hHeld
          generalize hwd : wq.drew = wd at *
          clear hwd hHeld0
          refine wpAnyH_take (i := 0) (oi := ⟨some 60, _, _, _, _, _⟩) (v := ?vt3f0_1) rfl (by kernel_rfl) (by kernel_rfl) (by kernel_rfl) (fun _ _ _ h => h) (Or.inl ⟨by rfl, ?hyt3f0_1⟩) (by assumption) ?restt3f0_1
          case hyt3f0_1 => intro W hSW; go_simp; try rfl
          try simp only [Act.put, List.setIfInBounds_toArray, List.set_cons_zero, List.set_cons_succ]
          refine wpAnyH_take (i := 1) (oi := ⟨some 61, _, _, _, _, _⟩) (v := .bool false) rfl (by kernel_rfl) (by kernel_rfl) (by kernel_rfl) (fun _ _ _ h => h) (Or.inl ⟨by rfl, ?hyt3f1_2⟩) (by assumption) ?restt3f1_2
          case hyt3f1_2 => intro W hSW; go_simp; try rfl
          try simp only [Act.put, List.setIfInBounds_toArray, List.set_cons_zero, List.set_cons_succ]
          refine wpAnyH_take (i := 2) (oi := ⟨some 62, _, _, _, _, _⟩) (v := .bool false) rfl (by kernel_rfl) (by kernel_rfl) (by kernel_rfl) (fun _ _ _ h => h) (Or.inl ⟨by rfl, ?hyt3f2_3⟩) (by assumption) ?restt3f2_3
          case hyt3f2_3 => intro W hSW; go_simp; try rfl
          try simp only [Act.put, List.setIfInBounds_toArray, List.set_cons_zero, List.set_cons_succ]
          refine wpAnyH_take (i := 3) (oi := ⟨some 63, _, _, _, _, _⟩) (v := ?vt3f3_4) rfl (by kernel_rfl) (by kernel_rfl) (by kernel_rfl) (fun _ _ _ h => h) (Or.inl ⟨by rfl, ?hyt3f3_4⟩) (by assumption) ?restt3f3_4
          case hyt3f3_4 => intro W hSW; go_simp; try rfl
          try simp only [Act.put, List.setIfInBounds_toArray, List.set_cons_zero, List.set_cons_succ]
          refine wpAnyH_take (i := 4) (oi := ⟨some 64, _, _, _, _, _⟩) (v := .int .u16 (v : Int)) rfl (by kernel_rfl) (by kernel_rfl) (by kernel_rfl) (fun _ _ _ h => h) (Or.inl ⟨by rfl, ?hyt3f4_5⟩) (by assumption) ?restt3f4_5
          case hyt3f4_5 => intro W hSW; go_simp; try rfl
          try simp only [Act.put, List.setIfInBounds_toArray, List.set_cons_zero, List.set_cons_succ]
          refine wpAnyH_take (i := 7) (oi := ⟨some 67, _, _, _, _, _⟩) (v := ?vt3f7_6) rfl (by kernel_rfl) (by kernel_rfl) (by kernel_rfl) (fun _ _ _ h => h) (Or.inl ⟨by rfl, ?hyt3f7_6⟩) (by assumption) ?restt3f7_6
          case hyt3f7_6 => intro W hSW; go_simp; try rfl
          try simp only [Act.put, List.setIfInBounds_toArray, List.set_cons_zero, List.set_cons_succ]
          refine wpAnyH_take (i := 8) (oi := ⟨some 68, _, _, _, _, _⟩) (v := ?vt3f8_7) rfl (by kernel_rfl) (by kernel_rfl) (by kernel_rfl) (fun _ _ _ h => h) (Or.inl ⟨by rfl, ?hyt3f8_7⟩) (by assumption) ?restt3f8_7
          case hyt3f8_7 => intro W hSW; go_simp; try rfl
          try simp only [Act.put, List.setIfInBounds_toArray, List.set_cons_zero, List.set_cons_succ]
          refine wpAnyH_take (i := 9) (oi := ⟨some 69, _, _, _, _, _⟩) (v := ?vt3f9_8) rfl (by kernel_rfl) (by kernel_rfl) (by kernel_rfl) (fun _ _ _ h => h) (Or.inl ⟨by rfl, ?hyt3f9_8⟩) (by assumption) ?restt3f9_8
          case hyt3f9_8 => intro W hSW; go_simp; try rfl
          try simp only [Act.put, List.setIfInBounds_toArray, List.set_cons_zero, List.set_cons_succ]
          refine wpAnyH_take (i := 10) (oi := ⟨some 70, _, _, _, _, _⟩) (v := ?vt3f10_9) rfl (by kernel_rfl) (by kernel_rfl) (by kernel_rfl) (fun _ _ _ h => h) (Or.inl ⟨by rfl, ?hyt3f10_9⟩) (by assumption) ?restt3f10_9
          case hyt3f10_9 => intro W hSW; go_simp; try rfl
          try simp only [Act.put, List.setIfInBounds_toArray, List.set_cons_zero, List.set_cons_succ]
          refine wpAnyH_take (i := 11) (oi := ⟨some 71, _, _, _, _, _⟩) (v := .int .i64 ((i : Int) + 3)) rfl (by kernel_rfl) (by kernel_rfl) (by kernel_rfl) (fun _ _ _ h => h) (Or.inl ⟨by rfl, ?hyt3f11_10⟩) (by assumption) ?restt3f11_10
          case hyt3f11_10 => intro W hSW; go_simp; try rfl
          try simp only [Act.put, List.setIfInBounds_toArray, List.set_cons_zero, List.set_cons_succ]
          refine wpAnyH_take (i := 12) (oi := ⟨some 72, _, _, _, _, _⟩) (v := .string (tx T)) rfl (by kernel_rfl) (by kernel_rfl) (by kernel_rfl) (fun _ _ _ h => h) (Or.inl ⟨by rfl, ?hyt3f12_11⟩) (by assumption) ?restt3f12_11
          case hyt3f12_11 => intro W hSW; have y := hcut; go_simp; try rfl
          try simp only [Act.put, List.setIfInBounds_toArray, List.set_cons_zero, List.set_cons_succ]
          refine wpAnyH_ready (rs := [5]) (by kernel_rfl) (by simp) ?_
          refine (AllReadyH.cons (o := ⟨some 65, _, _, _, _, _⟩) rfl (fun K hK => ?_) AllReadyH.nil)
          · go_simp
            have S17 := Lib.hid (seen_new wd 30 (uv [v]) 1 rfl #[.int .u16 (v : Int)] rfl)
            have hb := (Below.refl wd.heap.size wd).alloc (Nat.le_refl _) (.cells #[.int .u16 (v : Int)] 30)
            refine hK.out _ _ ?_ (fun hHeld2 => ?_)
            · exact bel_after hHeld (Nat.le_refl _) hb
            clear hK K hHeld
            have hHeld := hHeld2; clear hHeld2
            try simp only [Act.put, List.setIfInBounds_toArray, List.set_cons_zero, List.set_cons_succ]
            clear hb
            refine wpAnyH_ready (rs := [6]) (by kernel_rfl) (by simp) ?_
            refine (AllReadyH.cons (o := ⟨some 66, _, _, _, _, _⟩) rfl (fun K hK => ?_) AllReadyH.nil)
            · go_simp
              refine (UBC.out _ _ _ _ S17.out (by rw [World.size_alloc]; exact Nat.le_refl _)).mono ?_; rintro e17 w17 ⟨rfl, hb⟩
              refine hK.out _ _ ?_ (fun hHeld2 => ?_)
              · exact bel_after hHeld (Nat.le_refl _) hb
              clear hK K hHeld
              have hHeld := hHeld2; clear hHeld2
              try simp only [Act.put, List.setIfInBounds_toArray, List.set_cons_zero, List.set_cons_succ]
              clear hb
              refine wpAnyH_take (i := 13) (oi := ⟨some 73, _, _, _, _, _⟩) (v := .bool false) rfl (by kernel_rfl) (by kernel_rfl) (by kernel_rfl) (fun _ _ _ h => h) (Or.inl ⟨by rfl, ?hyt3f13_14⟩) (by assumption) ?restt3f13_14
              case hyt3f13_14 => intro W hSW; go_simp; try rfl
              try simp only [Act.put, List.setIfInBounds_toArray, List.set_cons_zero, List.set_cons_succ]
              refine wpAnyH_take (i := 14) (oi := ⟨some 74, _, _, _, _, _⟩) (v := .bool false) rfl (by kernel_rfl) (by kernel_rfl) (by kernel_rfl) (fun _ _ _ h => h) (Or.inl ⟨by rfl, ?hyt3f14_15⟩) (by assumption) ?restt3f14_15
              case hyt3f14_15 => intro W hSW; go_simp; try rfl
              try simp only [Act.put, List.setIfInBounds_toArray, List.set_cons_zero, List.set_cons_succ]
              refine wpAnyH_done (by kernel_rfl) ?_ _
              have HB9 := Lib.hid hHeld
              clear hHeld UBC S17
              have BB := Lib.hid ((HB9.out).alloc HB9.out.size (.cells #[.int .u16 (v : Int)] 30))
              have HO2 := Lib.hid (own_only HO.out (Only.of_below BB.out Nob) (fun _ _ h => h))
              have HS := Lib.hid (seen_new w17 30 (uv [v]) 1 rfl #[.int .u16 (v : Int)] rfl)
              have r3 : w.heap.size ≤ (w17.alloc (.cells #[.int .u16 (v : Int)] 30)).heap.size := by rw [World.size_alloc]; have := HB9.out.size; omega
              go_wp2_with (at_builtin; refine wpList_append_seen _ rfl (.tmp 75) (.tmp 78) _ rfl w.heap.size 30 i0 _ 1 2 Tryd.underlying44 hi0 hz0 hz1 hz2 rfl (by omega) (.slice A4 P c4) P (uv p) rfl HO2.out (w17.heap.size + 1) (some ⟨w17.heap.size, 0, none⟩) 1 1 (uv [v]) rfl HS.out (uv_one _) r1 r2 r3 ?_; intro v2 w2 ho2 hg2 hv2)
              go_roundg (n - (i + 3))
              case measure => omega
              case rel =>
                refine ⟨i + 3, p ++ [v], by omega, rfl, by go_num, ?_, ((HB.out.trans (BB.out.mono hzb)).grown hg2 r3 (fun j hj => (own_whole HO.out hj).1)), HR.out, (by rw [List.length_append, HP.out]; simp; omega)⟩
                rw [List.length_append, HP.out, uv_app]
                exact ho2
      by_cases h2 : 192 ≤ c
      · skip
        have hm : nOf c = 2 := by unfold nOf; rw [if_neg h3, if_pos h2]
        have f3 : decide ((224 : Int) ≤ (c : Int)) = false := by rw [decide_eq_false_iff_not]; omega
        have f2 : decide ((192 : Int) ≤ (c : Int)) = true := by rw [decide_eq_true_iff]; omega
        by_cases him : n < i + 2
        · have hst := dU_step (p := p) (v := vOf c (gN l (i + 1)) (gN l (i + 2))) hil HC.out hm (fun _ => rfl)
          have hr : unitsM l = none := by rw [HU.out, hst, if_pos (by omega)]
          have HR := Lib.hid hr
          have fi : decide ((n : Int) < (i : Int) + 2) = true := by rw [decide_eq_true_iff]; omega
          clear hr hst
          go_wp2_with fail
          go_ret2
          rw [HR.out]
          exact ⟨_, rfl, HB.out, fun _ => rfl, fun u h => (by cases h)⟩
        have fi : decide ((n : Int) < (i : Int) + 2) = false := by rw [decide_eq_false_iff_not]; omega
        have hj1 : i + 1 < l.length := by omega
        have ht1 := tx_at l (i + 1) (by rw [hts]; omega)
        obtain ⟨y1, hy1⟩ : ∃ y, l[i + 1].toNat = y := ⟨_, rfl⟩
        have ht1b : ((tx l)[i + 1]'(by rw [hts]; omega)).toNat = y1 := by rw [ht1]; exact hy1
        have hy1b : y1 < 256 := by rw [← hy1]; exact UInt8.toNat_lt _
        obtain ⟨a1, ha1⟩ : ∃ a, y1 % 64 = a := ⟨_, rfl⟩
        have ha1b : a1 < 64 := by omega
        obtain ⟨d, hd⟩ : ∃ d, c = 192 + d := ⟨c - 192, by omega⟩
        have hdb : d < 32 := by omega
        obtain ⟨v, hv⟩ : ∃ v, d * 64 + a1 = v := ⟨_, rfl⟩
        have hvb : v < 2048 := by omega
        have HST := Lib.hid (dU_step (p := p) (v := v) hil HC.out hm (fun _ => by unfold vOf; rw [if_neg h3, if_pos h2, gN_at l (i + 1) hj1, hy1, ha1, ← hv, hd]; omega))
        have k1 : (c : Int) - 192 = (d : Int) := by omega
        have k2 : (d : Int) * 64 + (a1 : Int) = (v : Int) := by omega
        have yb1 : 0 ≤ (d : Int) ∧ (d : Int) ≤ 10000000 := by omega
        have yb2 : 0 ≤ (d : Int) * 64 ∧ (d : Int) * 64 ≤ 10000000 := by omega
        have yb3 : 0 ≤ (v : Int) ∧ (v : Int) ≤ 10000000 := by omega
        have yb4 : 0 ≤ (i : Int) + 1 ∧ (i : Int) + 1 ≤ 10000000 := by omega
        have j1 : (i : Int) + 1 < (n : Int) := by omega
        have zb1 : ∀ z : Int, z = (d : Int) → wrap64 z = (d : Int) := fun z h => h ▸ w64 (d : Int) yb1
        have zb2 : ∀ z : Int, z = (d : Int) * 64 → wrap64 z = (d : Int) * 64 := fun z h => h ▸ w64 ((d : Int) * 64) yb2
        have zb3 : ∀ z : Int, z = (v : Int) → wrap64 z = (v : Int) := fun z h => h ▸ w64 (v : Int) yb3
        have t2 := tmz y1 a1 ha1
        have zb6 : ∀ z : Int, z = (y1 : Int) → wrap64 z = (y1 : Int) := fun z h => h ▸ w64 (y1 : Int) (by omega)
        clear hv hy1 ht1 ha1 hd
        have e65 : decide ((65535 : Int) < (v : Int)) = false := by rw [decide_eq_false_iff_not]; omega
        have h65b : v < 65536 := by omega
        have h65 : ¬ 65535 < v := by omega
        have u16 : IntKind.u16.wrap (v : Int) = (v : Int) := IntWalk.u16_in _ (by omega)
        have UBC := Lib.hid (fun (W : World) (A : Option Addr) (c B : Nat) (h1 : Seen W B 1 A 1 c (uv [v])) (h2 : B ≤ W.heap.size) => uBs_one v ▸ unitBytes_any [v] (by simpa using h65b) A 1 c B rfl (by omega) W h1 h2)
        have hcut := tx_cut l i (i + 2)
        obtain ⟨T, hT⟩ : ∃ T, (l.take (i + 2)).drop i = T := ⟨_, rfl⟩
        rw [hT] at hcut
        have HT := Lib.hid hT
        have x1 : (0 : Int) ≤ (i : Int) := by omega
        have x2 : (i : Int) ≤ (i : Int) + 2 := by omega
        have x3 : (i : Int) + 2 ≤ (n : Int) := by omega
        have x4 : IntKind.i64.wrap ((i : Int) + 2) = (i : Int) + 2 := IntWalk.i64_in _ (by omega)
        have x5 : ((i : Int) + 2).toNat = i + 2 := by omega
        have hzb := HB.out.size
        clear hT
        cases hcmp : ((tx (uB v)).toList == (tx T).toList) with
        | false =>
          have hne : uB v ≠ (l.take (i + 2)).drop i := by intro e; rw [HT.out] at e; rw [e] at hcmp; simp at hcmp
          have hr : unitsM l = none := by rw [HU.out, HST.out, if_neg (by omega), if_neg h65, if_pos hne]
          have HR := Lib.hid hr
          clear hr hne
          go_upto_region 17 with fail
          refine wp_region_held_drew (S := (fun W => Below wo.heap.size wo W)) (by kernel_rfl) (Below.refl _ _).drew (fun hHeld => ?_)
          have hHeld0 := hHeld
          generalize hwd : wo.drew = wd at *
          clear hwd hHeld0
          refine wpAnyH_take (i := 0) (oi := ⟨some 60, _, _, _, _, _⟩) (v := ?vt2t0_1) rfl (by kernel_rfl) (by kernel_rfl) (by kernel_rfl) (fun _ _ _ h => h) (Or.inl ⟨by rfl, ?hyt2t0_1⟩) (by assumption) ?restt2t0_1
          case hyt2t0_1 => intro W hSW; go_simp; try rfl
          try simp only [Act.put, List.setIfInBounds_toArray, List.set_cons_zero, List.set_cons_succ]
          refine wpAnyH_take (i := 1) (oi := ⟨some 61, _, _, _, _, _⟩) (v := .bool false) rfl (by kernel_rfl) (by kernel_rfl) (by kernel_rfl) (fun _ _ _ h => h) (Or.inl ⟨by rfl, ?hyt2t1_2⟩) (by assumption) ?restt2t1_2
          case hyt2t1_2 => intro W hSW; go_simp; try rfl
          try simp only [Act.put, List.setIfInBounds_toArray, List.set_cons_zero, List.set_cons_succ]
          refine wpAnyH_take (i := 2) (oi := ⟨some 62, _, _, _, _, _⟩) (v := .bool false) rfl (by kernel_rfl) (by kernel_rfl) (by kernel_rfl) (fun _ _ _ h => h) (Or.inl ⟨by rfl, ?hyt2t2_3⟩) (by assumption) ?restt2t2_3
          case hyt2t2_3 => intro W hSW; go_simp; try rfl
          try simp only [Act.put, List.setIfInBounds_toArray, List.set_cons_zero, List.set_cons_succ]
          refine wpAnyH_take (i := 3) (oi := ⟨some 63, _, _, _, _, _⟩) (v := ?vt2t3_4) rfl (by kernel_rfl) (by kernel_rfl) (by kernel_rfl) (fun _ _ _ h => h) (Or.inl ⟨by rfl, ?hyt2t3_4⟩) (by assumption) ?restt2t3_4
          case hyt2t3_4 => intro W hSW; go_simp; try rfl
          try simp only [Act.put, List.setIfInBounds_toArray, List.set_cons_zero, List.set_cons_succ]
          refine wpAnyH_take (i := 4) (oi := ⟨some 64, _, _, _, _, _⟩) (v := .int .u16 (v : Int)) rfl (by kernel_rfl) (by kernel_rfl) (by kernel_rfl) (fun _ _ _ h => h) (Or.inl ⟨by rfl, ?hyt2t4_5⟩) (by assumption) ?restt2t4_5
          case hyt2t4_5 => intro W hSW; go_simp; try rfl
          try simp only [Act.put, List.setIfInBounds_toArray, List.set_cons_zero, List.set_cons_succ]
          refine wpAnyH_take (i := 7) (oi := ⟨some 67, _, _, _, _, _⟩) (v := ?vt2t7_6) rfl (by kernel_rfl) (by kernel_rfl) (by kernel_rfl) (fun _ _ _ h => h) (Or.inl ⟨by rfl, ?hyt2t7_6⟩) (by assumption) ?restt2t7_6
          case hyt2t7_6 => intro W hSW; go_simp; try rfl
          try simp only [Act.put, List.setIfInBounds_toArray, List.set_cons_zero, List.set_cons_succ]
          refine wpAnyH_take (i := 8) (oi := ⟨some 68, _, _, _, _, _⟩) (v := ?vt2t8_7) rfl (by kernel_rfl) (by kernel_rfl) (by kernel_rfl) (fun _ _ _ h => h) (Or.inl ⟨by rfl, ?hyt2t8_7⟩) (by assumption) ?restt2t8_7
          case hyt2t8_7 => intro W hSW; go_simp; try rfl
          try simp only [Act.put, List.setIfInBounds_toArray, List.set_cons_zero, List.set_cons_succ]
          refine wpAnyH_take (i := 9) (oi := ⟨some 69, _, _, _, _, _⟩) (v := ?vt2t9_8) rfl (by kernel_rfl) (by kernel_rfl) (by kernel_rfl) (fun _ _ _ h => h) (Or.inl ⟨by rfl, ?hyt2t9_8⟩) (by assumption) ?restt2t9_8
          case hyt2t9_8 => intro W hSW; go_simp; try rfl
          try simp only [Act.put, List.setIfInBounds_toArray, List.set_cons_zero, List.set_cons_succ]
          refine wpAnyH_take (i := 10) (oi := ⟨some 70, _, _, _, _, _⟩) (v := ?vt2t10_9) rfl (by kernel_rfl) (by kernel_rfl) (by kernel_rfl) (fun _ _ _ h => h) (Or.inl ⟨by rfl, ?hyt2t10_9⟩) (by assumption) ?restt2t10_9
          case hyt2t10_9 => intro W hSW; go_simp; try rfl
          try simp only [Act.put, List.setIfInBounds_toArray, List.set_cons_zero, List.set_cons_succ]
          refine wpAnyH_take (i := 11) (oi := ⟨some 71, _, _, _, _, _⟩) (v := .int .i64 ((i : Int) + 2)) rfl (by kernel_rfl) (by kernel_rfl) (by kernel_rfl) (fun _ _ _ h => h) (Or.inl ⟨by rfl, ?hyt2t11_10⟩) (by assumption) ?restt2t11_10
          case hyt2t11_10 => intro W hSW; go_simp; try rfl
          try simp only [Act.put, List.setIfInBounds_toArray, List.set_cons_zero, List.set_cons_succ]
          refine wpAnyH_take (i := 12) (oi := ⟨some 72, _, _, _, _, _⟩) (v := .string (tx T)) rfl (by kernel_rfl) (by kernel_rfl) (by kernel_rfl) (fun _ _ _ h => h) (Or.inl ⟨by rfl, ?hyt2t12_11⟩) (by assumption) ?restt2t12_11
          case hyt2t12_11 => intro W hSW; have y := hcut; go_simp; try rfl
          try simp only [Act.put, List.setIfInBounds_toArray, List.set_cons_zero, List.set_cons_succ]
          refine wpAnyH_ready (rs := [5]) (by kernel_rfl) (by simp) ?_
          refine (AllReadyH.cons (o := ⟨some 65, _, _, _, _, _⟩) rfl (fun K hK => ?_) AllReadyH.nil)
          · go_simp
            have S17 := Lib.hid (seen_new wd 30 (uv [v]) 1 rfl #[.int .u16 (v : Int)] rfl)
            have hb := (Below.refl wd.heap.size wd).alloc (Nat.le_refl _) (.cells #[.int .u16 (v : Int)] 30)
            refine hK.out _ _ ?_ (fun hHeld2 => ?_)
            · exact bel_after hHeld (Nat.le_refl _) hb
            clear hK K hHeld
            have hHeld := hHeld2; clear hHeld2
            try simp only [Act.put, List.setIfInBounds_toArray, List.set_cons_zero, List.set_cons_succ]
            clear hb
            refine wpAnyH_ready (rs := [6]) (by kernel_rfl) (by simp) ?_
            refine (AllReadyH.cons (o := ⟨some 66, _, _, _, _, _⟩) rfl (fun K hK => ?_) AllReadyH.nil)
            · go_simp
              refine (UBC.out _ _ _ _ S17.out (by rw [World.size_alloc]; exact Nat.le_refl _)).mono ?_; rintro e17 w17 ⟨rfl, hb⟩
              refine hK.out _ _ ?_ (fun hHeld2 => ?_)
              · exact bel_after hHeld (Nat.le_refl _) hb
              clear hK K hHeld
              have hHeld := hHeld2; clear hHeld2
              try simp only [Act.put, List.setIfInBounds_toArray, List.set_cons_zero, List.set_cons_succ]
              clear hb
              refine wpAnyH_take (i := 13) (oi := ⟨some 73, _, _, _, _, _⟩) (v := .bool true) rfl (by kernel_rfl) (by kernel_rfl) (by kernel_rfl) (fun _ _ _ h => h) (Or.inl ⟨by rfl, ?hyt2t13_14⟩) (by assumption) ?restt2t13_14
              case hyt2t13_14 => intro W hSW; go_simp; try rfl
              try simp only [Act.put, List.setIfInBounds_toArray, List.set_cons_zero, List.set_cons_succ]
              refine wpAnyH_take (i := 14) (oi := ⟨some 74, _, _, _, _, _⟩) (v := .bool true) rfl (by kernel_rfl) (by kernel_rfl) (by kernel_rfl) (fun _ _ _ h => h) (Or.inl ⟨by rfl, ?hyt2t14_15⟩) (by assumption) ?restt2t14_15
              case hyt2t14_15 => intro W hSW; go_simp; try rfl
              try simp only [Act.put, List.setIfInBounds_toArray, List.set_cons_zero, List.set_cons_succ]
              refine wpAnyH_done (by kernel_rfl) ?_ _
              have HB9 := Lib.hid hHeld
              clear hHeld
              go_wp2_with fail
              go_ret2
              rw [HR.out]
              exact ⟨_, rfl, HB.out.trans (HB9.out.mono hzb), fun _ => rfl, fun u h => (by cases h)⟩
        | true =>
          have heq : uB v = (l.take (i + 2)).drop i := by
            have h1 : (tx (uB v)).toList = (tx T).toList := by simpa using hcmp
            rw [ByteArray.toList_eq, ByteArray.toList_eq, tx_list, tx_list] at h1
            rw [h1, HT.out]
          have hr : unitsM l = dU (p ++ [v]) (l.drop (i + 2)) := by rw [HU.out, HST.out, if_neg (by omega), if_neg h65, if_neg (fun h => h heq)]
          have HR := Lib.hid hr
          have r1 : P + 1 ≤ maxLen := by simp [maxLen]; omega
          have r2 : (P + 1) * 2 ≤ 140737488355328 := by omega
          clear hr heq
          go_upto_region 17 with fail
          refine wp_region_held_drew (S := (fun W => Below wo.heap.size wo W)) (by kernel_rfl) (Below.refl _ _).drew (fun hHeld => ?_)
          have hHeld0 := hHeld
          generalize hwd : wo.drew = wd at *
          clear hwd hHeld0
          refine wpAnyH_take (i := 0) (oi := ⟨some 60, _, _, _, _, _⟩) (v := ?vt2f0_1) rfl (by kernel_rfl) (by kernel_rfl) (by kernel_rfl) (fun _ _ _ h => h) (Or.inl ⟨by rfl, ?hyt2f0_1⟩) (by assumption) ?restt2f0_1
          case hyt2f0_1 => intro W hSW; go_simp; try rfl
          try simp only [Act.put, List.setIfInBounds_toArray, List.set_cons_zero, List.set_cons_succ]
          refine wpAnyH_take (i := 1) (oi := ⟨some 61, _, _, _, _, _⟩) (v := .bool false) rfl (by kernel_rfl) (by kernel_rfl) (by kernel_rfl) (fun _ _ _ h => h) (Or.inl ⟨by rfl, ?hyt2f1_2⟩) (by assumption) ?restt2f1_2
          case hyt2f1_2 => intro W hSW; go_simp; try rfl
          try simp only [Act.put, List.setIfInBounds_toArray, List.set_cons_zero, List.set_cons_succ]
          refine wpAnyH_take (i := 2) (oi := ⟨some 62, _, _, _, _, _⟩) (v := .bool false) rfl (by kernel_rfl) (by kernel_rfl) (by kernel_rfl) (fun _ _ _ h => h) (Or.inl ⟨by rfl, ?hyt2f2_3⟩) (by assumption) ?restt2f2_3
          case hyt2f2_3 => intro W hSW; go_simp; try rfl
          try simp only [Act.put, List.setIfInBounds_toArray, List.set_cons_zero, List.set_cons_succ]
          refine wpAnyH_take (i := 3) (oi := ⟨some 63, _, _, _, _, _⟩) (v := ?vt2f3_4) rfl (by kernel_rfl) (by kernel_rfl) (by kernel_rfl) (fun _ _ _ h => h) (Or.inl ⟨by rfl, ?hyt2f3_4⟩) (by assumption) ?restt2f3_4
          case hyt2f3_4 => intro W hSW; go_simp; try rfl
          try simp only [Act.put, List.setIfInBounds_toArray, List.set_cons_zero, List.set_cons_succ]
          refine wpAnyH_take (i := 4) (oi := ⟨some 64, _, _, _, _, _⟩) (v := .int .u16 (v : Int)) rfl (by kernel_rfl) (by kernel_rfl) (by kernel_rfl) (fun _ _ _ h => h) (Or.inl ⟨by rfl, ?hyt2f4_5⟩) (by assumption) ?restt2f4_5
          case hyt2f4_5 => intro W hSW; go_simp; try rfl
          try simp only [Act.put, List.setIfInBounds_toArray, List.set_cons_zero, List.set_cons_succ]
          refine wpAnyH_take (i := 7) (oi := ⟨some 67, _, _, _, _, _⟩) (v := ?vt2f7_6) rfl (by kernel_rfl) (by kernel_rfl) (by kernel_rfl) (fun _ _ _ h => h) (Or.inl ⟨by rfl, ?hyt2f7_6⟩) (by assumption) ?restt2f7_6
          case hyt2f7_6 => intro W hSW; go_simp; try rfl
          try simp only [Act.put, List.setIfInBounds_toArray, List.set_cons_zero, List.set_cons_succ]
          refine wpAnyH_take (i := 8) (oi := ⟨some 68, _, _, _, _, _⟩) (v := ?vt2f8_7) rfl (by kernel_rfl) (by kernel_rfl) (by kernel_rfl) (fun _ _ _ h => h) (Or.inl ⟨by rfl, ?hyt2f8_7⟩) (by assumption) ?restt2f8_7
          case hyt2f8_7 => intro W hSW; go_simp; try rfl
          try simp only [Act.put, List.setIfInBounds_toArray, List.set_cons_zero, List.set_cons_succ]
          refine wpAnyH_take (i := 9) (oi := ⟨some 69, _, _, _, _, _⟩) (v := ?vt2f9_8) rfl (by kernel_rfl) (by kernel_rfl) (by kernel_rfl) (fun _ _ _ h => h) (Or.inl ⟨by rfl, ?hyt2f9_8⟩) (by assumption) ?restt2f9_8
          case hyt2f9_8 => intro W hSW; go_simp; try rfl
          try simp only [Act.put, List.setIfInBounds_toArray, List.set_cons_zero, List.set_cons_succ]
          refine wpAnyH_take (i := 10) (oi := ⟨some 70, _, _, _, _, _⟩) (v := ?vt2f10_9) rfl (by kernel_rfl) (by kernel_rfl) (by kernel_rfl) (fun _ _ _ h => h) (Or.inl ⟨by rfl, ?hyt2f10_9⟩) (by assumption) ?restt2f10_9
          case hyt2f10_9 => intro W hSW; go_simp; try rfl
          try simp only [Act.put, List.setIfInBounds_toArray, List.set_cons_zero, List.set_cons_succ]
          refine wpAnyH_take (i := 11) (oi := ⟨some 71, _, _, _, _, _⟩) (v := .int .i64 ((i : Int) + 2)) rfl (by kernel_rfl) (by kernel_rfl) (by kernel_rfl) (fun _ _ _ h => h) (Or.inl ⟨by rfl, ?hyt2f11_10⟩) (by assumption) ?restt2f11_10
          case hyt2f11_10 => intro W hSW; go_simp; try rfl
          try simp only [Act.put, List.setIfInBounds_toArray, List.set_cons_zero, List.set_cons_succ]
          refine wpAnyH_take (i := 12) (oi := ⟨some 72, _, _, _, _, _⟩) (v := .string (tx T)) rfl (by kernel_rfl) (by kernel_rfl) (by kernel_rfl) (fun _ _ _ h => h) (Or.inl ⟨by rfl, ?hyt2f12_11⟩) (by assumption) ?restt2f12_11
          case hyt2f12_11 => intro W hSW; have y := hcut; go_simp; try rfl
          try simp only [Act.put, List.setIfInBounds_toArray, List.set_cons_zero, List.set_cons_succ]
          refine wpAnyH_ready (rs := [5]) (by kernel_rfl) (by simp) ?_
          refine (AllReadyH.cons (o := ⟨some 65, _, _, _, _, _⟩) rfl (fun K hK => ?_) AllReadyH.nil)
          · go_simp
            have S17 := Lib.hid (seen_new wd 30 (uv [v]) 1 rfl #[.int .u16 (v : Int)] rfl)
            have hb := (Below.refl wd.heap.size wd).alloc (Nat.le_refl _) (.cells #[.int .u16 (v : Int)] 30)
            refine hK.out _ _ ?_ (fun hHeld2 => ?_)
            · exact bel_after hHeld (Nat.le_refl _) hb
            clear hK K hHeld
            have hHeld := hHeld2; clear hHeld2
            try simp only [Act.put, List.setIfInBounds_toArray, List.set_cons_zero, List.set_cons_succ]
            clear hb
            refine wpAnyH_ready (rs := [6]) (by kernel_rfl) (by simp) ?_
            refine (AllReadyH.cons (o := ⟨some 66, _, _, _, _, _⟩) rfl (fun K hK => ?_) AllReadyH.nil)
            · go_simp
              refine (UBC.out _ _ _ _ S17.out (by rw [World.size_alloc]; exact Nat.le_refl _)).mono ?_; rintro e17 w17 ⟨rfl, hb⟩
              refine hK.out _ _ ?_ (fun hHeld2 => ?_)
              · exact bel_after hHeld (Nat.le_refl _) hb
              clear hK K hHeld
              have hHeld := hHeld2; clear hHeld2
              try simp only [Act.put, List.setIfInBounds_toArray, List.set_cons_zero, List.set_cons_succ]
              clear hb
              refine wpAnyH_take (i := 13) (oi := ⟨some 73, _, _, _, _, _⟩) (v := .bool false) rfl (by kernel_rfl) (by kernel_rfl) (by kernel_rfl) (fun _ _ _ h => h) (Or.inl ⟨by rfl, ?hyt2f13_14⟩) (by assumption) ?restt2f13_14
              case hyt2f13_14 => intro W hSW; go_simp; try rfl
              try simp only [Act.put, List.setIfInBounds_toArray, List.set_cons_zero, List.set_cons_succ]
              refine wpAnyH_take (i := 14) (oi := ⟨some 74, _, _, _, _, _⟩) (v := .bool false) rfl (by kernel_rfl) (by kernel_rfl) (by kernel_rfl) (fun _ _ _ h => h) (Or.inl ⟨by rfl, ?hyt2f14_15⟩) (by assumption) ?restt2f14_15
              case hyt2f14_15 => intro W hSW; go_simp; try rfl
              try simp only [Act.put, List.setIfInBounds_toArray, List.set_cons_zero, List.set_cons_succ]
              refine wpAnyH_done (by kernel_rfl) ?_ _
              have HB9 := Lib.hid hHeld
              clear hHeld UBC S17
              have BB := Lib.hid ((HB9.out).alloc HB9.out.size (.cells #[.int .u16 (v : Int)] 30))
              have HO2 := Lib.hid (own_only HO.out (Only.of_below BB.out Nob) (fun _ _ h => h))
              have HS := Lib.hid (seen_new w17 30 (uv [v]) 1 rfl #[.int .u16 (v : Int)] rfl)
              have r3 : w.heap.size ≤ (w17.alloc (.cells #[.int .u16 (v : Int)] 30)).heap.size := by rw [World.size_alloc]; have := HB9.out.size; omega
              go_wp2_with (at_builtin; refine wpList_append_seen _ rfl (.tmp 75) (.tmp 78) _ rfl w.heap.size 30 i0 _ 1 2 Tryd.underlying44 hi0 hz0 hz1 hz2 rfl (by omega) (.slice A4 P c4) P (uv p) rfl HO2.out (w17.heap.size + 1) (some ⟨w17.heap.size, 0, none⟩) 1 1 (uv [v]) rfl HS.out (uv_one _) r1 r2 r3 ?_; intro v2 w2 ho2 hg2 hv2)
              go_roundg (n - (i + 2))
              case measure => omega
              case rel =>
                refine ⟨i + 2, p ++ [v], by omega, rfl, by go_num, ?_, ((HB.out.trans (BB.out.mono hzb)).grown hg2 r3 (fun j hj => (own_whole HO.out hj).1)), HR.out, (by rw [List.length_append, HP.out]; simp; omega)⟩
                rw [List.length_append, HP.out, uv_app]
                exact ho2
      · skip
        have hm : nOf c = 1 := by unfold nOf; rw [if_neg h3, if_neg h2]
        have f3 : decide ((224 : Int) ≤ (c : Int)) = false := by rw [decide_eq_false_iff_not]; omega
        have f2 : decide ((192 : Int) ≤ (c : Int)) = false := by rw [decide_eq_false_iff_not]; omega
        by_cases him : n < i + 1
        · have hst := dU_step (p := p) (v := vOf c (gN l (i + 1)) (gN l (i + 2))) hil HC.out hm (fun _ => rfl)
          have hr : unitsM l = none := by rw [HU.out, hst, if_pos (by omega)]
          have HR := Lib.hid hr
          have fi : decide ((n : Int) < (i : Int) + 1) = true := by rw [decide_eq_true_iff]; omega
          clear hr hst
          go_wp2_with fail
          go_ret2
          rw [HR.out]
          exact ⟨_, rfl, HB.out, fun _ => rfl, fun u h => (by cases h)⟩
        have fi : decide ((n : Int) < (i : Int) + 1) = false := by rw [decide_eq_false_iff_not]; omega
        obtain ⟨v, hv⟩ : ∃ v, c = v := ⟨_, rfl⟩
        have hcv := hv.symm
        subst hcv
        have HST := Lib.hid (dU_step (p := p) (v := v) hil HC.out hm (fun _ => by unfold vOf; rw [if_neg h3, if_neg h2]))
        have e65 : decide ((65535 : Int) < (v : Int)) = false := by rw [decide_eq_false_iff_not]; omega
        have h65b : v < 65536 := by omega
        have h65 : ¬ 65535 < v := by omega
        have u16 : IntKind.u16.wrap (v : Int) = (v : Int) := IntWalk.u16_in _ (by omega)
        have UBC := Lib.hid (fun (W : World) (A : Option Addr) (c B : Nat) (h1 : Seen W B 1 A 1 c (uv [v])) (h2 : B ≤ W.heap.size) => uBs_one v ▸ unitBytes_any [v] (by simpa using h65b) A 1 c B rfl (by omega) W h1 h2)
        have hcut := tx_cut l i (i + 1)
        obtain ⟨T, hT⟩ : ∃ T, (l.take (i + 1)).drop i = T := ⟨_, rfl⟩
        rw [hT] at hcut
        have HT := Lib.hid hT
        have x1 : (0 : Int) ≤ (i : Int) := by omega
        have x2 : (i : Int) ≤ (i : Int) + 1 := by omega
        have x3 : (i : Int) + 1 ≤ (n : Int) := by omega
        have x4 : IntKind.i64.wrap ((i : Int) + 1) = (i : Int) + 1 := IntWalk.i64_in _ (by omega)
        have x5 : ((i : Int) + 1).toNat = i + 1 := by omega
        have hzb := HB.out.size
        clear hT
        cases hcmp : ((tx (uB v)).toList == (tx T).toList) with
        | false =>
          have hne : uB v ≠ (l.take (i + 1)).drop i := by intro e; rw [HT.out] at e; rw [e] at hcmp; simp at hcmp
          have hr : unitsM l = none := by rw [HU.out, HST.out, if_neg (by omega), if_neg h65, if_pos hne]
          have HR := Lib.hid hr
          clear hr hne
          go_upto_region 17 with fail
          refine wp_region_held_drew (S := (fun W => Below wo.heap.size wo W)) (by kernel_rfl) (Below.refl _ _).drew (fun hHeld => ?_)
          have hHeld0 := hHeld
          generalize hwd : wo.drew = wd at *
          clear hwd hHeld0
          refine wpAnyH_take (i := 0) (oi := ⟨some 60, _, _, _, _, _⟩) (v := ?vt1t0_1) rfl (by kernel_rfl) (by kernel_rfl) (by kernel_rfl) (fun _ _ _ h => h) (Or.inl ⟨by rfl, ?hyt1t0_1⟩) (by assumption) ?restt1t0_1
          case hyt1t0_1 => intro W hSW; go_simp; try rfl
          try simp only [Act.put, List.setIfInBounds_toArray, List.set_cons_zero, List.set_cons_succ]
          refine wpAnyH_take (i := 1) (oi := ⟨some 61, _, _, _, _, _⟩) (v := .bool false) rfl (by kernel_rfl) (by kernel_rfl) (by kernel_rfl) (fun _ _ _ h => h) (Or.inl ⟨by rfl, ?hyt1t1_2⟩) (by assumption) ?restt1t1_2
          case hyt1t1_2 => intro W hSW; go_simp; try rfl
          try simp only [Act.put, List.setIfInBounds_toArray, List.set_cons_zero, List.set_cons_succ]
          refine wpAnyH_take (i := 2) (oi := ⟨some 62, _, _, _, _, _⟩) (v := .bool false) rfl (by kernel_rfl) (by kernel_rfl) (by kernel_rfl) (fun _ _ _ h => h) (Or.inl ⟨by rfl, ?hyt1t2_3⟩) (by assumption) ?restt1t2_3
          case hyt1t2_3 => intro W hSW; go_simp; try rfl
          try simp only [Act.put, List.setIfInBounds_toArray, List.set_cons_zero, List.set_cons_succ]
          refine wpAnyH_take (i := 3) (oi := ⟨some 63, _, _, _, _, _⟩) (v := ?vt1t3_4) rfl (by kernel_rfl) (by kernel_rfl) (by kernel_rfl) (fun _ _ _ h => h) (Or.inl ⟨by rfl, ?hyt1t3_4⟩) (by assumption) ?restt1t3_4
          case hyt1t3_4 => intro W hSW; go_simp; try rfl
          try simp only [Act.put, List.setIfInBounds_toArray, List.set_cons_zero, List.set_cons_succ]
          refine wpAnyH_take (i := 4) (oi := ⟨some 64, _, _, _, _, _⟩) (v := .int .u16 (v : Int)) rfl (by kernel_rfl) (by kernel_rfl) (by kernel_rfl) (fun _ _ _ h => h) (Or.inl ⟨by rfl, ?hyt1t4_5⟩) (by assumption) ?restt1t4_5
          case hyt1t4_5 => intro W hSW; go_simp; try rfl
          try simp only [Act.put, List.setIfInBounds_toArray, List.set_cons_zero, List.set_cons_succ]
          refine wpAnyH_take (i := 7) (oi := ⟨some 67, _, _, _, _, _⟩) (v := ?vt1t7_6) rfl (by kernel_rfl) (by kernel_rfl) (by kernel_rfl) (fun _ _ _ h => h) (Or.inl ⟨by rfl, ?hyt1t7_6⟩) (by assumption) ?restt1t7_6
          case hyt1t7_6 => intro W hSW; go_simp; try rfl
          try simp only [Act.put, List.setIfInBounds_toArray, List.set_cons_zero, List.set_cons_succ]
          refine wpAnyH_take (i := 8) (oi := ⟨some 68, _, _, _, _, _⟩) (v := ?vt1t8_7) rfl (by kernel_rfl) (by kernel_rfl) (by kernel_rfl) (fun _ _ _ h => h) (Or.inl ⟨by rfl, ?hyt1t8_7⟩) (by assumption) ?restt1t8_7
          case hyt1t8_7 => intro W hSW; go_simp; try rfl
          try simp only [Act.put, List.setIfInBounds_toArray, List.set_cons_zero, List.set_cons_succ]
          refine wpAnyH_take (i := 9) (oi := ⟨some 69, _, _, _, _, _⟩) (v := ?vt1t9_8) rfl (by kernel_rfl) (by kernel_rfl) (by kernel_rfl) (fun _ _ _ h => h) (Or.inl ⟨by rfl, ?hyt1t9_8⟩) (by assumption) ?restt1t9_8
          case hyt1t9_8 => intro W hSW; go_simp; try rfl
          try simp only [Act.put, List.setIfInBounds_toArray, List.set_cons_zero, List.set_cons_succ]
          refine wpAnyH_take (i := 10) (oi := ⟨some 70, _, _, _, _, _⟩) (v := ?vt1t10_9) rfl (by kernel_rfl) (by kernel_rfl) (by kernel_rfl) (fun _ _ _ h => h) (Or.inl ⟨by rfl, ?hyt1t10_9⟩) (by assumption) ?restt1t10_9
          case hyt1t10_9 => intro W hSW; go_simp; try rfl
          try simp only [Act.put, List.setIfInBounds_toArray, List.set_cons_zero, List.set_cons_succ]
          refine wpAnyH_take (i := 11) (oi := ⟨some 71, _, _, _, _, _⟩) (v := .int .i64 ((i : Int) + 1)) rfl (by kernel_rfl) (by kernel_rfl) (by kernel_rfl) (fun _ _ _ h => h) (Or.inl ⟨by rfl, ?hyt1t11_10⟩) (by assumption) ?restt1t11_10
          case hyt1t11_10 => intro W hSW; go_simp; try rfl
          try simp only [Act.put, List.setIfInBounds_toArray, List.set_cons_zero, List.set_cons_succ]
          refine wpAnyH_take (i := 12) (oi := ⟨some 72, _, _, _, _, _⟩) (v := .string (tx T)) rfl (by kernel_rfl) (by kernel_rfl) (by kernel_rfl) (fun _ _ _ h => h) (Or.inl ⟨by rfl, ?hyt1t12_11⟩) (by assumption) ?restt1t12_11
          case hyt1t12_11 => intro W hSW; have y := hcut; go_simp; try rfl
          try simp only [Act.put, List.setIfInBounds_toArray, List.set_cons_zero, List.set_cons_succ]
          refine wpAnyH_ready (rs := [5]) (by kernel_rfl) (by simp) ?_
          refine (AllReadyH.cons (o := ⟨some 65, _, _, _, _, _⟩) rfl (fun K hK => ?_) AllReadyH.nil)
          · go_simp
            have S17 := Lib.hid (seen_new wd 30 (uv [v]) 1 rfl #[.int .u16 (v : Int)] rfl)
            have hb := (Below.refl wd.heap.size wd).alloc (Nat.le_refl _) (.cells #[.int .u16 (v : Int)] 30)
            refine hK.out _ _ ?_ (fun hHeld2 => ?_)
            · exact bel_after hHeld (Nat.le_refl _) hb
            clear hK K hHeld
            have hHeld := hHeld2; clear hHeld2
            try simp only [Act.put, List.setIfInBounds_toArray, List.set_cons_zero, List.set_cons_succ]
            clear hb
            refine wpAnyH_ready (rs := [6]) (by kernel_rfl) (by simp) ?_
            refine (AllReadyH.cons (o := ⟨some 66, _, _, _, _, _⟩) rfl (fun K hK => ?_) AllReadyH.nil)
            · go_simp
              refine (UBC.out _ _ _ _ S17.out (by rw [World.size_alloc]; exact Nat.le_refl _)).mono ?_; rintro e17 w17 ⟨rfl, hb⟩
              refine hK.out _ _ ?_ (fun hHeld2 => ?_)
              · exact bel_after hHeld (Nat.le_refl _) hb
              clear hK K hHeld
              have hHeld := hHeld2; clear hHeld2
              try simp only [Act.put, List.setIfInBounds_toArray, List.set_cons_zero, List.set_cons_succ]
              clear hb
              refine wpAnyH_take (i := 13) (oi := ⟨some 73, _, _, _, _, _⟩) (v := .bool true) rfl (by kernel_rfl) (by kernel_rfl) (by kernel_rfl) (fun _ _ _ h => h) (Or.inl ⟨by rfl, ?hyt1t13_14⟩) (by assumption) ?restt1t13_14
              case hyt1t13_14 => intro W hSW; go_simp; try rfl
              try simp only [Act.put, List.setIfInBounds_toArray, List.set_cons_zero, List.set_cons_succ]
              refine wpAnyH_take (i := 14) (oi := ⟨some 74, _, _, _, _, _⟩) (v := .bool true) rfl (by kernel_rfl) (by kernel_rfl) (by kernel_rfl) (fun _ _ _ h => h) (Or.inl ⟨by rfl, ?hyt1t14_15⟩) (by assumption) ?restt1t14_15
              case hyt1t14_15 => intro W hSW; go_simp; try rfl
              try simp only [Act.put, List.setIfInBounds_toArray, List.set_cons_zero, List.set_cons_succ]
              refine wpAnyH_done (by kernel_rfl) ?_ _
              have HB9 := Lib.hid hHeld
              clear hHeld
              go_wp2_with fail
              go_ret2
              rw [HR.out]
              exact ⟨_, rfl, HB.out.trans (HB9.out.mono hzb), fun _ => rfl, fun u h => (by cases h)⟩
        | true =>
          have heq : uB v = (l.take (i + 1)).drop i := by
            have h1 : (tx (uB v)).toList = (tx T).toList := by simpa using hcmp
            rw [ByteArray.toList_eq, ByteArray.toList_eq, tx_list, tx_list] at h1
            rw [h1, HT.out]
          have hr : unitsM l = dU (p ++ [v]) (l.drop (i + 1)) := by rw [HU.out, HST.out, if_neg (by omega), if_neg h65, if_neg (fun h => h heq)]
          have HR := Lib.hid hr
          have r1 : P + 1 ≤ maxLen := by simp [maxLen]; omega
          have r2 : (P + 1) * 2 ≤ 140737488355328 := by omega
          clear hr heq
          go_upto_region 17 with fail
          refine wp_region_held_drew (S := (fun W => Below wo.heap.size wo W)) (by kernel_rfl) (Below.refl _ _).drew (fun hHeld => ?_)
          have hHeld0 := hHeld
          generalize hwd : wo.drew = wd at *
          clear hwd hHeld0
          refine wpAnyH_take (i := 0) (oi := ⟨some 60, _, _, _, _, _⟩) (v := ?vt1f0_1) rfl (by kernel_rfl) (by kernel_rfl) (by kernel_rfl) (fun _ _ _ h => h) (Or.inl ⟨by rfl, ?hyt1f0_1⟩) (by assumption) ?restt1f0_1
          case hyt1f0_1 => intro W hSW; go_simp; try rfl
          try simp only [Act.put, List.setIfInBounds_toArray, List.set_cons_zero, List.set_cons_succ]
          refine wpAnyH_take (i := 1) (oi := ⟨some 61, _, _, _, _, _⟩) (v := .bool false) rfl (by kernel_rfl) (by kernel_rfl) (by kernel_rfl) (fun _ _ _ h => h) (Or.inl ⟨by rfl, ?hyt1f1_2⟩) (by assumption) ?restt1f1_2
          case hyt1f1_2 => intro W hSW; go_simp; try rfl
          try simp only [Act.put, List.setIfInBounds_toArray, List.set_cons_zero, List.set_cons_succ]
          refine wpAnyH_take (i := 2) (oi := ⟨some 62, _, _, _, _, _⟩) (v := .bool false) rfl (by kernel_rfl) (by kernel_rfl) (by kernel_rfl) (fun _ _ _ h => h) (Or.inl ⟨by rfl, ?hyt1f2_3⟩) (by assumption) ?restt1f2_3
          case hyt1f2_3 => intro W hSW; go_simp; try rfl
          try simp only [Act.put, List.setIfInBounds_toArray, List.set_cons_zero, List.set_cons_succ]
          refine wpAnyH_take (i := 3) (oi := ⟨some 63, _, _, _, _, _⟩) (v := ?vt1f3_4) rfl (by kernel_rfl) (by kernel_rfl) (by kernel_rfl) (fun _ _ _ h => h) (Or.inl ⟨by rfl, ?hyt1f3_4⟩) (by assumption) ?restt1f3_4
          case hyt1f3_4 => intro W hSW; go_simp; try rfl
          try simp only [Act.put, List.setIfInBounds_toArray, List.set_cons_zero, List.set_cons_succ]
          refine wpAnyH_take (i := 4) (oi := ⟨some 64, _, _, _, _, _⟩) (v := .int .u16 (v : Int)) rfl (by kernel_rfl) (by kernel_rfl) (by kernel_rfl) (fun _ _ _ h => h) (Or.inl ⟨by rfl, ?hyt1f4_5⟩) (by assumption) ?restt1f4_5
          case hyt1f4_5 => intro W hSW; go_simp; try rfl
          try simp only [Act.put, List.setIfInBounds_toArray, List.set_cons_zero, List.set_cons_succ]
          refine wpAnyH_take (i := 7) (oi := ⟨some 67, _, _, _, _, _⟩) (v := ?vt1f7_6) rfl (by kernel_rfl) (by kernel_rfl) (by kernel_rfl) (fun _ _ _ h => h) (Or.inl ⟨by rfl, ?hyt1f7_6⟩) (by assumption) ?restt1f7_6
          case hyt1f7_6 => intro W hSW; go_simp; try rfl
          try simp only [Act.put, List.setIfInBounds_toArray, List.set_cons_zero, List.set_cons_succ]
          refine wpAnyH_take (i := 8) (oi := ⟨some 68, _, _, _, _, _⟩) (v := ?vt1f8_7) rfl (by kernel_rfl) (by kernel_rfl) (by kernel_rfl) (fun _ _ _ h => h) (Or.inl ⟨by rfl, ?hyt1f8_7⟩) (by assumption) ?restt1f8_7
          case hyt1f8_7 => intro W hSW; go_simp; try rfl
          try simp only [Act.put, List.setIfInBounds_toArray, List.set_cons_zero, List.set_cons_succ]
          refine wpAnyH_take (i := 9) (oi := ⟨some 69, _, _, _, _, _⟩) (v := ?vt1f9_8) rfl (by kernel_rfl) (by kernel_rfl) (by kernel_rfl) (fun _ _ _ h => h) (Or.inl ⟨by rfl, ?hyt1f9_8⟩) (by assumption) ?restt1f9_8
          case hyt1f9_8 => intro W hSW; go_simp; try rfl
          try simp only [Act.put, List.setIfInBounds_toArray, List.set_cons_zero, List.set_cons_succ]
          refine wpAnyH_take (i := 10) (oi := ⟨some 70, _, _, _, _, _⟩) (v := ?vt1f10_9) rfl (by kernel_rfl) (by kernel_rfl) (by kernel_rfl) (fun _ _ _ h => h) (Or.inl ⟨by rfl, ?hyt1f10_9⟩) (by assumption) ?restt1f10_9
          case hyt1f10_9 => intro W hSW; go_simp; try rfl
          try simp only [Act.put, List.setIfInBounds_toArray, List.set_cons_zero, List.set_cons_succ]
          refine wpAnyH_take (i := 11) (oi := ⟨some 71, _, _, _, _, _⟩) (v := .int .i64 ((i : Int) + 1)) rfl (by kernel_rfl) (by kernel_rfl) (by kernel_rfl) (fun _ _ _ h => h) (Or.inl ⟨by rfl, ?hyt1f11_10⟩) (by assumption) ?restt1f11_10
          case hyt1f11_10 => intro W hSW; go_simp; try rfl
          try simp only [Act.put, List.setIfInBounds_toArray, List.set_cons_zero, List.set_cons_succ]
          refine wpAnyH_take (i := 12) (oi := ⟨some 72, _, _, _, _, _⟩) (v := .string (tx T)) rfl (by kernel_rfl) (by kernel_rfl) (by kernel_rfl) (fun _ _ _ h => h) (Or.inl ⟨by rfl, ?hyt1f12_11⟩) (by assumption) ?restt1f12_11
          case hyt1f12_11 => intro W hSW; have y := hcut; go_simp; try rfl
          try simp only [Act.put, List.setIfInBounds_toArray, List.set_cons_zero, List.set_cons_succ]
          refine wpAnyH_ready (rs := [5]) (by kernel_rfl) (by simp) ?_
          refine (AllReadyH.cons (o := ⟨some 65, _, _, _, _, _⟩) rfl (fun K hK => ?_) AllReadyH.nil)
          · go_simp
            have S17 := Lib.hid (seen_new wd 30 (uv [v]) 1 rfl #[.int .u16 (v : Int)] rfl)
            have hb := (Below.refl wd.heap.size wd).alloc (Nat.le_refl _) (.cells #[.int .u16 (v : Int)] 30)
            refine hK.out _ _ ?_ (fun hHeld2 => ?_)
            · exact bel_after hHeld (Nat.le_refl _) hb
            clear hK K hHeld
            have hHeld := hHeld2; clear hHeld2
            try simp only [Act.put, List.setIfInBounds_toArray, List.set_cons_zero, List.set_cons_succ]
            clear hb
            refine wpAnyH_ready (rs := [6]) (by kernel_rfl) (by simp) ?_
            refine (AllReadyH.cons (o := ⟨some 66, _, _, _, _, _⟩) rfl (fun K hK => ?_) AllReadyH.nil)
            · go_simp
              refine (UBC.out _ _ _ _ S17.out (by rw [World.size_alloc]; exact Nat.le_refl _)).mono ?_; rintro e17 w17 ⟨rfl, hb⟩
              refine hK.out _ _ ?_ (fun hHeld2 => ?_)
              · exact bel_after hHeld (Nat.le_refl _) hb
              clear hK K hHeld
              have hHeld := hHeld2; clear hHeld2
              try simp only [Act.put, List.setIfInBounds_toArray, List.set_cons_zero, List.set_cons_succ]
              clear hb
              refine wpAnyH_take (i := 13) (oi := ⟨some 73, _, _, _, _, _⟩) (v := .bool false) rfl (by kernel_rfl) (by kernel_rfl) (by kernel_rfl) (fun _ _ _ h => h) (Or.inl ⟨by rfl, ?hyt1f13_14⟩) (by assumption) ?restt1f13_14
              case hyt1f13_14 => intro W hSW; go_simp; try rfl
              try simp only [Act.put, List.setIfInBounds_toArray, List.set_cons_zero, List.set_cons_succ]
              refine wpAnyH_take (i := 14) (oi := ⟨some 74, _, _, _, _, _⟩) (v := .bool false) rfl (by kernel_rfl) (by kernel_rfl) (by kernel_rfl) (fun _ _ _ h => h) (Or.inl ⟨by rfl, ?hyt1f14_15⟩) (by assumption) ?restt1f14_15
              case hyt1f14_15 => intro W hSW; go_simp; try rfl
              try simp only [Act.put, List.setIfInBounds_toArray, List.set_cons_zero, List.set_cons_succ]
              refine wpAnyH_done (by kernel_rfl) ?_ _
              have HB9 := Lib.hid hHeld
              clear hHeld UBC S17
              have BB := Lib.hid ((HB9.out).alloc HB9.out.size (.cells #[.int .u16 (v : Int)] 30))
              have HO2 := Lib.hid (own_only HO.out (Only.of_below BB.out Nob) (fun _ _ h => h))
              have HS := Lib.hid (seen_new w17 30 (uv [v]) 1 rfl #[.int .u16 (v : Int)] rfl)
              have r3 : w.heap.size ≤ (w17.alloc (.cells #[.int .u16 (v : Int)] 30)).heap.size := by rw [World.size_alloc]; have := HB9.out.size; omega
              go_wp2_with (at_builtin; refine wpList_append_seen _ rfl (.tmp 75) (.tmp 78) _ rfl w.heap.size 30 i0 _ 1 2 Tryd.underlying44 hi0 hz0 hz1 hz2 rfl (by omega) (.slice A4 P c4) P (uv p) rfl HO2.out (w17.heap.size + 1) (some ⟨w17.heap.size, 0, none⟩) 1 1 (uv [v]) rfl HS.out (uv_one _) r1 r2 r3 ?_; intro v2 w2 ho2 hg2 hv2)
              go_roundg (n - (i + 1))
              case measure => omega
              case rel =>
                refine ⟨i + 1, p ++ [v], by omega, rfl, by go_num, ?_, ((HB.out.trans (BB.out.mono hzb)).grown hg2 r3 (fun j hj => (own_whole HO.out hj).1)), HR.out, (by rw [List.length_append, HP.out]; simp; omega)⟩
                rw [List.length_append, HP.out, uv_app]
                exact ho2
    · obtain rfl : i = n := by omega
      have d0 : decide ((i : Int) < (i : Int)) = false := by rw [decide_eq_false_iff_not]; omega
      have hr : unitsM l = some p := by rw [HU.out, List.drop_eq_nil_of_le (by omega), dU]
      go_wp2
      go_ret2
      rw [hr]
      exact ⟨_, rfl, HB.out, fun h => (by cases h), fun u h => (by cases h; rw [HP.out]; exact HO.out)⟩
end Go.Proofs.YtibkdmliolebgaaDoor
