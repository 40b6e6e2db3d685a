/-
  The law's own same: two pools in memory, are they the same?
-/
import Derived.Test.YtmojclbejmnikaaYD
namespace Go.Proofs.Ytmojclbejmnikaa
open Go Go.RowKit
set_option maxRecDepth 100000

/-- Are two pools the same? -/
def sameM (l m : List Raw) : Bool := decide (l.length = m.length) && (List.range l.length).all fun i => match l[i]?, m[i]? with
  | some r, some s => eqB r s
  | _, _ => true
theorem sameM_true (l m : List Raw) : sameM l m = true ↔ l = m := by
  unfold sameM
  constructor
  · intro h
    rw [Bool.and_eq_true, decide_eq_true_iff, List.all_eq_true] at h
    refine List.ext_getElem h.1 fun i h1 h2 => ?_
    have := h.2 i (List.mem_range.2 h1)
    rw [List.getElem?_eq_getElem h1, List.getElem?_eq_getElem h2] at this
    exact (eqB_iff _ _).1 this
  · rintro rfl
    rw [Bool.and_eq_true, decide_eq_true_iff, List.all_eq_true]
    refine ⟨rfl, fun i hi => ?_⟩
    have h1 := List.mem_range.1 hi
    rw [List.getElem?_eq_getElem h1]
    exact (eqB_iff _ _).2 rfl

set_option maxHeartbeats 8000000 in
theorem same_any (l m : List Raw) (A A' : Option Addr) (n c n' c' B : Nat) (hn : l.length = n) (hn' : m.length = n') (hs : n ≤ 9223372036854775807) (hs' : n' ≤ 9223372036854775807) (w : World) (hA : Seen w B 5 A n c (rv l)) (hA' : Seen w B 5 A' n' c' (rv m)) (hB : B ≤ w.heap.size) :
    Calls Try.prog 10 #[.slice A n c, .slice A' n' c'] w (Gives w (.bool (sameM l m))) := by
  have HA := Lib.hid hA
  have HA' := Lib.hid hA'
  obtain ⟨R, hR⟩ : ∃ r, sameM l m = r := ⟨_, rfl⟩
  rw [hR]
  unfold sameM at hR
  rw [hn, hn'] at hR
  clear hA hA'
  by_cases hnn : n = n'
  · subst hnn
    rw [decide_eq_true rfl, Bool.true_and] at hR
    have d0 : ((n : Int) == (n : Int)) = true := by simp
    have HR := Lib.hid hR
    clear hR
    go_enter Try.func10, Try.ntmps10
    go_wp2_with fail
    go_loopg [13] n (fun j v wr => ∃ k : Nat, k ≤ n ∧ j = n - k ∧ v = .int .i64 k ∧ Below w.heap.size w wr ∧ ∀ d, d < k → (match l[d]?, m[d]? with | some r, some s => eqB r s | _, _ => true) = true)
    case atStart => exact ⟨0, by omega, rfl, rfl, Below.refl _ _, fun d hd => by omega⟩
    case round =>
      obtain ⟨k, hk, rfl, rfl, hbl, hal⟩ := hrel
      obtain ⟨wo, rfl⟩ : ∃ W, W = wr := ⟨_, rfl⟩
      have HB := Lib.hid hbl
      have HAL := Lib.hid hal
      clear hbl hal
      by_cases hlt : k < n
      · have hkl : k < l.length := by omega
        have hkm : k < m.length := by omega
        have d1 : decide ((k : Int) < (n : Int)) = true := by rw [decide_eq_true_iff]; omega
        have q0 : (k : Int) < (n : Int) := by omega
        have q1 : (0 : Int) ≤ (k : Int) := by omega
        obtain ⟨bb, oo, rfl, hbb, hc⟩ := (HA.out.below (HB.out.mono hB)).raw hkl hn
        obtain ⟨bd, od, rfl, hbd, hd⟩ := (HA'.out.below (HB.out.mono hB)).raw hkm hn'
        have hok : (match l[k]?, m[k]? with | some r, some s => eqB r s | _, _ => true) = eqB l[k] m[k] := by
          rw [List.getElem?_eq_getElem hkl, List.getElem?_eq_getElem hkm]
        have HBD : Hid (eqB l[k] m[k] = false → R = false) := Lib.hid (fun h => by
          rw [← HR.out, List.all_eq_false]
          exact ⟨k, List.mem_range.2 (by omega), by rw [hok, h]; simp⟩)
        have HNX : Hid (eqB l[k] m[k] = true → ∀ d, d < k + 1 → (match l[d]?, m[d]? with | some r, some s => eqB r s | _, _ => true) = true) := Lib.hid (fun h d hd => by
          by_cases hde : d < k
          · exact HAL.out d hde
          · obtain rfl : d = k := by omega
            exact hok.trans h)
        clear hok
        have NQ0 := neqR l[k] m[k]
        obtain ⟨f, hf⟩ : ∃ f, eqB l[k] m[k] = f := ⟨_, rfl⟩
        obtain ⟨r, hr⟩ : ∃ r, l[k] = r := ⟨_, rfl⟩
        obtain ⟨s, hs⟩ : ∃ s, m[k] = s := ⟨_, rfl⟩
        rw [hf] at HBD HNX NQ0
        rw [hr] at hc NQ0
        rw [hs] at hd NQ0
        obtain ⟨t, x, bits, a, b⟩ := r
        obtain ⟨t', x', bits', a', b'⟩ := s
        simp only at NQ0
        have m0 : wo.cell? ⟨bb, oo + k * 5, none⟩ = some (.int .i64 t) := hc 0 _ rfl
        have m1 : wo.cell? ⟨bb, oo + k * 5 + 1, none⟩ = some (.string x) := by rw [Nat.add_assoc]; exact hc 1 _ rfl
        have m2 : wo.cell? ⟨bb, oo + k * 5 + 2, none⟩ = some (.int .u64 bits) := by rw [Nat.add_assoc]; exact hc 2 _ rfl
        have m3 : wo.cell? ⟨bb, oo + k * 5 + 3, none⟩ = some (.int .i64 a) := by rw [Nat.add_assoc]; exact hc 3 _ rfl
        have m4 : wo.cell? ⟨bb, oo + k * 5 + 4, none⟩ = some (.int .i64 b) := by rw [Nat.add_assoc]; exact hc 4 _ rfl
        have n0 : wo.cell? ⟨bd, od + k * 5, none⟩ = some (.int .i64 t') := hd 0 _ rfl
        have n1 : wo.cell? ⟨bd, od + k * 5 + 1, none⟩ = some (.string x') := by rw [Nat.add_assoc]; exact hd 1 _ rfl
        have n2 : wo.cell? ⟨bd, od + k * 5 + 2, none⟩ = some (.int .u64 bits') := by rw [Nat.add_assoc]; exact hd 2 _ rfl
        have n3 : wo.cell? ⟨bd, od + k * 5 + 3, none⟩ = some (.int .i64 a') := by rw [Nat.add_assoc]; exact hd 3 _ rfl
        have n4 : wo.cell? ⟨bd, od + k * 5 + 4, none⟩ = some (.int .i64 b') := by rw [Nat.add_assoc]; exact hd 4 _ rfl
        have HK := Lib.hid hlt
        clear hc hd hr hs hf hkl hkm hbb hbd
        cases f with
        | false =>
          have HX := Lib.hid (HBD.out rfl)
          clear HBD HNX
          go_upto_region 6 with fail
          refine wp_region_still_lit (by kernel_rfl) (by kernel_rfl) ?_
          repeat still_step
          refine wpStill_nil ?_
          have HBq : Hid (Below w.heap.size w wo.drew) := Lib.hid ⟨HB.out.os, HB.out.tape, HB.out.output, HB.out.size, HB.out.block⟩
          go_wp2_with fail
          go_ret
          exact ⟨by rw [HX.out]; rfl, HBq.out⟩
        | true =>
          have HX := Lib.hid (HNX.out rfl)
          clear HBD HNX
          go_upto_region 6 with fail
          refine wp_region_still_lit (by kernel_rfl) (by kernel_rfl) ?_
          repeat still_step
          refine wpStill_nil ?_
          have HBq : Hid (Below w.heap.size w wo.drew) := Lib.hid ⟨HB.out.os, HB.out.tape, HB.out.output, HB.out.size, HB.out.block⟩
          go_wp2_with fail
          go_roundg (n - (k + 1))
          case measure => have := HK.out; omega
          case rel => exact ⟨k + 1, by have := HK.out; omega, rfl, by go_num, HBq.out, HX.out⟩
      · obtain rfl : k = n := by omega
        have d1 : decide ((k : Int) < (k : Int)) = false := by rw [decide_eq_false_iff_not]; omega
        have hr2 : R = true := by
          rw [← HR.out, List.all_eq_true]
          intro i hi
          exact HAL.out i (List.mem_range.1 hi)
        have HR2 := Lib.hid hr2
        clear hr2
        go_wp2_with fail
        go_ret
        exact ⟨by rw [HR2.out]; rfl, HB.out⟩
  · rw [decide_eq_false hnn, Bool.false_and] at hR
    subst hR
    have d0 : ((n : Int) == (n' : Int)) = false := by rw [beq_eq_false_iff_ne]; omega
    go_enter Try.func10, Try.ntmps10
    go_wp2_with fail
    go_ret
    exact ⟨rfl, Below.refl _ _⟩
end Go.Proofs.Ytmojclbejmnikaa
