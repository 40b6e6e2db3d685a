/-
  The document's names: right, without, Member, Method. Conditions: texts of at most a hundred thousand bytes.
-/
import Derived.Test.YtibkdmliolebgaaDoorUD
namespace Go.Proofs.YtibkdmliolebgaaDoor
open Go Go.RowKit
set_option maxRecDepth 100000

def rightM (l : List UInt8) : Bool := (unitsM l).isSome
/-- Has a text none of these bytes? -/
def woM (l k : List UInt8) : Bool := l.all fun x => !k.contains x
def memberM (l : List UInt8) : Bool := !decide (l = []) && rightM l && woM l [46, 59, 91, 47]
def methodM (l : List UInt8) : Bool := decide (l = [60, 105, 110, 105, 116, 62]) || decide (l = [60, 99, 108, 105, 110, 105, 116, 62]) || memberM l && woM l [60, 62]

set_option maxHeartbeats 4000000 in
theorem right_any (l : List UInt8) (hs : l.length ≤ 100000) (w : World) : Calls Tryd.prog 27 #[.string (tx l)] w (Gives w (.bool (rightM l))) := by
  have CA := Lib.hid (units_any l l.length rfl hs w)
  obtain ⟨R, hR⟩ : ∃ r, unitsM l = r := ⟨_, rfl⟩
  unfold rightM
  rw [hR] at CA ⊢
  clear hR
  go_enter Tryd.func27, Tryd.ntmps27
  go_wp2_with (go_at_call 36; refine CA.out.mono ?_; rintro e w1 ⟨v1, rfl, b1, _, _⟩)
  go_ret
  exact ⟨rfl, b1⟩

set_option maxHeartbeats 8000000 in
theorem without_any (l k : List UInt8) (hs : l.length ≤ 100000) (hk : k.length ≤ 100000) (w : World) : Calls Tryd.prog 28 #[.string (tx l), .string (tx k)] w (Gives w (.bool (woM l k))) := by
  obtain ⟨n, hn⟩ : ∃ n, l.length = n := ⟨_, rfl⟩
  obtain ⟨m, hm⟩ : ∃ n, k.length = n := ⟨_, rfl⟩
  have hts : (tx l).size = n := by rw [tx_size, hn]
  have htk : (tx k).size = m := by rw [tx_size, hm]
  obtain ⟨R, hR⟩ : ∃ r, woM l k = r := ⟨_, rfl⟩
  rw [hR]
  rw [hn] at hs
  rw [hm] at hk
  have HR := Lib.hid hR
  have HN := Lib.hid (And.intro hn hm)
  clear hR hn hm
  go_enter Tryd.func28, Tryd.ntmps28
  go_wp2
  go_loopg [5] n (fun j v wr => ∃ i : Nat, i ≤ n ∧ j = n - i ∧ v = .int .i64 i ∧ Below w.heap.size w wr ∧ ∀ d (h : d < l.length), d < i → l[d] ∉ k)
  case atStart => exact ⟨0, by omega, rfl, rfl, Below.refl _ _, fun d h hd => by omega⟩
  case round =>
    obtain ⟨i, hi, rfl, rfl, hbl, hal⟩ := hrel
    obtain ⟨wo, rfl⟩ : ∃ W, W = wr := ⟨_, rfl⟩
    have HB := Lib.hid hbl
    have HAL := Lib.hid hal
    clear hbl hal
    obtain ⟨hn, hm⟩ := HN.out
    by_cases hlt : i < n
    · have hil : i < l.length := by omega
      have d0 : decide ((i : Int) < (n : Int)) = true := by rw [decide_eq_true_iff]; omega
      obtain ⟨x, hx⟩ : ∃ x, l[i].toNat = x := ⟨_, rfl⟩
      have hxt : ((tx l)[i]'(by rw [hts]; exact hlt)).toNat = x := by rw [tx_at]; exact hx
      have HX := Lib.hid hx
      have q1 : (0 : Int) ≤ (i : Int) := by omega
      have q2 : (i : Int) < (n : Int) := by omega
      have q3 : IntKind.i64.wrap (i : Int) = (i : Int) := IntWalk.i64_in _ (by omega)
      clear hx
      go_wp2
      go_loopg [6] m (fun j v wr => ∃ e : Nat, e ≤ m ∧ j = m - e ∧ v = .int .i64 e ∧ Below wo.heap.size wo wr ∧ ∀ d (h : d < k.length), d < e → k[d] ≠ l[i])
      case atStart => exact ⟨0, by omega, rfl, rfl, Below.refl _ _, fun d h hd => by omega⟩
      case round =>
        obtain ⟨e, he, rfl, rfl, hbe, hae⟩ := hrel
        obtain ⟨wi, rfl⟩ : ∃ W, W = wr := ⟨_, rfl⟩
        have HE := Lib.hid hbe
        have HAE := Lib.hid hae
        clear hbe hae
        by_cases hel : e < m
        · have hek : e < k.length := by omega
          have d1 : decide ((e : Int) < (m : Int)) = true := by rw [decide_eq_true_iff]; omega
          obtain ⟨y, hy⟩ : ∃ y, k[e].toNat = y := ⟨_, rfl⟩
          have hyt : ((tx k)[e]'(by rw [htk]; exact hel)).toNat = y := by rw [tx_at]; exact hy
          have q4 : (0 : Int) ≤ (e : Int) := by omega
          have q5 : (e : Int) < (m : Int) := by omega
          have q6 : IntKind.i64.wrap (e : Int) = (e : Int) := IntWalk.i64_in _ (by omega)
          have HY := Lib.hid hy
          have HBW : Hid (Below wo.heap.size wo wi.drew) := Lib.hid ⟨HE.out.os, HE.out.tape, HE.out.output, HE.out.size, HE.out.block⟩
          clear hy hn hm
          by_cases hxy : x = y
          · have dx : ((x : Int) == (y : Int)) = true := by rw [hxy]; simp
            have hr : R = false := by
              rw [← HR.out, woM, List.all_eq_false]
              refine ⟨l[i], List.getElem_mem hil, ?_⟩
              have : l[i] = k[e] := UInt8.toNat_inj.1 (HX.out.trans (hxy.trans HY.out.symm))
              rw [this]
              simp
            have HRR := Lib.hid hr
            clear hr hxy
            go_upto_region 7 with fail
            refine wp_region_still_lit (by kernel_rfl) (by kernel_rfl) ?_
            repeat still_step
            refine wpStill_nil ?_
            go_wp2_with fail
            go_ret
            exact ⟨by rw [HRR.out]; rfl, HB.out.trans (HBW.out.mono HB.out.size)⟩
          · have dx : ((x : Int) == (y : Int)) = false := by rw [beq_eq_false_iff_ne]; omega
            have hnx : ∀ d (h : d < k.length), d < e + 1 → k[d] ≠ l[i] := fun d h hd => by
              by_cases hde : d < e
              · exact HAE.out d h hde
              · obtain rfl : d = e := by omega
                intro e2
                exact hxy (by rw [← HX.out, ← HY.out, e2])
            have HNX := Lib.hid hnx
            clear hnx hxy
            go_upto_region 7 with fail
            refine wp_region_still_lit (by kernel_rfl) (by kernel_rfl) ?_
            repeat still_step
            refine wpStill_nil ?_
            go_wp2_with fail
            go_roundg (m - (e + 1))
            case measure => omega
            case rel => exact ⟨e + 1, by omega, rfl, by go_num, HBW.out, HNX.out⟩
        · obtain rfl : e = m := by omega
          have d1 : decide ((e : Int) < (e : Int)) = false := by rw [decide_eq_false_iff_not]; omega
          have hnx : ∀ d (h : d < l.length), d < i + 1 → l[d] ∉ k := fun d h hd => by
            by_cases hde : d < i
            · exact HAL.out d h hde
            · obtain rfl : d = i := by omega
              intro hm2
              obtain ⟨b, hb, hbe⟩ := List.getElem_of_mem hm2
              exact HAE.out b hb (by omega) hbe
          have HNX := Lib.hid hnx
          clear hnx hn hm
          go_wp2_with fail
          go_roundg (n - (i + 1))
          case measure => omega
          case rel => exact ⟨i + 1, by omega, rfl, by go_num, HB.out.trans (HE.out.mono HB.out.size), HNX.out⟩
    · obtain rfl : i = n := by omega
      have d0 : decide ((i : Int) < (i : Int)) = false := by rw [decide_eq_false_iff_not]; omega
      have hr : R = true := by
        rw [← HR.out, woM, List.all_eq_true]
        intro x hx
        obtain ⟨b, hb, rfl⟩ := List.getElem_of_mem hx
        have := HAL.out b hb (by omega)
        simpa using this
      have HRR := Lib.hid hr
      clear hr hn hm
      go_wp2_with fail
      go_ret
      exact ⟨by rw [HRR.out]; rfl, HB.out⟩
theorem tl_empty (l : List UInt8) : (tx l).toList.isEmpty = decide (l = []) := by
  rw [ba_empty, tx_size]
  cases l <;> simp
theorem tl_lit (a b : List UInt8) : ((tx a).toList == b) = decide (a = b) := by
  rw [ByteArray.toList_eq, tx_list, Bool.eq_iff_iff]; simp
theorem tl_eq (a b : List UInt8) : ((tx a).toList == (tx b).toList) = decide (a = b) := by
  rw [ByteArray.toList_eq, ByteArray.toList_eq, tx_list, tx_list, Bool.eq_iff_iff]; simp

set_option maxHeartbeats 4000000 in
theorem member_any (l : List UInt8) (hs : l.length ≤ 100000) (w : World) : Calls Tryd.prog 8 #[.string (tx l)] w (Gives w (.bool (memberM l))) := by
  have C1 := Lib.hid (fun W => right_any l hs W)
  have C2 := Lib.hid (fun W => without_any l [46, 59, 91, 47] hs (by decide) W)
  have he := tl_empty l
  unfold memberM
  obtain ⟨r1, h1⟩ : ∃ r, rightM l = r := ⟨_, rfl⟩
  obtain ⟨r2, h2⟩ : ∃ r, woM l [46, 59, 91, 47] = r := ⟨_, rfl⟩
  obtain ⟨r3, h3⟩ : ∃ r, decide (l = []) = r := ⟨_, rfl⟩
  rw [h1] at C1 ⊢
  rw [h2] at C2 ⊢
  rw [h3] at he ⊢
  clear h1 h2 h3
  unfold tx at C2
  cases r3 with
  | true =>
    go_enter Tryd.func8, Tryd.ntmps8
    go_wp2_with fail
    go_ret
    exact ⟨rfl, Below.refl _ _⟩
  | false =>
    cases r1 with
    | false =>
      go_enter Tryd.func8, Tryd.ntmps8
      go_wp2_with (go_at_call 27; refine (C1.out _).mono ?_; rintro e w1 ⟨rfl, b1⟩)
      go_ret
      exact ⟨rfl, b1⟩
    | true =>
      go_enter Tryd.func8, Tryd.ntmps8
      go_wp2_with (first | (go_at_call 27; refine (C1.out _).mono ?_; rintro e w1 ⟨rfl, b1⟩) | (go_at_call 28; refine (C2.out _).mono ?_; rintro e w2 ⟨rfl, b2⟩))
      go_ret
      exact ⟨by simp, b1.trans (b2.mono b1.size)⟩

set_option maxHeartbeats 4000000 in
theorem method_any (l : List UInt8) (hs : l.length ≤ 100000) (w : World) : Calls Tryd.prog 10 #[.string (tx l)] w (Gives w (.bool (methodM l))) := by
  have C1 := Lib.hid (fun W => member_any l hs W)
  have C2 := Lib.hid (fun W => without_any l [60, 62] hs (by decide) W)
  have g1 := tl_lit l [60, 105, 110, 105, 116, 62]
  have g2 := tl_lit l [60, 99, 108, 105, 110, 105, 116, 62]
  unfold methodM
  obtain ⟨r1, h1⟩ : ∃ r, memberM l = r := ⟨_, rfl⟩
  obtain ⟨r2, h2⟩ : ∃ r, woM l [60, 62] = r := ⟨_, rfl⟩
  obtain ⟨r3, h3⟩ : ∃ r, decide (l = [60, 105, 110, 105, 116, 62]) = r := ⟨_, rfl⟩
  obtain ⟨r4, h4⟩ : ∃ r, decide (l = [60, 99, 108, 105, 110, 105, 116, 62]) = r := ⟨_, rfl⟩
  rw [h1] at C1 ⊢
  rw [h2] at C2 ⊢
  rw [h3] at g1 ⊢
  rw [h4] at g2 ⊢
  clear h1 h2 h3 h4
  unfold tx at C2
  cases r3 with
  | true =>
    go_enter Tryd.func10, Tryd.ntmps10
    go_wp2_with fail
    go_ret
    exact ⟨rfl, Below.refl _ _⟩
  | false =>
  cases r4 with
  | true =>
    go_enter Tryd.func10, Tryd.ntmps10
    go_wp2_with fail
    go_ret
    exact ⟨rfl, Below.refl _ _⟩
  | false =>
    cases r1 with
    | false =>
      go_enter Tryd.func10, Tryd.ntmps10
      go_wp2_with (go_at_call 8; refine (C1.out _).mono ?_; rintro e w1 ⟨rfl, b1⟩)
      go_ret
      exact ⟨rfl, b1⟩
    | true =>
      go_enter Tryd.func10, Tryd.ntmps10
      go_wp2_with (first | (go_at_call 8; refine (C1.out _).mono ?_; rintro e w1 ⟨rfl, b1⟩) | (go_at_call 28; refine (C2.out _).mono ?_; rintro e w2 ⟨rfl, b2⟩))
      go_ret
      exact ⟨by simp, b1.trans (b2.mono b1.size)⟩
end Go.Proofs.YtibkdmliolebgaaDoor
