/-
  The program's small. Conditions: a text of no more bytes than an int tells.
-/
import Derived.Test.YteadhiehhpafjaaDoorNC
namespace Go.Proofs.YteadhiehhpafjaaDoor
open Go.RowKit
set_option maxRecDepth 100000

/-- A row whose first letters are small. -/
def curL (l : List UInt8) (k : Nat) : List UInt8 := (l.take k).map low ++ l.drop k
theorem curL_length (l : List UInt8) (k : Nat) (h : k ≤ l.length) : (curL l k).length = l.length := by
  simp [curL]; omega
theorem curL_at (l : List UInt8) (k : Nat) (h : k < l.length) : (curL l k)[k]'(by rw [curL_length l k (by omega)]; exact h) = l[k] := by
  have : k - (List.map low (List.take k l)).length = 0 := by simp; omega
  simp only [curL]
  rw [List.getElem_append_right (by simp; omega)]
  simp [Nat.min_eq_left (Nat.le_of_lt h)]
theorem curL_step (l : List UInt8) (k : Nat) (h : k < l.length) : (curL l k).set k (low l[k]) = curL l (k + 1) := by
  have e : l.take (k + 1) = l.take k ++ [l[k]] := by rw [List.take_add_one, List.getElem?_eq_getElem h]; rfl
  have d : l.drop k = l[k] :: l.drop (k + 1) := List.drop_eq_getElem_cons h
  simp only [curL]
  have z : k - (List.map low (List.take k l)).length = 0 := by simp; omega
  rw [List.set_append_right _ _ (by simp; omega), z, d, e, List.map_append]
  simp only [List.set_cons_zero, List.map_cons, List.map_nil, List.append_assoc, List.singleton_append]
theorem curL_same (l : List UInt8) (k : Nat) (h : k < l.length) (hl : low l[k] = l[k]) : curL l (k + 1) = curL l k := by
  have := curL_step l k h
  rw [hl] at this
  rw [← this]
  have ha := curL_at l k h
  rw [← ha, List.set_getElem_self]
theorem low_same {u : UInt8} (h : ¬ (65 ≤ u.toNat ∧ u.toNat ≤ 90)) : low u = u := by rw [low, if_neg h]
theorem low_nat {u : UInt8} (h : 65 ≤ u.toNat ∧ u.toNat ≤ 90) : (low u).toNat = u.toNat + 32 := by
  rw [low, if_pos h, UInt8.toNat_ofNat']; omega

set_option maxHeartbeats 4000000 in
theorem psmall_any (s : ByteArray) (n : Nat) (hn : s.size = n) (hs : n ≤ 9223372036854775807) (w : World) : Calls Tryd.prog 32 #[.string s] w (Gives w (.string (smallM s))) := by
  have CV := Lib.hid (fun W => bys_conv W s)
  go_enter Tryd.func32, Tryd.ntmps32
  have cv := CV.out w
  rw [hn] at cv
  go_wp2
  obtain ⟨B1, B2, B3, B4⟩ := bys_new w s
  have hsl : s.data.toList.length = n := by rw [← hn]; simp
  have HM : Hid (∃ M, M = smallM s ∧ smallM s = ⟨(s.data.toList.map low).toArray⟩) := Lib.hid ⟨_, rfl, rfl⟩
  obtain ⟨l, hl⟩ : ∃ l, s.data.toList = l := ⟨_, rfl⟩
  rw [hl] at B1 hsl HM
  obtain ⟨M, hM⟩ : ∃ M, smallM s = M := ⟨_, rfl⟩
  have HMM := Lib.hid hM
  clear hM
  have HB := Lib.hid B1
  have HW := Lib.hid B2
  have hcc := Lib.hid B3
  have hw1 := Lib.hid B4
  clear B1 B2 B3 B4 cv CV
  rw [hn] at HB hcc
  generalize Lib.bytesWorld w 5 s = W1 at HB HW hw1
  generalize grownCap w n 0 5 = cd at HB hcc
  go_loopg [10] n (fun j v wr => ∃ k : Nat, k ≤ n ∧ j = n - k ∧ v = .int .i64 k ∧ Bys wr w.heap.size (curL l k) cd ∧ Below w.heap.size w wr)
  case atStart => exact ⟨0, by omega, rfl, rfl, by simpa [curL] using HB.out, HW.out⟩
  case round =>
    obtain ⟨k, hk, rfl, rfl, hby, hbl⟩ := hrel
    by_cases hlt : k < n
    · have hkl : k < l.length := by omega
      have hcell := hby.cell k (by rw [curL_length l k (by omega)]; omega)
      rw [curL_at l k hkl] at hcell
      have hfz := hby.frozen k (by have := hcc.out; omega)
      obtain ⟨x, hx⟩ : ∃ x, (l[k]).toNat = x := ⟨_, rfl⟩
      rw [hx] at hcell
      have GK := Lib.hid (fun W => great_any x W)
      have HBY := Lib.hid hby
      have HBL := Lib.hid hbl
      have hx8 : x < 256 := by rw [← hx]; exact UInt8.toNat_lt _
      clear hby hbl
      by_cases hup : 65 ≤ x ∧ x ≤ 90
      · rw [decide_eq_true hup] at GK
        have hs1 := low_nat (u := l[k]) (by rw [hx]; exact hup)
        have HN : Hid (Bys (wr.setCell ⟨w.heap.size, k, none⟩ (.int .u8 ((x : Int) + 32))) w.heap.size (curL l (k + 1)) cd) := Lib.hid (by
          have := HBY.out.put k (low l[k]) (by rw [curL_length l k (by omega)]; omega)
          rw [curL_step l k hkl, hs1, hx] at this
          simpa using this)
        obtain ⟨u1, u2⟩ := hup
        clear hs1 hx
        go_wp2_with (go_at_call 47; refine (GK.out _).mono ?_; rintro e w' ⟨rfl, rfl⟩)
        go_roundg (n - (k + 1))
        case measure => omega
        case rel => exact ⟨k + 1, by omega, rfl, by go_num, HN.out, HBL.out.setCell (p := ⟨w.heap.size, k, none⟩) (Nat.le_refl _) _⟩
      · rw [decide_eq_false hup] at GK
        have hs1 := low_same (u := l[k]) (by rw [hx]; exact hup)
        have HN := Lib.hid (curL_same l k hkl hs1)
        clear hs1 hx hup
        go_wp2_with (go_at_call 47; refine (GK.out _).mono ?_; rintro e w' ⟨rfl, rfl⟩)
        go_roundg (n - (k + 1))
        case measure => omega
        case rel => exact ⟨k + 1, by omega, rfl, by go_num, by rw [HN.out]; exact HBY.out, HBL.out⟩
    · obtain rfl : k = n := by omega
      have hcv := hby.conv (cap := cd) k (by rw [curL_length l k (by omega)]; omega)
      have hm : (⟨(curL l k).toArray⟩ : ByteArray) = M := by
        rw [← HMM.out]
        obtain ⟨_, _, h2⟩ := HM.out
        rw [h2, curL, List.take_of_length_le (by omega), List.drop_of_length_le (by omega), List.append_nil]
      rw [hm] at hcv
      clear hm HM
      go_wp2
      go_ret
      exact ⟨by rw [HMM.out]; rfl, hbl⟩
end Go.Proofs.YteadhiehhpafjaaDoor
