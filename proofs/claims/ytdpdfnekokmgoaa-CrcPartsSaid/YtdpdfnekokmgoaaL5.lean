/-
  The walk of CrcParts: it answers true, and changes nothing that was there. Conditions: the slices are read as told (Seen).
-/
import Derived.Test.YtdpdfnekokmgoaaL1
import Derived.Test.YtdpdfnekokmgoaaO3
namespace Go.Proofs.Ytdpdfnekokmgoaa
open Go.RowKit

theorem parts_long (A1 A2 : Option Addr) (n1 c1 n2 c2 : Nat) (hn : 5000 < n1 ∨ 50 < n2) (w : World) : Calls Try.prog 4 #[.slice A1 n1 c1, .slice A2 n2 c2] w (LawPost w) := by
  by_cases h1 : 5000 < n1
  · have hd : decide ((5000 : Int) < n1) = true := by simp; omega
    go_enter Try.func4, Try.ntmps4
    go_wp2_with (go_at_call 8; refine (fixed_yes _).mono ?_; rintro e w1 ⟨rfl, hb1⟩)
    go_ret
    exact ⟨rfl, hb1⟩
  · have hd : decide ((5000 : Int) < n1) = false := by simp; omega
    have hd2 : decide ((50 : Int) < n2) = true := by simp; omega
    clear hn
    go_enter Try.func4, Try.ntmps4
    go_wp2_with (go_at_call 8; refine (fixed_yes _).mono ?_; rintro e w1 ⟨rfl, hb1⟩)
    go_ret
    exact ⟨rfl, hb1⟩

/-- Where the parts stand: so many bytes added. -/
def PartsIn (w : World) (g p : Nat) (L : Nat) (wr : World) : Prop := p ≤ L ∧ Whole wr g 28 (tabTo 256) ∧ Below w.heap.size w wr

theorem crc_none (bs : List Nat) : crc (bs.take 0) = 0 := by simp [crc, reg, flip32]

theorem crc_part (bs : List Nat) (h256 : ∀ x ∈ bs, x < 256) (p q : Nat) : flip32 (reg (flip32 (crc (bs.take p))) ((bs.drop p).take q)) = crc (bs.take (p + q)) := by
  have hr := reg_lt 4294967295 (bs.take p) (by omega) (fun x hx => h256 x (List.mem_of_mem_take hx))
  have e : flip32 (crc (bs.take p)) = reg 4294967295 (bs.take p) := by unfold crc; exact flip_flip _ hr
  rw [e, ← reg_append, ← List.take_add]
  rfl

set_option maxHeartbeats 2000000 in
theorem parts_short (A1 A2 : Option Addr) (n1 c1 n2 c2 : Nat) (hn1 : n1 ≤ 5000) (hn2 : n2 ≤ 50) (bs cs : List Nat) (l1 : bs.length = n1) (l2 : cs.length = n2) (t1 : ∀ x ∈ bs, x < 256) (t2 : ∀ x ∈ cs, x < 65536) (w : World)
    (s1 : Seen w w.heap.size 1 A1 n1 c1 (bv bs)) (s2 : Seen w w.heap.size 1 A2 n2 c2 (hv cs)) : Calls Try.prog 4 #[.slice A1 n1 c1, .slice A2 n2 c2] w (LawPost w) := by
  have hnc := s1.2.1
  have hd : decide ((5000 : Int) < n1) = false := by simp; omega
  have hd2 : decide ((50 : Int) < n2) = false := by simp; omega
  have S1 := Lib.hid s1; clear s1
  have S2 := Lib.hid s2; clear s2
  have L1 := Lib.hid l1; clear l1
  have L2 := Lib.hid l2; clear l2
  have T1 := Lib.hid t1; clear t1
  have T2 := Lib.hid t2; clear t2
  have hz := tabZero
  go_enter Try.func4, Try.ntmps4
  go_wp2_with fail
  refine (fixed_yes _).mono ?_; rintro e w1 ⟨rfl, hb1⟩
  have HB1 := Lib.hid hb1; clear hb1
  go_wp2_with fail
  refine (table_any w1).mono ?_; rintro e w2 ⟨rfl, hb2⟩
  have HB2 := Lib.hid (HB1.out.trans (hb2.mono HB1.out.size)); clear hb2 HB1
  go_wp2_with (refine wpList_store_row rfl 28 (.tmp 5) (.tmp 22) rfl w2.heap.size (tabTo 256) rfl rfl 28 (tabTo 0) (new1 w2 _) (tabSize 256) (tabSame 0 256) (tabTo_one 256) ?_)
  have HT := Lib.hid (tab_made w2)
  have HB3 := Lib.hid (below_setRow (HB2.out.alloc HB2.out.size (.cells (tabTo 0) 28)) (g := w2.heap.size) (tabTo 256) HB2.out.size)
  generalize (w2.alloc (.cells (tabTo 0) 28)).setRow w2.heap.size (tabTo 256) = W at *
  have hg : w.heap.size ≤ w2.heap.size := HB2.out.size
  generalize w2.heap.size = g at *
  clear hz hd hd2
  go_loopw [6, 7, 8, 25] (fun a b p i wr => ∃ k q : Nat, k ≤ n2 ∧ i = .int .i64 k ∧ p = .int .i64 q ∧ a = .int .u32 (crc (bs.take q) : Nat) ∧ b = .int .u32 (crc (bs.take q) : Nat) ∧ PartsIn w g q n1 wr) (fun _ _ _ i _ => n2 - (intOf i).toNat)
  case atStart => exact ⟨0, 0, Nat.zero_le _, rfl, rfl, by rw [crc_none]; rfl, by rw [crc_none]; rfl, Nat.zero_le _, HT.out, HB3.out⟩
  case round =>
    obtain ⟨k, p, hk, rfl, rfl, rfl, rfl, hp, hT, hB⟩ := hrel
    have HT2 := Lib.hid hT; clear hT
    have HB4 := Lib.hid hB; clear hB
    by_cases hlt : k < n2
    · obtain ⟨b, o, u, rfl, hb, hu, hcell⟩ := (S2.out.below HB4.out).at (k := k) hlt
      obtain ⟨x, hx⟩ : ∃ x, cs[k]? = some x := ⟨_, List.getElem?_eq_getElem (by rw [L2.out]; exact hlt)⟩
      rw [hv_get? hx] at hu
      cases hu
      have hx2 := T2.out x (List.mem_of_getElem? hx)
      clear hx
      have wx : IntKind.i64.wrap (x : Int) = x := IntWalk.i64_in _ (by omega)
      obtain ⟨q, hq⟩ : ∃ q : Nat, (if (n1 : Int) - p < x then (n1 : Int) - p else x) = q := by
        split
        · exact ⟨n1 - p, by omega⟩
        · exact ⟨x, rfl⟩
      have hpq : p + q ≤ n1 := by split at hq <;> omega
      have LQ : Hid (((bs.drop p).take q).length = q) := Lib.hid (by have := L1.out; simp; omega)
      have TQ : Hid (∀ y ∈ (bs.drop p).take q, y < 256) := Lib.hid (fun y hy => T1.out y (List.mem_of_mem_drop (List.mem_of_mem_take hy)))
      have CP := Lib.hid (crc_part bs T1.out p q)
      have hpq1 : (p : Int) + q ≤ c1 := by omega
      have hpq2 : (p : Int) ≤ (p : Int) + q := by omega
      have hq0 : (0 : Int) ≤ q := by omega
      have SB := Lib.hid (S1.out.below HB4.out)
      by_cases hca : c1 = p
      · have hq9 : q = 0 := by omega
        have hcp : c1 - p = 0 := by omega
        have hca1 : (c1 = p) = True := by simp [hca]
        have SA : Hid (Seen wr w.heap.size 1 A1 q 0 (bv ((bs.drop p).take q))) := Lib.hid (by rw [hq9, List.take_zero]; exact SB.out.empty)
        clear hq9 hca
        go_wp2_with fail
        refine (add_any g _ (crc_lt _) A1 q 0 w.heap.size ((bs.drop p).take q) LQ.out TQ.out (by omega) wr HT2.out SA.out).mono ?_; rintro e w5 ⟨rfl, rfl⟩
        rw [CP.out]
        go_wp2_with fail
        refine (add_nil _ (crc_lt _) A1 q 0 w.heap.size ((bs.drop p).take q) LQ.out TQ.out (by omega) wr SA.out HB4.out.size).mono ?_; rintro e w6 ⟨rfl, hb6⟩
        rw [CP.out]
        have HB6 := Lib.hid (HB4.out.trans (hb6.mono HB4.out.size))
        have HT6 := Lib.hid (HT2.out.only (Only.of_below hb6 Nob) (fun h => h))
        clear hb6
        go_wp2_with fail
        go_roundw
        case rel => exact ⟨k + 1, p + q, by omega, by go_num, by go_num, rfl, rfl, hpq, HT6.out, HB6.out⟩
        case measure => simp [intOf]; omega
      · have hca1 : (c1 = p) = False := by simp [hca]
        clear hca
        have SA : Hid (Seen wr w.heap.size 1 (Option.map (fun x => x.add p) A1) q (c1 - p) (bv ((bs.drop p).take q))) := Lib.hid (by have h3 := SB.out.cut (q := p) (n := q) hpq; rw [bv_drop, bv_take] at h3; exact h3)
        go_wp2_with fail
        refine (add_any g _ (crc_lt _) (Option.map (fun x => x.add p) A1) q (c1 - p) w.heap.size ((bs.drop p).take q) LQ.out TQ.out (by omega) wr HT2.out SA.out).mono ?_; rintro e w5 ⟨rfl, rfl⟩
        rw [CP.out]
        go_wp2_with fail
        refine (add_nil _ (crc_lt _) (Option.map (fun x => x.add p) A1) q (c1 - p) w.heap.size ((bs.drop p).take q) LQ.out TQ.out (by omega) wr SA.out HB4.out.size).mono ?_; rintro e w6 ⟨rfl, hb6⟩
        rw [CP.out]
        have HB6 := Lib.hid (HB4.out.trans (hb6.mono HB4.out.size))
        have HT6 := Lib.hid (HT2.out.only (Only.of_below hb6 Nob) (fun h => h))
        clear hb6
        go_wp2_with fail
        go_roundw
        case rel => exact ⟨k + 1, p + q, by omega, by go_num, by go_num, rfl, rfl, hpq, HT6.out, HB6.out⟩
        case measure => simp [intOf]; omega
    · have hkd : decide (k < n2) = false := by simp; omega
      obtain ⟨q, hq⟩ : ∃ q, n1 - p = q := ⟨_, rfl⟩
      have hpq : p + q = n1 := by omega
      have hpn : (p : Int) ≤ n1 := by omega
      have hp0 : (0 : Int) ≤ p := by omega
      have LQ : Hid (((bs.drop p).take q).length = q) := Lib.hid (by have := L1.out; simp; omega)
      have TQ : Hid (∀ y ∈ (bs.drop p).take q, y < 256) := Lib.hid (fun y hy => T1.out y (List.mem_of_mem_drop (List.mem_of_mem_take hy)))
      have CP : Hid (flip32 (reg (flip32 (crc (bs.take p))) ((bs.drop p).take q)) = crc bs) := Lib.hid (by rw [crc_part bs T1.out p q, hpq, List.take_of_length_le (by rw [L1.out]; exact Nat.le_refl _)])
      have SB := Lib.hid (S1.out.below HB4.out)
      by_cases hca : c1 = p
      · have hq9 : q = 0 := by omega
        have hcp : c1 - p = 0 := by omega
        have hca1 : (c1 = p) = True := by simp [hca]
        have SA : Hid (Seen wr w.heap.size 1 A1 q 0 (bv ((bs.drop p).take q))) := Lib.hid (by rw [hq9, List.take_zero]; exact SB.out.empty)
        clear hq9 hca hpq
        go_wp2_with fail
        refine (add_any g _ (crc_lt _) A1 q 0 w.heap.size ((bs.drop p).take q) LQ.out TQ.out (by omega) wr HT2.out SA.out).mono ?_; rintro e w5 ⟨rfl, rfl⟩
        rw [CP.out]
        go_wp2_with fail
        refine (sum_any A1 n1 c1 w.heap.size bs L1.out T1.out (by omega) wr SB.out HB4.out.size).mono ?_; rintro e w6 ⟨rfl, hb6⟩
        have HB6 := Lib.hid (HB4.out.trans (hb6.mono HB4.out.size))
        have SA6 := Lib.hid (SA.out.below (hb6.mono HB4.out.size))
        clear hb6
        go_wp2_with fail
        refine (add_nil _ (crc_lt _) A1 q 0 w.heap.size ((bs.drop p).take q) LQ.out TQ.out (by omega) w6 SA6.out HB6.out.size).mono ?_; rintro e w7 ⟨rfl, hb7⟩
        rw [CP.out]
        have HB7 := Lib.hid (HB6.out.trans (hb7.mono HB6.out.size)); clear hb7
        go_wp2_with fail
        refine (sum_any A1 n1 c1 w.heap.size bs L1.out T1.out (by omega) w7 (S1.out.below HB7.out) HB7.out.size).mono ?_; rintro e w8 ⟨rfl, hb8⟩
        have HB8 := Lib.hid (HB7.out.trans (hb8.mono HB7.out.size)); clear hb8
        go_wp2_with fail
        go_ret
        exact ⟨by simp, HB8.out⟩
      · have hca1 : (c1 = p) = False := by simp [hca]
        have SA : Hid (Seen wr w.heap.size 1 (Option.map (fun x => x.add p) A1) q (c1 - p) (bv ((bs.drop p).take q))) := Lib.hid (by have h3 := SB.out.cut (q := p) (n := q) (by omega); rw [bv_drop, bv_take] at h3; exact h3)
        clear hca hpq
        go_wp2_with fail
        refine (add_any g _ (crc_lt _) (Option.map (fun x => x.add p) A1) q (c1 - p) w.heap.size ((bs.drop p).take q) LQ.out TQ.out (by omega) wr HT2.out SA.out).mono ?_; rintro e w5 ⟨rfl, rfl⟩
        rw [CP.out]
        go_wp2_with fail
        refine (sum_any A1 n1 c1 w.heap.size bs L1.out T1.out (by omega) wr SB.out HB4.out.size).mono ?_; rintro e w6 ⟨rfl, hb6⟩
        have HB6 := Lib.hid (HB4.out.trans (hb6.mono HB4.out.size))
        have SA6 := Lib.hid (SA.out.below (hb6.mono HB4.out.size))
        clear hb6
        go_wp2_with fail
        refine (add_nil _ (crc_lt _) (Option.map (fun x => x.add p) A1) q (c1 - p) w.heap.size ((bs.drop p).take q) LQ.out TQ.out (by omega) w6 SA6.out HB6.out.size).mono ?_; rintro e w7 ⟨rfl, hb7⟩
        rw [CP.out]
        have HB7 := Lib.hid (HB6.out.trans (hb7.mono HB6.out.size)); clear hb7
        go_wp2_with fail
        refine (sum_any A1 n1 c1 w.heap.size bs L1.out T1.out (by omega) w7 (S1.out.below HB7.out) HB7.out.size).mono ?_; rintro e w8 ⟨rfl, hb8⟩
        have HB8 := Lib.hid (HB7.out.trans (hb8.mono HB7.out.size)); clear hb8
        go_wp2_with fail
        go_ret
        exact ⟨by simp, HB8.out⟩

theorem parts_law (A1 : Option Addr) (n1 c1 : Nat) (_ : n1 ≤ 9223372036854775807) (A2 : Option Addr) (n2 c2 : Nat) (_ : n2 ≤ 9223372036854775807) (w : World)
    (h1 : ∃ bs : List Nat, bs.length = n1 ∧ (∀ y ∈ bs, y < 256) ∧ Seen w w.heap.size 1 A1 n1 c1 (bv bs)) (h2 : ∃ cs : List Nat, cs.length = n2 ∧ (∀ y ∈ cs, y < 65536) ∧ Seen w w.heap.size 1 A2 n2 c2 (hv cs)) :
    Calls Try.prog 4 #[.slice A1 n1 c1, .slice A2 n2 c2] w (LawPost w) := by
  by_cases hn : 5000 < n1 ∨ 50 < n2
  · exact parts_long A1 A2 n1 c1 n2 c2 hn w
  · obtain ⟨bs, l1, t1, s1⟩ := h1
    obtain ⟨cs, l2, t2, s2⟩ := h2
    exact parts_short A1 A2 n1 c1 n2 c2 (by omega) (by omega) bs cs l1 l2 t1 t2 w s1 s2
end Go.Proofs.Ytdpdfnekokmgoaa
