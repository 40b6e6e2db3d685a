/-
  Contracts of crc: Burst. Conditions: each theorem names the range of its arguments.
-/
import Derived.Test.YtdpdfnekokmgoaaT3
import Derived.Test.YtdpdfnekokmgoaaY1
import Derived.RegionTactic
import Derived.BigRegion
namespace Go.Proofs.Ytdpdfnekokmgoaa
open Go.RowKit

theorem own_put {w : World} {base : Nat} {e : TypeId} {n g cap : Nat} {xs : List Value} (h : w.ownsRow base e 1 (.slice (some ⟨g, 0, none⟩) n cap) n xs) (i : Nat) (u : Value) : (w.setCell ⟨g, i, none⟩ u).ownsRow base e 1 (.slice (some ⟨g, 0, none⟩) n cap) n (xs.set i u) := by
  refine ⟨by simpa using h.1, ?_⟩
  rcases h.2 with ⟨hv, _⟩ | ⟨g', cap', cur, hv, hb, hh, h1, h2, h3, ht⟩
  · cases hv
  · injection hv with e1 e2 e3
    injection e1 with e1
    injection e1 with e1
    subst e1 e3
    refine .inr ⟨g, cap, cur.setIfInBounds i u, rfl, hb, (Whole.put (w := w) (t := e) (cs := cur) hh i u), h1, h2, by simpa using h3, ?_⟩
    simp only [Nat.mul_one] at ht ⊢
    rw [← ht]
    simp [List.take_set]
theorem own_cell {w : World} {base : Nat} {e : TypeId} {n g cap : Nat} {xs : List Value} (h : w.ownsRow base e 1 (.slice (some ⟨g, 0, none⟩) n cap) n xs) {i : Nat} {u : Value} (hu : xs[i]? = some u) : w.cell? ⟨g, i, none⟩ = some u ∧ w.frozen? ⟨g, i, none⟩ = false ∧ base ≤ g := by
  have hw := own_whole h (k := g) rfl
  obtain ⟨h1, cs, hW⟩ := hw
  refine ⟨?_, hW.frozen i, h1⟩
  have := (Seen.of_own h).2.2
  rcases this with ⟨h5, _⟩ | ⟨a, ha, h5⟩
  · cases h5
  · injection ha with ha
    subst ha
    have h6 := (h5 (by rintro rfl; simp at hu)).2.2 i u hu
    simpa using h6

theorem bv_get? {l : List Nat} {i x : Nat} (h : l[i]? = some x) : (bv l)[i]? = some (.int .u8 x) := by simp [bv, h]
theorem unpack_turn' (bs : List Nat) (p : Nat) (b : Bool) (x : Nat) (h : bs[p / 8]? = some x) : unpack (bs.set (p / 8) (x ^^^ (b.toNat * 2 ^ (p % 8)))) = (unpack bs).set p (((unpack bs)[p]?.getD false) != b) := by
  obtain ⟨h1, rfl⟩ := List.getElem?_eq_some_iff.1 h
  exact unpack_turn bs p b h1

theorem turn_le (b : Bool) (r : Nat) (hr : r < 8) : b.toNat * 2 ^ r < 256 := by
  have h1 := Nat.pow_le_pow_right (n := 2) (by omega) (show r ≤ 7 by omega)
  cases b
  · simp
  · simp; omega
theorem turn_lt (b : Bool) (x r : Nat) (hx : x < 256) (hr : r < 8) : x ^^^ (b.toNat * 2 ^ r) < 256 := Nat.xor_lt_two_pow (n := 8) (by omega) (turn_le b r hr)
theorem burst_val (pat k x r : Nat) (hp : pat < 4294967296) (hx : x < 256) (hr : r < 8) :
    bits BinOp.xor IntKind.u8 (x : Int) (bits BinOp.and IntKind.u32 ((pat : Int) / 2 ^ k) 1 % 256 * 2 ^ r % 256) = ((x ^^^ ((pat.testBit k).toNat * 2 ^ r) : Nat) : Int) := by
  have h1 : ((pat : Int) / 2 ^ k) = ((pat / 2 ^ k : Nat) : Int) := by simp
  have h2 : pat / 2 ^ k < 4294967296 := Nat.lt_of_le_of_lt (Nat.div_le_self _ _) hp
  rw [h1, show (1 : Int) = ((1 : Nat) : Int) from rfl, u32_and_nat _ _ h2 (by omega), nat_mask1]
  have h3 : pat / 2 ^ k % 2 = (pat.testBit k).toNat := by
    rw [← bit_eq]
    have : pat / 2 ^ k % 2 = 0 ∨ pat / 2 ^ k % 2 = 1 := by omega
    rcases this with h | h <;> simp [h]
  rw [h3]
  have h4 := turn_le (pat.testBit k) r hr
  have h5 : (((pat.testBit k).toNat : Nat) : Int) % 256 * 2 ^ r % 256 = (((pat.testBit k).toNat * 2 ^ r : Nat) : Int) := by
    have h6 : (((pat.testBit k).toNat : Nat) : Int) % 256 = ((pat.testBit k).toNat : Nat) := by cases pat.testBit k <;> rfl
    rw [h6]
    have h7 : (((pat.testBit k).toNat : Nat) : Int) * 2 ^ r = (((pat.testBit k).toNat * 2 ^ r : Nat) : Int) := by simp
    rw [h7]
    omega
  rw [h5, u8_xor_nat _ _ hx h4]

def BurstIn (w : World) (v : Value) (n : Nat) (bs : List Nat) (at' : Int) (pat i : Nat) (wr : World) : Prop :=
  ∃ cur : List Nat, cur.length = n ∧ (∀ x ∈ cur, x < 256) ∧ unpack cur = burstTo (unpack bs) at' pat i ∧ wr.ownsRow w.heap.size 5 1 v n (bv cur) ∧ Below w.heap.size w wr

theorem wrap_place (a : Int) (k : Nat) (h0 : -9223372036854775808 ≤ a) (h1 : a ≤ 9223372036854775807) (hk : k < 32) : IntKind.i64.wrap (a + k) = a + k ∧ a + k ≤ 9223372036854775807 ∨ IntKind.i64.wrap (a + k) < 0 ∧ 9223372036854775807 < a + k := by
  by_cases h : a + k ≤ 9223372036854775807
  · exact .inl ⟨IntWalk.i64_in _ (by omega), h⟩
  · right
    refine ⟨?_, by omega⟩
    simp [IntKind.wrap, IntKind.bits, IntKind.signed]
    omega

set_option maxHeartbeats 1000000 in
theorem burst_any (A : Option Addr) (c B : Nat) (bs : List Nat) (n : Nat) (hn : bs.length = n) (h256 : ∀ x ∈ bs, x < 256) (hl : n ≤ 1000000) (at' : Int) (h0 : -9223372036854775808 ≤ at') (h1 : at' ≤ 9223372036854775807) (pat : Nat) (hp : pat < 4294967296)
    (w : World) (hs : Seen w B 1 A n c (bv bs)) (hB : B ≤ w.heap.size) :
    Calls Try.prog 16 #[.slice A n c, .int .i64 at', .int .u32 pat] w (GivesRow w 5 1 n (bv (burst bs at' pat))) := by
  have HS := Lib.hid hs; clear hs
  have H256 := Lib.hid h256; clear h256
  have HN := Lib.hid hn; clear hn
  go_enter Try.func16, Try.ntmps16
  go_wp2_with (go_at_call 25; refine (clone_any A n c B _ w HS.out hB (bv_oneCell _) (by omega)).mono ?_; rintro e w1 ⟨v, rfl, hown, hb1⟩)
  obtain ⟨A1, c1, rfl, hc1⟩ := own_form hown
  have H1 : Hid (BurstIn w (.slice A1 n c1) n bs at' pat 0 w1) := Lib.hid ⟨bs, HN.out, H256.out, (burstTo_zero _ _ _).symm, hown, hb1⟩
  clear hown hb1
  go_loopw [8, 9, 12] (fun _ _ i wr => ∃ k : Nat, k ≤ 32 ∧ i = .int .i64 k ∧ BurstIn w (.slice A1 n c1) n bs at' pat k wr) (fun _ _ i _ => 32 - (intOf i).toNat)
  case atStart => exact ⟨0, Nat.zero_le _, rfl, H1.out⟩
  case round =>
    obtain ⟨k, hk, rfl, hin⟩ := hrel
    by_cases hlt : k < 32
    · have hwp := wrap_place at' k h0 h1 hlt
      obtain ⟨q, hq⟩ : ∃ q, IntKind.i64.wrap (at' + k) = q := ⟨_, rfl⟩
      rw [hq] at hwp
      by_cases hq0 : 0 ≤ q
      · have hq1 : q = at' + k := by omega
        obtain ⟨p, rfl⟩ := Int.eq_ofNat_of_zero_le hq0
        by_cases hpn : p / 8 < n
        · obtain ⟨cur, e1, e2, e3, e4, e5⟩ := hin
          obtain ⟨g, cap, hv, hnc, hcm⟩ := own_pos e4 (by omega)
          injection hv with hv1 hv2 hv3
          subst hv1 hv3
          obtain ⟨x, hxe⟩ : ∃ x, cur[p / 8]? = some x := ⟨_, List.getElem?_eq_getElem (by omega)⟩
          obtain ⟨hc, hf, hg⟩ := own_cell e4 (bv_get? hxe)
          have hx := e2 x (List.mem_of_getElem? hxe)
          have HX := Lib.hid (fun b => unpack_turn' cur p b x hxe)
          have HQ1 := Lib.hid hq1; clear hq1
          clear hwp hxe
          have HE1 := Lib.hid e1; clear e1
          have HE2 := Lib.hid e2; clear e2
          have HE3 := Lib.hid e3; clear e3
          have HE4 := Lib.hid e4; clear e4
          have HE5 := Lib.hid e5; clear e5
          obtain ⟨j, hj⟩ : ∃ j, p / 8 = j := ⟨_, rfl⟩
          obtain ⟨r, hr⟩ : ∃ r, p % 8 = r := ⟨_, rfl⟩
          rw [hj] at hc hf hpn
          have td : (p : Int).tdiv 8 = j := by rw [Int.tdiv_eq_ediv_of_nonneg (by omega)]; omega
          have tm : (p : Int).tmod 8 = r := by rw [Int.tmod_eq_emod_of_nonneg (by omega)]; omega
          have td2 : (p : Int) / 8 = j := by omega
          have tm2 : (p : Int) % 8 = r := by omega
          have hr8 : r < 8 := by omega
          have wj : IntKind.i64.wrap (j : Int) = j := IntWalk.i64_in _ (by omega)
          have wr' : IntKind.i64.wrap (r : Int) = r := IntWalk.i64_in _ (by omega)
          have hj0 : (0 : Int) ≤ j := by omega
          have hj1 : (j : Int) < n := by omega
          have hr0 : (0 : Int) ≤ r := by omega
          have hk0 : (0 : Int) ≤ k := by omega
          have HJ := Lib.hid hj; clear hj
          have HR := Lib.hid hr; clear hr
          go_wp2
          go_region
          go_wp2
          rw [burst_val pat k x r hp hx hr8]
          go_roundw
          case rel =>
            have hb := HX.out (pat.testBit k)
            have hpu : p < (unpack bs).length := by have := HN.out; have := HJ.out; simp; omega
            obtain ⟨b1, b2⟩ := burstTo_in (unpack bs) at' pat k p HQ1.out hpu
            refine ⟨k + 1, by omega, by go_num, cur.set j (x ^^^ ((pat.testBit k).toNat * 2 ^ r)), by simpa using HE1.out, ?_, ?_, ?_, (HE5.out.setCell hg _).drew⟩
            · intro y hy
              rcases List.mem_or_eq_of_mem_set hy with h | h
              · exact HE2.out y h
              · rw [h]; exact turn_lt _ _ _ hx hr8
            · rw [← HJ.out, ← HR.out, hb, b2, HE3.out, b1]
              rfl
            · rw [← bv_set]
              exact (own_put HE4.out j _).drew
          case measure => simp [intOf]; omega
        · have HIn := Lib.hid hin; clear hin
          have HW := Lib.hid hwp; clear hwp
          have HQ1 := Lib.hid hq1; clear hq1
          obtain ⟨j, hj⟩ : ∃ j, p / 8 = j := ⟨_, rfl⟩
          have td2 : (p : Int) / 8 = j := by omega
          have wj : IntKind.i64.wrap (j : Int) = j := IntWalk.i64_in _ (by have := HW.out; omega)
          have hd : decide (j < n) = false := by simp; omega
          have HPN : Hid (¬ p / 8 < n) := Lib.hid hpn
          clear hj hpn
          go_wp2
          go_roundw
          case rel =>
            obtain ⟨cur, e1, e2, e3, e4, e5⟩ := HIn.out
            refine ⟨k + 1, by omega, by go_num, cur, e1, e2, ?_, e4, e5⟩
            rw [burstTo_out _ _ _ _ (by have := HQ1.out; have := HN.out; have := HPN.out; simp; omega)]
            exact e3
          case measure => simp [intOf]; omega
      · have HIn := Lib.hid hin; clear hin
        have HW := Lib.hid hwp; clear hwp
        go_wp2
        go_roundw
        case rel =>
          obtain ⟨cur, e1, e2, e3, e4, e5⟩ := HIn.out
          refine ⟨k + 1, by omega, by go_num, cur, e1, e2, ?_, e4, e5⟩
          rw [burstTo_out _ _ _ _ (by have := HW.out; have := HN.out; simp; omega)]
          exact e3
        case measure => simp [intOf]; omega
    · have HIn : Hid (BurstIn w (.slice A1 n c1) n bs at' pat 32 wr) := by rw [show (32 : Nat) = k by omega]; exact Lib.hid hin
      clear hin
      go_wp2
      go_ret
      obtain ⟨cur, e1, e2, e3, e4, e5⟩ := HIn.out
      refine ⟨_, rfl, ?_, e5⟩
      unfold burst
      rw [← e3, pack_unpack cur e2]
      exact e4
end Go.Proofs.Ytdpdfnekokmgoaa
