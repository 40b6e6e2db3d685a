/-
  The walk of BitioBack: it answers true, and changes nothing that was there. Conditions: the slice of puts is read as told (PutsAt).
-/
import Derived.Test.YtgjpfmijijbjbaaL1
import Derived.Test.YtgjpfmijijbjbaaN
namespace Go.Proofs.Ytgjpfmijijbjbaa
open Go.RowKit

theorem put_nil (v n : Int) (w : World) : Calls Try.prog 12 #[.pointer none, .int .u32 v, .int .i64 n] w fun e w' => e = .returned (.tuple #[]) ∧ w = w' := by
  go_enter Try.func12, Try.ntmps12
  go_wp2
  go_returns
  exact ⟨rfl, rfl⟩
theorem put_no (g : Nat) (v n : Int) (h : n < 0 ∨ 32 < n) (w : World) : Calls Try.prog 12 #[.pointer (some ⟨g, 0, none⟩), .int .u32 v, .int .i64 n] w fun e w' => e = .returned (.tuple #[]) ∧ w = w' := by
  go_enter Try.func12, Try.ntmps12
  go_wp2_with (go_at_call 46; refine (isWidth_no n h _).mono ?_; rintro e w' ⟨rfl, rfl⟩)
  go_returns
  exact ⟨rfl, rfl⟩
theorem writerAlign_nil (w : World) : Calls Try.prog 11 #[.pointer none] w fun e w' => e = .returned (.tuple #[]) ∧ w = w' := by
  go_enter Try.func11, Try.ntmps11
  go_wp2
  go_returns
  exact ⟨rfl, rfl⟩
theorem len_nil (w : World) : Calls Try.prog 14 #[.pointer none] w fun e w' => e = .returned (.int .i64 0) ∧ w = w' := by
  go_enter Try.func14, Try.ntmps14
  go_wp2
  go_ret
  exact ⟨rfl, rfl⟩
theorem writerBytes_nil (w : World) : Calls Try.prog 15 #[.pointer none] w fun e w' => e = .returned (.slice none 0 0) ∧ w = w' := by
  go_enter Try.func15, Try.ntmps15
  go_wp2
  go_ret
  exact ⟨rfl, rfl⟩

/-- A slice of puts: numbers V, of K bits, aligned ahead or not. -/
def PutsAt (w : World) (B : Nat) (A : Option Addr) (n : Nat) (V : Nat → Nat) (K : Nat → Int) (Al : Nat → Bool) : Prop :=
  ∀ i, i < n → ∃ b o, A = some ⟨b, o, none⟩ ∧ b < B ∧ w.cell? ⟨b, o + i * 3, none⟩ = some (.int .u32 (V i)) ∧ w.cell? ⟨b, o + i * 3 + 1, none⟩ = some (.int .i64 (K i)) ∧ w.cell? ⟨b, o + i * 3 + 2, none⟩ = some (.bool (Al i)) ∧ V i < 4294967296

theorem PutsAt.below {w w' : World} {B : Nat} {A : Option Addr} {n : Nat} {V : Nat → Nat} {K : Nat → Int} {Al : Nat → Bool} (h : PutsAt w B A n V K Al) (hb : Below B w w') : PutsAt w' B A n V K Al := by
  intro i hi
  obtain ⟨b, o, h1, h2, h3, h4, h5, h6⟩ := h i hi
  exact ⟨b, o, h1, h2, (hb.cell (p := ⟨b, o + i * 3, none⟩) h2).trans h3, (hb.cell (p := ⟨b, o + i * 3 + 1, none⟩) h2).trans h4, (hb.cell (p := ⟨b, o + i * 3 + 2, none⟩) h2).trans h5, h6⟩

/-- One put. -/
theorem put_any (v : Nat) (n : Int) (B g : Nat) (sv : Value) (l : List Bool) (hv : v < 4294967296) (w : World) (hw : WriterAt w B g sv l) (hl : l.length ≤ 1000000) :
    Calls Try.prog 12 #[.pointer (some ⟨g, 0, none⟩), .int .u32 v, .int .i64 n] w fun e w' => e = .returned (.tuple #[]) ∧ PutPost w B g sv (l ++ if 0 ≤ n ∧ n ≤ 32 then bitsOf v n.toNat else []) w' := by
  by_cases h : 0 ≤ n ∧ n ≤ 32
  · rw [if_pos h]
    obtain ⟨m, rfl⟩ := Int.eq_ofNat_of_zero_le h.1
    exact put_yes v m B g sv l hv (by omega) w hw hl
  · rw [if_neg h, List.append_nil]
    exact (put_no g v n (by omega) w).mono fun e w' ⟨he, hw'⟩ => ⟨he, by subst hw'; exact ⟨sv, hw, Only.refl _ _, fun k hk => .inl hk⟩⟩

theorem back_long (A : Option Addr) (n c : Nat) (hn : 200 < n) (hm : n ≤ 9223372036854775807) (w : World) : Calls Try.prog 5 #[.slice A n c] w (LawPost w) := by
  go_enter Try.func5, Try.ntmps5
  go_wp2_with (go_at_call 9; refine (fixed_yes _).mono ?_; rintro e w1 ⟨rfl, hb1⟩)
  go_ret
  exact ⟨rfl, hb1⟩

theorem mask64 (v j : Nat) (hv : v < 4294967296) (hj : j ≤ 32) :
    (IntKind.u64.wrap ((v : Int) % 2 ^ j) != bits BinOp.and IntKind.u64 (v : Int) (IntKind.u64.wrap (IntKind.u64.wrap (2 ^ j) - 1))) = false := by
  have hp := pow_le_32 hj
  have hp1 : 1 ≤ 2 ^ j := Nat.one_le_two_pow
  have e0 : ((2 : Int) ^ j) = ((2 ^ j : Nat) : Int) := (Int.natCast_pow 2 j).symm
  have e2 : (v : Int) % ((2 ^ j : Nat) : Int) = ((v % 2 ^ j : Nat) : Int) := (Int.natCast_emod _ _).symm
  have h3 : v % 2 ^ j ≤ v := Nat.mod_le _ _
  have e3 : IntKind.u64.wrap (((2 ^ j : Nat) : Int) - 1) = ((2 ^ j - 1 : Nat) : Int) := by
    rw [IntWalk.u64_in _ (by omega)]; omega
  rw [e0, e2, IntWalk.u64_in ((v % 2 ^ j : Nat) : Int) (by omega), IntWalk.u64_in ((2 ^ j : Nat) : Int) (by omega), e3, u64_and_nat v _ (by omega) (by omega), Nat.and_two_pow_sub_one_eq_mod]
  simp

set_option maxHeartbeats 1000000 in
set_option maxRecDepth 100000 in
theorem back_short (A : Option Addr) (n c : Nat) (hn : n ≤ 200) (V : Nat → Nat) (K : Nat → Int) (Al : Nat → Bool) (w : World) (hP : PutsAt w w.heap.size A n V K Al) : Calls Try.prog 5 #[.slice A n c] w (LawPost w) := by
  have HP := Lib.hid hP; clear hP
  have hd : decide ((200 : Int) < n) = false := by simp; omega
  go_enter Try.func5, Try.ntmps5
  go_wp2_with fail
  refine (fixed_yes _).mono ?_; rintro e w1 ⟨rfl, hb1⟩
  have HB1 := Lib.hid hb1; clear hb1
  go_wp2_with fail
  refine (newWriter_any _).mono ?_; rintro e w2 ⟨rfl, hW2, hb2⟩
  have HW2 := Lib.hid hW2; clear hW2
  have HB2 := Lib.hid hb2; clear hb2
  go_wp2_with fail
  go_loopw [25] (fun i wr => ∃ k : Nat, k ≤ n ∧ i = .int .i64 k ∧ (∃ sv, WriterAt wr w1.heap.size w1.heap.size sv (wrote V K k)) ∧ Below w1.heap.size w1 wr) (fun i _ => n - (intOf i).toNat)
  case atStart => exact ⟨0, Nat.zero_le _, rfl, ⟨_, HW2.out⟩, HB2.out⟩
  case round =>
    obtain ⟨k, hk, rfl, ⟨sv, hW⟩, hbel⟩ := hrel
    have hlen := wrote_length V K k
    by_cases hlt : k < n
    · obtain ⟨b, o, rfl, hb, c0, c1, c2, hv⟩ := (HP.out.below (HB1.out.trans (hbel.mono HB1.out.size))) k hlt
      have hb1 : b < w1.heap.size := Nat.lt_of_lt_of_le hb HB1.out.size
      have hbr : b < wr.heap.size := Nat.lt_of_lt_of_le hb1 hbel.size
      have hne : wr.heap.size ≠ b := by omega
      have HW := Lib.hid hW; clear hW
      have HBel := Lib.hid hbel; clear hbel
      have hk0 : (0 : Int) ≤ k := by omega
      go_wp2_with fail
      have hWa : WriterAt (wr.alloc (.cells #[.int .u32 (V k), .int .i64 (K k), .bool (Al k)] 29)) w1.heap.size w1.heap.size sv (wrote V K k) := HW.out.only ((Only.refl Nob _).alloc _) (fun _ _ h => h)
      refine (put_any (V k) (K k) _ _ sv _ hv _ hWa (by omega)).mono ?_; rintro e w3 ⟨rfl, sv3, hW3, hO3, hB3⟩
      have HW3 := Lib.hid hW3; clear hW3
      have hsz := HBel.out.size
      have hb3 : Below w1.heap.size w1 w3 := (HBel.out.alloc hsz _).trans (hO3.below (by simp; omega) (fun i hi => by
        rcases hi with rfl | h
        · exact Nat.le_refl _
        · exact (own_whole HW.out.2.2 h).1))
      have HB3 := Lib.hid hb3; clear hb3 hB3 hO3 hWa
      go_wp2_with fail
      go_roundw
      case rel => exact ⟨k + 1, by omega, by go_num, ⟨_, HW3.out⟩, HB3.out⟩
      case measure => simp [intOf]; omega
    · obtain rfl : n = k := by omega
      have HW := Lib.hid hW; clear hW
      have HBel := Lib.hid hbel; clear hbel
      go_wp2_with fail
      refine (writerBytes_any _ _ _ _ _ HW.out (by omega)).mono ?_; rintro e w3 ⟨v3, rfl, hown3, hb3⟩
      obtain ⟨A3, c3, rfl, hc3, hs3⟩ := own_seen hown3
      have HS3 := Lib.hid hs3; clear hs3 hown3
      have HB3 := Lib.hid hb3; clear hb3
      go_wp2_with fail
      refine (newReader_any A3 _ c3 _ (pack (wrote V K n)) _ (by simp) HS3.out (Nat.le_refl _) (by omega)).mono ?_; rintro e w4 ⟨g, sv4, rfl, hR4, hb4⟩
      have HR4 := Lib.hid hR4; clear hR4
      have HB4 := Lib.hid hb4; clear hb4
      go_wp2_with fail
      have HC : Hid (Below w1.heap.size w1 w3) := HBel.out.trans (HB3.out.mono HBel.out.size)
      go_loopw [41] (fun i wq => ∃ m : Nat, m ≤ n ∧ i = .int .i64 m ∧ ReaderAt wq w3.heap.size g sv4 (pack (wrote V K n)) (wrote V K m).length ∧ Below w3.heap.size w3 wq) (fun i _ => n - (intOf i).toNat)
      case atStart => exact ⟨0, Nat.zero_le _, rfl, HR4.out, HB4.out⟩
      case round =>
        obtain ⟨m, hm, rfl, hR, hbel⟩ := hrel
        have hBz : Below w.heap.size w wr := HB1.out.trans ((HC.out.trans (hbel.mono HC.out.size)).mono HB1.out.size)
        by_cases hlt : m < n
        · obtain ⟨b, o, rfl, hb, c0, c1, c2, hv⟩ := (HP.out.below hBz) m hlt
          have hbr : b < wr.heap.size := Nat.lt_of_lt_of_le hb hBz.size
          have hne : wr.heap.size ≠ b := by omega
          have HR := Lib.hid hR; clear hR
          have HBel2 := Lib.hid hbel; clear hbel
          have HBZ := Lib.hid hBz; clear hBz
          have hk0 : (0 : Int) ≤ m := by omega
          have hwm : Hid (wrote V K (m + 1) = wrote V K m ++ (if 0 ≤ K m ∧ K m ≤ 32 then bitsOf (V m) (K m).toNat else [])) := rfl
          have hsz := HBel2.out.size
          by_cases hv1 : K m < 0
          · go_wp2_with fail
            go_roundw
            case rel => exact ⟨m + 1, by omega, by go_num, by rw [hwm.out, if_neg (by omega), List.append_nil]; exact HR.out.only ((Only.refl Nob _).alloc _) (fun _ _ h => h), HBel2.out.alloc hsz _⟩
            case measure => simp [intOf]; omega
          · by_cases hv2 : 32 < K m
            · go_wp2_with fail
              go_roundw
              case rel => exact ⟨m + 1, by omega, by go_num, by rw [hwm.out, if_neg (by omega), List.append_nil]; exact HR.out.only ((Only.refl Nob _).alloc _) (fun _ _ h => h), HBel2.out.alloc hsz _⟩
              case measure => simp [intOf]; omega
            · obtain ⟨j, hj⟩ := Int.eq_ofNat_of_zero_le (show 0 ≤ K m by omega)
              have hj32 : j ≤ 32 := by omega
              rw [hj] at c1 hwm
              have HJ := Lib.hid hj; clear hj hv1 hv2
              have hd1 : decide ((j : Int) < 0) = false := by simp
              have hd2 : decide ((32 : Int) < j) = false := by simp; omega
              go_wp2_with fail
              have hRa : ReaderAt (wr.alloc (.cells #[.int .u32 (V m), .int .i64 j, .bool (Al m)] 29)) w3.heap.size g sv4 (pack (wrote V K n)) (wrote V K m).length := HR.out.only ((Only.refl Nob _).alloc _) (fun _ _ h => h)
              obtain ⟨rest, hrest⟩ := wrote_more V K (m + 1) n (by omega)
              have hw1 : wrote V K (m + 1) = wrote V K m ++ bitsOf (V m) j := by rw [hwm.out, if_pos (by omega)]; rfl
              have hw2 : wrote V K n = wrote V K m ++ bitsOf (V m) j ++ rest := by rw [hrest, hw1]
              have hle : (wrote V K m).length + j ≤ (wrote V K n).length := by rw [hw2]; simp
              have hnum : num (((unpack (pack (wrote V K n))).drop (wrote V K m).length).take j) = V m % 2 ^ j := by
                have h1 := unpack_mid _ _ _ _ hw2
                rw [bitsOf_length] at h1
                rw [h1, num_bitsOf]
              refine (get_yes _ g sv4 _ _ j _ hRa (by simp; omega) (pack_lt _) hj32 (by simp; omega)).mono ?_; rintro e w5 ⟨rfl, hR5, hO5⟩
              rw [hnum]
              rw [show (wrote V K m).length + j = (wrote V K (m + 1)).length by rw [hw1]; simp] at hR5
              have HR5 := Lib.hid hR5
              have hc5 : ∀ i, w5.cell? ⟨wr.heap.size, i, none⟩ = (#[Value.int .u32 (V m), .int .i64 j, .bool (Al m)] : Array Value)[i]? := by
                have h1 := (Whole.new wr 29 #[Value.int .u32 (V m), .int .i64 j, .bool (Al m)]).only hO5 (by have := HR.out.2.1.lt; omega)
                exact h1.cell
              have d0 : w5.cell? ⟨wr.heap.size, 0, none⟩ = some (.int .u32 (V m)) := hc5 0
              have d1 : w5.cell? ⟨wr.heap.size, 1, none⟩ = some (.int .i64 j) := hc5 1
              have hb5 : Below w3.heap.size w3 w5 := (HBel2.out.alloc hsz _).trans (hO5.below (by simp; omega) (fun i hi => by have := HR.out.1; omega))
              have HB5 := Lib.hid hb5
              clear hnum hle hw2 hw1 hrest hRa hR5 hO5 hc5 hb5
              have hmask := mask64 (V m) j hv hj32
              go_wp2_with fail
              go_roundw
              case rel => exact ⟨m + 1, by omega, by go_num, HR5.out, HB5.out⟩
              case measure => simp [intOf]; omega
        · obtain rfl : n = m := by omega
          have hl8 : decide (((8 * (pack (wrote V K n)).length - (wrote V K n).length : Nat) : Int) < 8) = true := by simp; omega
          have HR := Lib.hid hR; clear hR
          have HBZ := Lib.hid hBz; clear hBz hbel
          go_wp2_with (first | (go_at_call 12; refine (put_nil 1 1 _).mono ?_; rintro e w6 ⟨rfl, rfl⟩) | (go_at_call 11; refine (writerAlign_nil _).mono ?_; rintro e w6 ⟨rfl, rfl⟩) | (go_at_call 19; refine (get_nil 1 _).mono ?_; rintro e w6 ⟨rfl, rfl⟩) | (go_at_call 23; refine (take_nil 1 _).mono ?_; rintro e w6 ⟨rfl, rfl⟩) | (go_at_call 21; refine (readerAlign_nil _).mono ?_; rintro e w6 ⟨rfl, rfl⟩) | (go_at_call 25; fail) | (go_at_call 14; fail))
          refine (left_any _ g sv4 _ _ _ HR.out (by simp; omega) (by simp; omega)).mono ?_; rintro e w6 ⟨rfl, rfl⟩
          go_wp2_with fail
          refine (len_nil _).mono ?_; rintro e w6 ⟨rfl, rfl⟩
          go_wp2_with fail
          refine (writerBytes_nil _).mono ?_; rintro e w6 ⟨rfl, rfl⟩
          go_wp2_with fail
          refine (left_nil _).mono ?_; rintro e w6 ⟨rfl, rfl⟩
          go_wp2_with fail
          go_ret
          exact ⟨rfl, HBZ.out.drew⟩

theorem back_law (A : Option Addr) (n c : Nat) (hm : n ≤ 9223372036854775807) (w : World) (h : ∃ (V : Nat → Nat) (K : Nat → Int) (Al : Nat → Bool), PutsAt w w.heap.size A n V K Al) : Calls Try.prog 5 #[.slice A n c] w (LawPost w) := by
  obtain ⟨V, K, Al, hP⟩ := h
  by_cases hn : n ≤ 200
  · exact back_short A n c hn V K Al w hP
  · exact back_long A n c (by omega) hm w
end Go.Proofs.Ytgjpfmijijbjbaa
