/-
  Contracts of the reader: NewReader, Left, Align, Get. Conditions: the reader stands as told (ReaderAt), over at most a million bytes.
-/
import Derived.Test.YtijjcecboepiiaaV
namespace Go.Proofs.Ytijjcecboepiiaa
open Go.RowKit

/-- A reader stands at block g, over these bytes, so many bits read. -/
def ReaderAt (w : World) (B g : Nat) (sv : Value) (bs : List Nat) (at_ : Nat) : Prop :=
  B ≤ g ∧ Whole w g 81 #[sv, .int .i64 at_] ∧ w.ownsRow B 5 1 sv bs.length (bs.map fun x : Nat => Value.int .u8 x)

def NewR (w : World) (bs : List Nat) (e : Ending) (w' : World) : Prop :=
  ∃ g sv, e = .returned (.pointer (some ⟨g, 0, none⟩)) ∧ ReaderAt w' w.heap.size g sv bs 0 ∧ Below w.heap.size w w'

theorem newReader_any (A : Option Addr) (n c B : Nat) (bs : List Nat) (w : World) (hn : bs.length = n) (hs : Seen w B 1 A n c (bs.map fun x : Nat => Value.int .u8 x)) (hB : B ≤ w.heap.size) (hl : n ≤ 1000000) :
    Calls Try.prog 23 #[.slice A n c] w (NewR w bs) := by
  subst hn
  have HS := Lib.hid hs; clear hs
  go_enter Try.func23, Try.ntmps23
  go_wp2_with (go_at_call 45; refine (clone_any A _ c B _ _ HS.out hB (bytes_oneCell _) (by omega)).mono ?_; rintro e w' ⟨v, rfl, hown, hbel⟩; obtain ⟨A1, c1, rfl, _⟩ := own_form hown)
  go_ret
  have hsz := hbel.size
  exact ⟨w'.heap.size, _, rfl, ⟨hsz, Whole.new _ _ _, hown.alloc _⟩, hbel.alloc hsz _⟩

set_option maxRecDepth 20000 in
theorem left_any (B g : Nat) (sv : Value) (bs : List Nat) (a : Nat) (w : World) (h : ReaderAt w B g sv bs a) (hb : bs.length ≤ 1000000) (ha : a ≤ 8 * bs.length) :
    Calls Try.prog 29 #[.pointer (some ⟨g, 0, none⟩)] w fun e w' => e = .returned (.int .i64 ((8 * bs.length - a : Nat) : Int)) ∧ w' = w.drew := by
  obtain ⟨_, hWh, hown⟩ := h
  have c0 : w.cell? ⟨g, 0, none⟩ = some sv := by simpa using hWh.cell 0
  have c1 : w.cell? ⟨g, 1, none⟩ = some (.int .i64 a) := by simpa using hWh.cell 1
  obtain ⟨A, c, rfl, _⟩ := own_form hown
  clear hWh hown
  go_enter Try.func29, Try.ntmps29
  go_wp2
  go_still (by kernel_rfl)
  go_wp2
  go_ret
  refine ⟨ret_int ?_, rfl⟩
  rw [IntWalk.i64_in (8 * (bs.length : Int)) (by omega), IntWalk.i64_in _ (by omega)]
  omega

theorem left_nil (w : World) : Calls Try.prog 29 #[.pointer none] w fun e w' => e = .returned (.int .i64 0) ∧ w = w' := by
  go_enter Try.func29, Try.ntmps29
  go_wp2
  go_ret
  exact ⟨rfl, rfl⟩

theorem get_nil (n : Int) (w : World) : Calls Try.prog 54 #[.pointer none, .int .i64 n] w fun e w' => e = .returned (.tuple #[.int .u32 0, .int .i64 1]) ∧ w = w' := by
  go_enter Try.func54, Try.ntmps54
  go_wp2
  go_ret2
  exact ⟨rfl, rfl⟩

theorem get_arg (g : Nat) (n : Int) (h : n < 0 ∨ 32 < n) (w : World) : Calls Try.prog 54 #[.pointer (some ⟨g, 0, none⟩), .int .i64 n] w fun e w' => e = .returned (.tuple #[.int .u32 0, .int .i64 1]) ∧ w = w' := by
  go_enter Try.func54, Try.ntmps54
  go_wp2_with (go_at_call 55; refine (isWidth_no n h _).mono ?_; rintro e w' ⟨rfl, rfl⟩)
  go_ret2
  exact ⟨rfl, rfl⟩

theorem get_end (B g : Nat) (sv : Value) (bs : List Nat) (a : Nat) (n : Int) (w : World) (h : ReaderAt w B g sv bs a) (hb : bs.length ≤ 1000000) (ha : a ≤ 8 * bs.length)
    (hn : n ≤ 32) (hl : 8 * (bs.length : Int) - a < n) :
    Calls Try.prog 54 #[.pointer (some ⟨g, 0, none⟩), .int .i64 n] w fun e w' => e = .returned (.tuple #[.int .u32 0, .int .i64 6]) ∧ w' = w.drew := by
  have H := Lib.hid h; clear h
  have hgt : decide (((8 * bs.length - a : Nat) : Int) < n) = true := by simp; omega
  go_enter Try.func54, Try.ntmps54
  go_wp2_with (first | (go_at_call 55; refine (isWidth_yes n (by omega) (by omega) _).mono ?_; rintro e w' ⟨rfl, rfl⟩) | (go_at_call 29; refine (left_any B g sv bs a _ H.out hb ha).mono ?_; rintro e w' ⟨rfl, rfl⟩))
  go_ret2
  exact ⟨rfl, rfl⟩

/-- What Get reads: the reader stands n bits on, nothing else has changed. -/
def GetPost (w : World) (B g : Nat) (sv : Value) (bs : List Nat) (a : Nat) (w' : World) : Prop := ReaderAt w' B g sv bs a ∧ Only (fun k => k = g) w w'

theorem or_part (v p y got : Nat) (hv : v < 2 ^ got) (h : got + p ≤ 32) :
    bits BinOp.or IntKind.u32 (v : Int) (IntKind.u32.wrap ((y : Int) % 2 ^ p * 2 ^ got)) = ((v + 2 ^ got * (y % 2 ^ p) : Nat) : Int) := by
  have hp : y % 2 ^ p < 2 ^ p := Nat.mod_lt _ (Nat.two_pow_pos p)
  have h3 : y % 2 ^ p * 2 ^ got < 4294967296 := by
    have h4 : y % 2 ^ p * 2 ^ got < 2 ^ p * 2 ^ got := (Nat.mul_lt_mul_right (Nat.two_pow_pos got)).2 hp
    rw [← Nat.pow_add] at h4
    have := pow_le_32 (show p + got ≤ 32 by omega)
    omega
  have h5 := pow_le_32 (show got ≤ 32 by omega)
  have e : IntKind.u32.wrap ((y : Int) % 2 ^ p * 2 ^ got) = ((y % 2 ^ p * 2 ^ got : Nat) : Int) := by
    have e1 : ((y : Int) % 2 ^ p * 2 ^ got) = ((y % 2 ^ p * 2 ^ got : Nat) : Int) := by simp
    rw [e1, IntWalk.u32_in _ (by omega)]
  rw [e, u32_or_nat _ _ (by omega) h3, Nat.or_comm, nat_join got _ _ (Nat.mul_mod_left _ _) hv]
  congr 1
  rw [Nat.add_comm, Nat.mul_comm]

set_option maxRecDepth 20000 in
set_option maxHeartbeats 1000000 in
theorem get_yes (B g : Nat) (sv : Value) (bs : List Nat) (a n : Nat) (w : World) (h : ReaderAt w B g sv bs a) (hb : bs.length ≤ 1000000) (h256 : ∀ x ∈ bs, x < 256)
    (hn : n ≤ 32) (hl : a + n ≤ 8 * bs.length) :
    Calls Try.prog 54 #[.pointer (some ⟨g, 0, none⟩), .int .i64 n] w fun e w' => e = .returned (.tuple #[.int .u32 (num (((unpack bs).drop a).take n)), .int .i64 0]) ∧ GetPost w B g sv bs (a + n) w' := by
  have H := Lib.hid h; clear h
  have H256 := Lib.hid h256; clear h256
  have hgt : decide (8 * bs.length - a < n) = false := by simp; omega
  go_enter Try.func54, Try.ntmps54
  go_wp2_with (first | (go_at_call 55; refine (isWidth_yes n (by omega) (by omega) _).mono ?_; rintro e w' ⟨rfl, rfl⟩) | (go_at_call 29; refine (left_any B g sv bs a _ H.out hb (by omega)).mono ?_; rintro e w' ⟨rfl, rfl⟩))
  go_loopw [6, 7] (fun x m wr => ∃ j : Nat, j ≤ n ∧ x = .int .u32 (num (((unpack bs).drop a).take j)) ∧ m = .int .i64 j ∧ GetPost w B g sv bs (a + j) wr) (fun _ m _ => n - (intOf m).toNat)
  case atStart => exact ⟨0, Nat.zero_le _, by simp [num], rfl, H.out, (Only.refl _ _).drew⟩
  case round =>
    obtain ⟨j, hj, rfl, rfl, hR, hO⟩ := hrel
    by_cases hlt : j < n
    · obtain ⟨hBg, hWh, hown⟩ := hR
      have hpart0 : ∀ t q us, (a + j) / 8 = q → (a + j) % 8 = us → us + t ≤ 8 → ∀ hq : q < bs.length, num (((unpack bs).drop a).take (j + t)) = num (((unpack bs).drop a).take j) + 2 ^ j * (bs[q] / 2 ^ us % 2 ^ t) := by
        intro t q us e1 e2 ht hq
        subst e1 e2
        rw [num_part _ _ _ (by simp; omega), List.drop_drop, unpack_part bs (a + j) t (by omega) (by omega), num_bitsOf]
      have hv : num (((unpack bs).drop a).take j) < 2 ^ j := by
        have h1 := num_lt (((unpack bs).drop a).take j)
        rwa [show (((unpack bs).drop a).take j).length = j by simp; omega] at h1
      obtain ⟨b, hab⟩ : ∃ b, a + j = b := ⟨_, rfl⟩
      rw [hab] at hWh hpart0
      obtain ⟨q, hq⟩ : ∃ q, b / 8 = q := ⟨_, rfl⟩
      obtain ⟨us, hus⟩ : ∃ us, b % 8 = us := ⟨_, rfl⟩
      obtain ⟨p, hp⟩ : ∃ p, 8 - us = p := ⟨_, rfl⟩
      obtain ⟨m, hm⟩ : ∃ m, n - j = m := ⟨_, rfl⟩
      have hq2 : q < bs.length := by omega
      have hb2 : b ≤ 8000000 := by omega
      have hus2 : us ≤ 7 := by omega
      have hp2 : 0 < p := by omega
      have hp3 : p ≤ 8 := by omega
      have eq' : (b : Int) / 8 = q := by omega
      have eu : (b : Int) % 8 = us := by omega
      have eq3 : (b : Int).tdiv 8 = q := by rw [Int.tdiv_eq_ediv_of_nonneg (by omega)]; omega
      have e8 : 8 - (us : Int) = p := by omega
      have em : (n : Int) - j = m := by omega
      have hm0 : 0 < m := by omega
      have hm1 : m ≤ 32 := by omega
      have hpart : Hid (∀ t, us + t ≤ 8 → num (((unpack bs).drop a).take (j + t)) = num (((unpack bs).drop a).take j) + 2 ^ j * (bs[q] / 2 ^ us % 2 ^ t)) := fun t ht => hpart0 t q us hq hus ht hq2
      clear hpart0
      have hx : bs[q] < 256 := H256.out _ (List.getElem_mem hq2)
      obtain ⟨r, cap, rfl, hcap, hcapm⟩ := own_pos hown (by omega)
      have cq : wr.cell? ⟨r, q, none⟩ = some (.int .u8 bs[q]) := by
        rw [hown.cellAt q (by omega)]
        simp [hq2]
      have c1 : wr.cell? ⟨g, 1, none⟩ = some (.int .i64 b) := by simpa using hWh.cell 1
      have c0 : wr.cell? ⟨g, 0, none⟩ = some (.slice (some ⟨r, 0, none⟩) bs.length cap) := by simpa using hWh.cell 0
      have f1 := hWh.frozen 1
      have hne := own_ne_whole hown hWh (by decide)
      have HN := Lib.hid hne; clear hne
      have HA := Lib.hid hab; clear hab
      have HQ := Lib.hid hq; clear hq
      have HU := Lib.hid hus; clear hus
      have HP := Lib.hid hp; clear hp
      have HM := Lib.hid hm; clear hm
      have hq0 : (0 : Int) ≤ q := by omega
      have wq : IntKind.i64.wrap (q : Int) = q := IntWalk.i64_in _ (by omega)
      have hq1 : (q : Int) < bs.length := by omega
      have hj32 : j ≤ 32 := by omega
      have hpow := pow_le_32 hj32
      generalize hN : num (((unpack bs).drop a).take j) = N at *
      clear hN
      generalize bs[q] = x at *
      have hxs : x / 2 ^ us < 4294967296 := Nat.lt_of_le_of_lt (Nat.div_le_self _ _) (by omega)
      have wx : IntKind.u32.wrap (x : Int) = x := IntWalk.u32_in _ (by omega)
      obtain ⟨y, hy⟩ : ∃ y, x / 2 ^ us = y := ⟨_, rfl⟩
      have ey : (x : Int) / 2 ^ us = y := by rw [← hy]; simp
      rw [hy] at hxs hpart
      clear hy
      by_cases hmp : m < p
      · have eo := Lib.hid (or_part N m y j hv (by have := HM.out; omega))
        go_wp2
        refine wp_region_still_lit (by kernel_rfl) (by kernel_rfl) ?_
        repeat still_step
        still_call (flip (lowest_any y m hxs (by omega) _))
        repeat still_step
        refine wpStill_nil ?_
        go_wp2
        go_roundw
        case rel =>
          refine ⟨j + m, by have := HM.out; omega, ?_, by go_num, ?_, ?_⟩
          · rw [hpart.out _ (by have := HP.out; omega), eo.out]
          · rw [← Nat.add_assoc, HA.out]
            exact ⟨hBg, (by simpa using (hWh.put 1 (.int .i64 ((b : Int) + m))).drew), own_only hown ((Only.refl (fun k => k = g) _).setCell (p := ⟨g, 1, none⟩) (.inl rfl) _).drew (fun k hk => HN.out k hk)⟩
          · exact (hO.setCell (p := ⟨g, 1, none⟩) (.inl rfl) _).drew
        case measure => simp [intOf]; omega
      · have eo := Lib.hid (or_part N p y j hv (by have := HM.out; omega))
        go_wp2
        refine wp_region_still_lit (by kernel_rfl) (by kernel_rfl) ?_
        repeat still_step
        still_call (flip (lowest_any y p hxs (by omega) _))
        repeat still_step
        refine wpStill_nil ?_
        go_wp2
        go_roundw
        case rel =>
          refine ⟨j + p, by have := HM.out; omega, ?_, by go_num, ?_, ?_⟩
          · rw [hpart.out _ (by have := HP.out; omega), eo.out]
          · rw [← Nat.add_assoc, HA.out]
            exact ⟨hBg, (by simpa using (hWh.put 1 (.int .i64 ((b : Int) + p))).drew), own_only hown ((Only.refl (fun k => k = g) _).setCell (p := ⟨g, 1, none⟩) (.inl rfl) _).drew (fun k hk => HN.out k hk)⟩
          · exact (hO.setCell (p := ⟨g, 1, none⟩) (.inl rfl) _).drew
        case measure => simp [intOf]; omega
    · obtain rfl : j = n := by omega
      go_wp2
      go_ret2
      exact ⟨rfl, hR, hO⟩
end Go.Proofs.Ytijjcecboepiiaa
