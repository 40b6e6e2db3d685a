/-
  Contracts of the reader: NewReader, Left, Align, Get, Take; rows that are read. Conditions: the reader stands as told (ReaderAt), over at most a million bytes.
-/
import Derived.Test.YtobchlakjgeadaaC
namespace Go.Proofs.Ytobchlakjgeadaa
open Go.RowKit


/-- A reader stands at block g, over these bytes, so many bits read. -/
def ReaderAt (w : World) (B g : Nat) (sv : Value) (bs : List Nat) (at_ : Nat) : Prop :=
  B ≤ g ∧ Whole w g 75 #[sv, .int .i64 at_] ∧ w.ownsRow B 5 1 sv bs.length (bs.map fun x : Nat => Value.int .u8 x)

def NewR (w : World) (bs : List Nat) (e : Ending) (w' : World) : Prop :=
  ∃ g sv, e = .returned (.pointer (some ⟨g, 0, none⟩)) ∧ ReaderAt w' w.heap.size g sv bs 0 ∧ Below w.heap.size w w'

theorem newReader_any (A : Option Addr) (n c B : Nat) (bs : List Nat) (w : World) (hn : bs.length = n) (hs : Seen w B 1 A n c (bs.map fun x : Nat => Value.int .u8 x)) (hB : B ≤ w.heap.size) (hl : n ≤ 1000000) :
    Calls Try.prog 18 #[.slice A n c] w (NewR w bs) := by
  subst hn
  have HS := Lib.hid hs; clear hs
  go_enter Try.func18, Try.ntmps18
  go_wp2_with (go_at_call 34; refine (clone_any A _ c B _ _ HS.out hB (bytes_oneCell _) (by omega)).mono ?_; rintro e w' ⟨v, rfl, hown, hbel⟩; obtain ⟨A1, c1, rfl, _⟩ := own_form hown)
  go_ret
  have hsz := hbel.size
  exact ⟨w'.heap.size, _, rfl, ⟨hsz, Whole.new _ _ _, hown.alloc _⟩, hbel.alloc hsz _⟩

set_option maxRecDepth 20000 in
theorem left_any (B g : Nat) (sv : Value) (bs : List Nat) (a : Nat) (w : World) (h : ReaderAt w B g sv bs a) (hb : bs.length ≤ 1000000) (ha : a ≤ 8 * bs.length) :
    Calls Try.prog 20 #[.pointer (some ⟨g, 0, none⟩)] w fun e w' => e = .returned (.int .i64 ((8 * bs.length - a : Nat) : Int)) ∧ w' = w.drew := by
  obtain ⟨_, hWh, hown⟩ := h
  have c0 : w.cell? ⟨g, 0, none⟩ = some sv := by simpa using hWh.cell 0
  have c1 : w.cell? ⟨g, 1, none⟩ = some (.int .i64 a) := by simpa using hWh.cell 1
  obtain ⟨A, c, rfl, _⟩ := own_form hown
  clear hWh hown
  go_enter Try.func20, Try.ntmps20
  go_wp2
  go_still (by kernel_rfl)
  go_wp2
  go_ret
  refine ⟨ret_int ?_, rfl⟩
  rw [IntWalk.i64_in (8 * (bs.length : Int)) (by omega), IntWalk.i64_in _ (by omega)]
  omega

theorem left_nil (w : World) : Calls Try.prog 20 #[.pointer none] w fun e w' => e = .returned (.int .i64 0) ∧ w = w' := by
  go_enter Try.func20, Try.ntmps20
  go_wp2
  go_ret
  exact ⟨rfl, rfl⟩

theorem get_nil (n : Int) (w : World) : Calls Try.prog 35 #[.pointer none, .int .i64 n] w fun e w' => e = .returned (.tuple #[.int .u32 0, .int .i64 1]) ∧ w = w' := by
  go_enter Try.func35, Try.ntmps35
  go_wp2
  go_ret2
  exact ⟨rfl, rfl⟩

theorem get_arg (g : Nat) (n : Int) (h : n < 0 ∨ 32 < n) (w : World) : Calls Try.prog 35 #[.pointer (some ⟨g, 0, none⟩), .int .i64 n] w fun e w' => e = .returned (.tuple #[.int .u32 0, .int .i64 1]) ∧ w = w' := by
  go_enter Try.func35, Try.ntmps35
  go_wp2_with (go_at_call 47; refine (isWidth_no n h _).mono ?_; rintro e w' ⟨rfl, rfl⟩)
  go_ret2
  exact ⟨rfl, rfl⟩

theorem get_end (B g : Nat) (sv : Value) (bs : List Nat) (a : Nat) (n : Int) (w : World) (h : ReaderAt w B g sv bs a) (hb : bs.length ≤ 1000000) (ha : a ≤ 8 * bs.length)
    (hn : n ≤ 32) (hl : 8 * (bs.length : Int) - a < n) :
    Calls Try.prog 35 #[.pointer (some ⟨g, 0, none⟩), .int .i64 n] w fun e w' => e = .returned (.tuple #[.int .u32 0, .int .i64 6]) ∧ w' = w.drew := by
  have H := Lib.hid h; clear h
  have hgt : decide (((8 * bs.length - a : Nat) : Int) < n) = true := by simp; omega
  go_enter Try.func35, Try.ntmps35
  go_wp2_with (first | (go_at_call 47; refine (isWidth_yes n (by omega) (by omega) _).mono ?_; rintro e w' ⟨rfl, rfl⟩) | (go_at_call 20; refine (left_any B g sv bs a _ H.out hb ha).mono ?_; rintro e w' ⟨rfl, rfl⟩))
  go_ret2
  exact ⟨rfl, rfl⟩

/-- What Get reads: the reader stands n bits on, nothing else has changed. -/
def GetPost (w : World) (B g : Nat) (sv : Value) (bs : List Nat) (a : Nat) (w' : World) : Prop := ReaderAt w' B g sv bs a ∧ Only (fun k => k = g) w w'

theorem or_part (v p y got : Nat) (hv : v < 2 ^ got) (h : got + p ≤ 32) :
    bits BinOp.or IntKind.u32 (v : Int) (IntKind.u32.wrap ((y : Int) % 2 ^ p * 2 ^ got)) = ((v + 2 ^ got * (y % 2 ^ p) : Nat) : Int) := by
  have hp : y % 2 ^ p < 2 ^ p := Nat.mod_lt _ (Nat.two_pow_pos p)
  have h3 : y % 2 ^ p * 2 ^ got < 4294967296 := by
    have h4 : y % 2 ^ p * 2 ^ got < 2 ^ p * 2 ^ got := (Nat.mul_lt_mul_right (Nat.two_pow_pos got)).2 hp
    rw [← Nat.pow_add] at h4
    have := pow_le_32 (show p + got ≤ 32 by omega)
    omega
  have h5 := pow_le_32 (show got ≤ 32 by omega)
  have e : IntKind.u32.wrap ((y : Int) % 2 ^ p * 2 ^ got) = ((y % 2 ^ p * 2 ^ got : Nat) : Int) := by
    have e1 : ((y : Int) % 2 ^ p * 2 ^ got) = ((y % 2 ^ p * 2 ^ got : Nat) : Int) := by simp
    rw [e1, IntWalk.u32_in _ (by omega)]
  rw [e, u32_or_nat _ _ (by omega) h3, Nat.or_comm, nat_join got _ _ (Nat.mul_mod_left _ _) hv]
  congr 1
  rw [Nat.add_comm, Nat.mul_comm]

set_option maxRecDepth 20000 in
set_option maxHeartbeats 1000000 in
theorem get_yes (B g : Nat) (sv : Value) (bs : List Nat) (a n : Nat) (w : World) (h : ReaderAt w B g sv bs a) (hb : bs.length ≤ 1000000) (h256 : ∀ x ∈ bs, x < 256)
    (hn : n ≤ 32) (hl : a + n ≤ 8 * bs.length) :
    Calls Try.prog 35 #[.pointer (some ⟨g, 0, none⟩), .int .i64 n] w fun e w' => e = .returned (.tuple #[.int .u32 (num (((unpack bs).drop a).take n)), .int .i64 0]) ∧ GetPost w B g sv bs (a + n) w' := by
  have H := Lib.hid h; clear h
  have H256 := Lib.hid h256; clear h256
  have hgt : decide (8 * bs.length - a < n) = false := by simp; omega
  go_enter Try.func35, Try.ntmps35
  go_wp2_with (first | (go_at_call 47; refine (isWidth_yes n (by omega) (by omega) _).mono ?_; rintro e w' ⟨rfl, rfl⟩) | (go_at_call 20; refine (left_any B g sv bs a _ H.out hb (by omega)).mono ?_; rintro e w' ⟨rfl, rfl⟩))
  go_loopw [6, 7] (fun x m wr => ∃ j : Nat, j ≤ n ∧ x = .int .u32 (num (((unpack bs).drop a).take j)) ∧ m = .int .i64 j ∧ GetPost w B g sv bs (a + j) wr) (fun _ m _ => n - (intOf m).toNat)
  case atStart => exact ⟨0, Nat.zero_le _, by simp [num], rfl, H.out, (Only.refl _ _).drew⟩
  case round =>
    obtain ⟨j, hj, rfl, rfl, hR, hO⟩ := hrel
    by_cases hlt : j < n
    · obtain ⟨hBg, hWh, hown⟩ := hR
      have hpart0 : ∀ t q us, (a + j) / 8 = q → (a + j) % 8 = us → us + t ≤ 8 → ∀ hq : q < bs.length, num (((unpack bs).drop a).take (j + t)) = num (((unpack bs).drop a).take j) + 2 ^ j * (bs[q] / 2 ^ us % 2 ^ t) := by
        intro t q us e1 e2 ht hq
        subst e1 e2
        rw [num_part _ _ _ (by simp; omega), List.drop_drop, unpack_part bs (a + j) t (by omega) (by omega), num_bitsOf]
      have hv : num (((unpack bs).drop a).take j) < 2 ^ j := by
        have h1 := num_lt (((unpack bs).drop a).take j)
        rwa [show (((unpack bs).drop a).take j).length = j by simp; omega] at h1
      obtain ⟨b, hab⟩ : ∃ b, a + j = b := ⟨_, rfl⟩
      rw [hab] at hWh hpart0
      obtain ⟨q, hq⟩ : ∃ q, b / 8 = q := ⟨_, rfl⟩
      obtain ⟨us, hus⟩ : ∃ us, b % 8 = us := ⟨_, rfl⟩
      obtain ⟨p, hp⟩ : ∃ p, 8 - us = p := ⟨_, rfl⟩
      obtain ⟨m, hm⟩ : ∃ m, n - j = m := ⟨_, rfl⟩
      have hq2 : q < bs.length := by omega
      have hb2 : b ≤ 8000000 := by omega
      have hus2 : us ≤ 7 := by omega
      have hp2 : 0 < p := by omega
      have hp3 : p ≤ 8 := by omega
      have eq' : (b : Int) / 8 = q := by omega
      have eu : (b : Int) % 8 = us := by omega
      have eq3 : (b : Int).tdiv 8 = q := by rw [Int.tdiv_eq_ediv_of_nonneg (by omega)]; omega
      have e8 : 8 - (us : Int) = p := by omega
      have em : (n : Int) - j = m := by omega
      have hm0 : 0 < m := by omega
      have hm1 : m ≤ 32 := by omega
      have hpart : Hid (∀ t, us + t ≤ 8 → num (((unpack bs).drop a).take (j + t)) = num (((unpack bs).drop a).take j) + 2 ^ j * (bs[q] / 2 ^ us % 2 ^ t)) := fun t ht => hpart0 t q us hq hus ht hq2
      clear hpart0
      have hx : bs[q] < 256 := H256.out _ (List.getElem_mem hq2)
      obtain ⟨r, cap, rfl, hcap, hcapm⟩ := own_pos hown (by omega)
      have cq : wr.cell? ⟨r, q, none⟩ = some (.int .u8 bs[q]) := by
        rw [hown.cellAt q (by omega)]
        simp [hq2]
      have c1 : wr.cell? ⟨g, 1, none⟩ = some (.int .i64 b) := by simpa using hWh.cell 1
      have c0 : wr.cell? ⟨g, 0, none⟩ = some (.slice (some ⟨r, 0, none⟩) bs.length cap) := by simpa using hWh.cell 0
      have f1 := hWh.frozen 1
      have hne := own_ne_whole hown hWh (by decide)
      have HN := Lib.hid hne; clear hne
      have HA := Lib.hid hab; clear hab
      have HQ := Lib.hid hq; clear hq
      have HU := Lib.hid hus; clear hus
      have HP := Lib.hid hp; clear hp
      have HM := Lib.hid hm; clear hm
      have hq0 : (0 : Int) ≤ q := by omega
      have wq : IntKind.i64.wrap (q : Int) = q := IntWalk.i64_in _ (by omega)
      have hq1 : (q : Int) < bs.length := by omega
      have hj32 : j ≤ 32 := by omega
      have hpow := pow_le_32 hj32
      generalize hN : num (((unpack bs).drop a).take j) = N at *
      clear hN
      generalize bs[q] = x at *
      have hxs : x / 2 ^ us < 4294967296 := Nat.lt_of_le_of_lt (Nat.div_le_self _ _) (by omega)
      have wx : IntKind.u32.wrap (x : Int) = x := IntWalk.u32_in _ (by omega)
      obtain ⟨y, hy⟩ : ∃ y, x / 2 ^ us = y := ⟨_, rfl⟩
      have ey : (x : Int) / 2 ^ us = y := by rw [← hy]; simp
      rw [hy] at hxs hpart
      clear hy
      by_cases hmp : m < p
      · have eo := Lib.hid (or_part N m y j hv (by have := HM.out; omega))
        go_wp2
        refine wp_region_still_lit (by kernel_rfl) (by kernel_rfl) ?_
        repeat still_step
        still_call (flip (lowest_any y m hxs (by omega) _))
        repeat still_step
        refine wpStill_nil ?_
        go_wp2
        go_roundw
        case rel =>
          refine ⟨j + m, by have := HM.out; omega, ?_, by go_num, ?_, ?_⟩
          · rw [hpart.out _ (by have := HP.out; omega), eo.out]
          · rw [← Nat.add_assoc, HA.out]
            exact ⟨hBg, (by simpa using (hWh.put 1 (.int .i64 ((b : Int) + m))).drew), own_only hown ((Only.refl (fun k => k = g) _).setCell (p := ⟨g, 1, none⟩) (.inl rfl) _).drew (fun k hk => HN.out k hk)⟩
          · exact (hO.setCell (p := ⟨g, 1, none⟩) (.inl rfl) _).drew
        case measure => simp [intOf]; omega
      · have eo := Lib.hid (or_part N p y j hv (by have := HM.out; omega))
        go_wp2
        refine wp_region_still_lit (by kernel_rfl) (by kernel_rfl) ?_
        repeat still_step
        still_call (flip (lowest_any y p hxs (by omega) _))
        repeat still_step
        refine wpStill_nil ?_
        go_wp2
        go_roundw
        case rel =>
          refine ⟨j + p, by have := HM.out; omega, ?_, by go_num, ?_, ?_⟩
          · rw [hpart.out _ (by have := HP.out; omega), eo.out]
          · rw [← Nat.add_assoc, HA.out]
            exact ⟨hBg, (by simpa using (hWh.put 1 (.int .i64 ((b : Int) + p))).drew), own_only hown ((Only.refl (fun k => k = g) _).setCell (p := ⟨g, 1, none⟩) (.inl rfl) _).drew (fun k hk => HN.out k hk)⟩
          · exact (hO.setCell (p := ⟨g, 1, none⟩) (.inl rfl) _).drew
        case measure => simp [intOf]; omega
    · obtain rfl : j = n := by omega
      go_wp2
      go_ret2
      exact ⟨rfl, hR, hO⟩

theorem readerAlign_any (B g : Nat) (sv : Value) (bs : List Nat) (a : Nat) (w : World) (h : ReaderAt w B g sv bs a) (hb : bs.length ≤ 1000000) (ha : a ≤ 8 * bs.length) :
    Calls Try.prog 49 #[.pointer (some ⟨g, 0, none⟩)] w fun e w' => e = .returned (.tuple #[]) ∧ ReaderAt w' B g sv bs ((a + 7) / 8 * 8) ∧ Only (fun k => k = g) w w' := by
  obtain ⟨hBg, hWh, hown⟩ := h
  have c1 : w.cell? ⟨g, 1, none⟩ = some (.int .i64 a) := by simpa using hWh.cell 1
  have f1 := hWh.frozen 1
  have hne := own_ne_whole hown hWh (by decide)
  have HN := Lib.hid hne; clear hne
  go_enter Try.func49, Try.ntmps49
  go_wp2
  go_end0
  have e : (((a : Int) + 7) / 8 * 8) = (((a + 7) / 8 * 8 : Nat) : Int) := by omega
  rw [e]
  have hO := (Only.refl (fun k => k = g) w).setCell (p := ⟨g, 1, none⟩) (.inl rfl) (.int .i64 (((a + 7) / 8 * 8 : Nat) : Int))
  exact ⟨rfl, ⟨hBg, by simpa using hWh.put 1 (.int .i64 (((a + 7) / 8 * 8 : Nat) : Int)), own_only hown hO (fun k hk => HN.out k hk)⟩, hO⟩



/-- The text of bytes. -/
def strOf (bs : List Nat) : ByteArray := ⟨(bs.map fun n => UInt8.ofNat n).toArray⟩

theorem conv_seen {w : World} {B : Nat} {A : Option Addr} {n c : Nat} {bs : List Nat} (h : Seen w B 1 A n c (bs.map fun x : Nat => Value.int .u8 x)) :
    (convert 22 9 (.slice A n c)).run Try.prog w = .ok (.string (strOf bs)) w := by
  obtain ⟨h1, h2, h3⟩ := h
  rcases h3 with ⟨rfl, rfl⟩ | ⟨a, rfl, h3⟩
  · obtain rfl : bs = [] := List.eq_nil_of_length_eq_zero (by simp at h1; omega)
    exact run_convert_bytes_nil w 22 5 Try.underlying22 Try.underlying5 n 0 9 Try.underlying9
  · by_cases hb : bs = []
    · subst hb
      obtain rfl : n = 0 := by simpa using h1.symm
      rw [run_convert_bytes_string w 22 9 5 _ 0 c Try.underlying22 Try.underlying5 Try.underlying9, run_bytesToString w _ 0 c [] (by simpa using run_loadCells_list (P := Try.prog) w a [] (by simp))]
      rfl
    · obtain ⟨g1, g2, g3⟩ := h3 (by simpa using hb)
      obtain ⟨b, o, s⟩ := a
      simp only at g1 g2 g3
      subst g1
      have hl : bs.length = n := by simpa using h1
      have := run_convert_bytes_arg (P := Try.prog) w 22 5 Try.underlying22 Try.underlying5 b o n c (bs.map fun x : Nat => (x : Int)) (by simpa using hl) (fun i hi => by
        have hi' : i < bs.length := by omega
        rw [g3 i (.int .u8 (bs[i] : Int)) (by simp [hi'])]
        simp [List.getD, hi']) 9 Try.underlying9
      rw [this]
      simp only [strOfNums, strOf, List.map_map]
      rfl

theorem own_seen {w : World} {base : Nat} {e : TypeId} {size n : Nat} {v : Value} {xs : List Value} (h : w.ownsRow base e size v n xs) : ∃ A c, v = .slice A n c ∧ c ≤ maxLen ∧ Seen w w.heap.size size A n c xs := by
  obtain ⟨A, c, rfl, hc⟩ := own_form h
  exact ⟨A, c, rfl, hc, Seen.of_own h⟩

theorem Seen.cut {w : World} {B : Nat} {A : Option Addr} {len c q n : Nat} {xs : List Value} (h : Seen w B 1 A len c xs) (hq : q + n ≤ len) : Seen w B 1 (Option.map (fun x => x.add q) A) n (c - q) ((xs.drop q).take n) := by
  obtain ⟨h1, h2, h3⟩ := h
  refine ⟨by simp; omega, by omega, ?_⟩
  rcases h3 with ⟨rfl, rfl⟩ | ⟨⟨b, o, s⟩, rfl, h3⟩
  · exact .inl ⟨rfl, by omega⟩
  · refine .inr ⟨_, rfl, fun hx => ?_⟩
    obtain ⟨g1, g2, g3⟩ := h3 (by rintro rfl; simp at hx)
    simp only at g1 g2 g3
    subst g1
    simp only [Addr.add_lit]
    refine ⟨trivial, g2, fun j u hu => ?_⟩
    rw [Nat.add_assoc]
    refine g3 _ u ?_
    rw [List.getElem?_take] at hu
    split at hu
    · rw [← hu, List.getElem?_drop]
    · cases hu
theorem Seen.empty {w : World} {B : Nat} {A : Option Addr} {len c : Nat} {xs : List Value} (h : Seen w B 1 A len c xs) : Seen w B 1 A 0 0 [] := by
  obtain ⟨h1, h2, h3⟩ := h
  refine ⟨rfl, Nat.le_refl _, ?_⟩
  rcases h3 with ⟨rfl, _⟩ | ⟨a, rfl, h3⟩
  · exact .inl ⟨rfl, rfl⟩
  · exact .inr ⟨a, rfl, fun hx => absurd rfl hx⟩

theorem seen_nil (w : World) (B : Nat) : Seen w B 1 none 0 0 [] := ⟨rfl, Nat.le_refl _, .inl ⟨rfl, rfl⟩⟩

theorem seen_lit (w : World) (t : TypeId) (xs : List Value) : Seen (w.alloc (.cells xs.toArray t)) (w.heap.size + 1) 1 (some ⟨w.heap.size, 0, none⟩) xs.length xs.length xs := by
  refine ⟨by simp, Nat.le_refl _, .inr ⟨_, rfl, fun _ => ⟨rfl, by simp, fun j x hx => ?_⟩⟩⟩
  rw [Whole.cell (Whole.new w t xs.toArray)]
  simpa using hx



theorem take_end (B g : Nat) (sv : Value) (bs : List Nat) (a : Nat) (n : Int) (w : World) (h : ReaderAt w B g sv bs a) (hb : bs.length ≤ 1000000) (ha : a ≤ 8 * bs.length)
    (hn : 0 ≤ n) (hl : (bs.length : Int) - ((a + 7) / 8 : Nat) < n) :
    Calls Try.prog 51 #[.pointer (some ⟨g, 0, none⟩), .int .i64 n] w fun e w' => e = .returned (.tuple #[.slice none 0 0, .int .i64 6]) ∧ GetPost w B g sv bs ((a + 7) / 8 * 8) w' := by
  have H := Lib.hid h; clear h
  have hgt : decide (((8 * bs.length - (a + 7) / 8 * 8 : Nat) : Int) / 8 < n) = true := by simp; omega
  go_enter Try.func51, Try.ntmps51
  go_wp2_with (first | (go_at_call 49; refine (readerAlign_any B g sv bs a _ H.out hb ha).mono ?_; rintro e w' ⟨rfl, hR, hO⟩) | (go_at_call 20; refine (left_any B g sv bs _ _ hR hb (by omega)).mono ?_; rintro e w' ⟨rfl, rfl⟩))
  go_ret2
  exact ⟨rfl, hR, hO.drew⟩

def TakePost (w : World) (B g : Nat) (sv : Value) (bs : List Nat) (a n : Nat) (xs : List Nat) (e : Ending) (w' : World) : Prop :=
  ∃ v, e = .returned (.tuple #[v, .int .i64 0]) ∧ w'.ownsRow w.heap.size 5 1 v n (xs.map fun x : Nat => Value.int .u8 x) ∧ GetPost w B g sv bs a w'

def TakeRow (w : World) (B g : Nat) (sv : Value) (bs : List Nat) (a : Nat) (v : Value) (n : Nat) (xs : List Nat) (w' : World) : Prop :=
  w'.ownsRow w.heap.size 5 1 v n (xs.map fun x : Nat => Value.int .u8 x) ∧ GetPost w B g sv bs a w'

theorem take_yes (B g : Nat) (sv : Value) (bs : List Nat) (a n : Nat) (w : World) (h : ReaderAt w B g sv bs a) (hb : bs.length ≤ 1000000)
    (hl : (a + 7) / 8 + n ≤ bs.length) :
    Calls Try.prog 51 #[.pointer (some ⟨g, 0, none⟩), .int .i64 n] w (TakePost w B g sv bs ((a + 7) / 8 * 8 + 8 * n) n ((bs.drop ((a + 7) / 8)).take n)) := by
  obtain ⟨A, c, rfl, hcm⟩ := own_form h.2.2
  have hlc : bs.length ≤ c := (Seen.of_own h.2.2).2.1
  unfold maxLen at hcm
  have H := Lib.hid h; clear h
  obtain ⟨q, hq⟩ : ∃ q, (a + 7) / 8 = q := ⟨_, rfl⟩
  have hgt : decide (((8 * bs.length - q * 8 : Nat) : Int) / 8 < n) = false := by simp; omega
  have e1 : ((q * 8 : Nat) : Int) / 8 = q := by omega
  have hn0 : decide ((n : Int) < 0) = false := by simp
  rw [hq]
  have hq2 : q ≤ bs.length := by omega
  have ha : a ≤ 8 * bs.length := by omega
  rw [hq] at hl
  have HQ := Lib.hid hq; clear hq
  by_cases hcq : c = q
  · subst hcq
    obtain rfl : n = 0 := by omega
    go_enter Try.func51, Try.ntmps51
    go_wp2_with (first | (go_at_call 49; refine (readerAlign_any B g _ bs a _ H.out hb ha).mono ?_; rintro e w1 ⟨rfl, hR, hO⟩; rw [HQ.out] at hR; obtain ⟨hBg, hWh, hown⟩ := hR; have c0 : w1.cell? ⟨g, 0, none⟩ = some (.slice A bs.length c) := (by simpa using hWh.cell 0); have c1 : w1.cell? ⟨g, 1, none⟩ = some (.int .i64 ((c * 8 : Nat) : Int)) := (by simpa using hWh.cell 1); have f1 := hWh.frozen 1) | (go_at_call 20; refine (left_any B g _ bs _ _ ⟨hBg, hWh, hown⟩ hb (by omega)).mono ?_; rintro e w' ⟨rfl, rfl⟩) | (go_at_call 34; fail))
    have hO1 := ((Only.refl (fun k => k = g) w1).setCell (p := ⟨g, 1, none⟩) (.inl rfl) (.int .i64 ((c : Int) * 8))).drew
    have hW1 := (hWh.put 1 (.int .i64 ((c : Int) * 8))).drew
    have hown1 := own_only hown hO1 (fun k hk => own_ne_whole hown hWh (by decide) k hk)
    have hO2 : Only (fun k => k = g) w (w1.setCell ⟨g, 1, none⟩ (.int .i64 ((c : Int) * 8))).drew := hO.trans hO1
    have hsz := hO2.size
    have hlt := hW1.lt
    have hs1 := Seen.of_own hown1
    generalize (w1.setCell ⟨g, 1, none⟩ (.int .i64 ((c : Int) * 8))).drew = W at *
    refine (clone_any A 0 0 W.heap.size [] W (hs1.empty) (Nat.le_refl _) ?_ (by omega)).mono ?_
    · intro u hu
      simp at hu
    rintro e w2 ⟨v, rfl, hown2, hbel⟩
    go_wp2
    go_ret2
    have hne := own_ne_whole hown1 hW1 (by decide)
    have hO3 := hO2.trans (Only.of_below hbel (fun k => k = g))
    refine ⟨v, rfl, ?_, ⟨hBg, ?_, own_only hown1 (Only.of_below hbel Nob) (fun _ _ h => h)⟩, hO3⟩
    · refine own_base ?_ hsz
      simpa using hown2
    · have h3 := hW1.only (Only.of_below hbel Nob) (fun h => h)
      simpa using h3
  · have hcq1 : (c = q) = False := by simp [hcq]
    go_enter Try.func51, Try.ntmps51
    go_wp2_with (first | (go_at_call 49; refine (readerAlign_any B g _ bs a _ H.out hb ha).mono ?_; rintro e w1 ⟨rfl, hR, hO⟩; rw [HQ.out] at hR; obtain ⟨hBg, hWh, hown⟩ := hR; have c0 : w1.cell? ⟨g, 0, none⟩ = some (.slice A bs.length c) := (by simpa using hWh.cell 0); have c1 : w1.cell? ⟨g, 1, none⟩ = some (.int .i64 ((q * 8 : Nat) : Int)) := (by simpa using hWh.cell 1); have f1 := hWh.frozen 1) | (go_at_call 20; refine (left_any B g _ bs _ _ ⟨hBg, hWh, hown⟩ hb (by omega)).mono ?_; rintro e w' ⟨rfl, rfl⟩) | (go_at_call 34; fail))
    have hO1 := ((Only.refl (fun k => k = g) w1).setCell (p := ⟨g, 1, none⟩) (.inl rfl) (.int .i64 ((q : Int) * 8 + 8 * n))).drew
    have hW1 := (hWh.put 1 (.int .i64 ((q : Int) * 8 + 8 * n))).drew
    have hown1 := own_only hown hO1 (fun k hk => own_ne_whole hown hWh (by decide) k hk)
    have hO2 : Only (fun k => k = g) w (w1.setCell ⟨g, 1, none⟩ (.int .i64 ((q : Int) * 8 + 8 * n))).drew := hO.trans hO1
    have hsz := hO2.size
    have hlt := hW1.lt
    have hs1 := Seen.of_own hown1
    generalize (w1.setCell ⟨g, 1, none⟩ (.int .i64 ((q : Int) * 8 + 8 * n))).drew = W at *
    refine (clone_any (Option.map (fun x => x.add q) A) n (c - q) W.heap.size _ W (hs1.cut hl) (Nat.le_refl _) ?_ (by omega)).mono ?_
    · intro u hu
      exact bytes_oneCell bs u (List.mem_of_mem_drop (List.mem_of_mem_take hu))
    rintro e w2 ⟨v, rfl, hown2, hbel⟩
    go_wp2
    go_ret2
    have hne := own_ne_whole hown1 hW1 (by decide)
    have hO3 := hO2.trans (Only.of_below hbel (fun k => k = g))
    refine ⟨v, rfl, ?_, ⟨hBg, ?_, own_only hown1 (Only.of_below hbel Nob) (fun _ _ h => h)⟩, hO3⟩
    · refine own_base ?_ hsz
      rw [List.map_take, List.map_drop]; exact hown2
    · have h3 := hW1.only (Only.of_below hbel Nob) (fun h => h)
      simpa using h3

end Go.Proofs.Ytobchlakjgeadaa
