/-
  The walk of BitioReads: it answers true, and changes nothing that was there. Conditions: the two slices are read as told (Seen, AsksAt).
-/
import Derived.Test.YtgjpfmijijbjbaaQ2
import Derived.Deep.QuietTactic
import Derived.BigQuiet
namespace Go.Proofs.Ytgjpfmijijbjbaa
open Go.RowKit

/-- A slice of asks: kinds and numbers. -/
def AsksAt (w : World) (B : Nat) (A : Option Addr) (n : Nat) (Kd : Nat → Nat) (Nn : Nat → Int) : Prop :=
  ∀ i, i < n → ∃ b o, A = some ⟨b, o, none⟩ ∧ b < B ∧ w.cell? ⟨b, o + i * 2, none⟩ = some (.int .u8 (Kd i)) ∧ w.cell? ⟨b, o + i * 2 + 1, none⟩ = some (.int .i64 (Nn i)) ∧ Kd i < 256
theorem AsksAt.below {w w' : World} {B : Nat} {A : Option Addr} {n : Nat} {Kd : Nat → Nat} {Nn : Nat → Int} (h : AsksAt w B A n Kd Nn) (hb : Below B w w') : AsksAt w' B A n Kd Nn := by
  intro i hi
  obtain ⟨b, o, h1, h2, h3, h4, h6⟩ := h i hi
  exact ⟨b, o, h1, h2, (hb.cell (p := ⟨b, o + i * 2, none⟩) h2).trans h3, (hb.cell (p := ⟨b, o + i * 2 + 1, none⟩) h2).trans h4, h6⟩

theorem left_quiet (B g : Nat) (sv : Value) (bs : List Nat) (a : Nat) (w : World) (h : ReaderAt w B g sv bs a) (hb : bs.length ≤ 1000) (ha : a ≤ 8 * bs.length) (n : Nat) :
    Calls Try.prog 25 #[.pointer (some ⟨g, 0, none⟩)] (w.drewN n) fun e w'' => e = .returned (.int .i64 ((8 * bs.length - a : Nat) : Int)) ∧ ∃ m, w'' = w.drewN m :=
  (left_any B g sv bs a (w.drewN n) h (by omega) ha).mono fun _ _ ⟨he, hw⟩ => ⟨he, n + 1, by rw [hw]; rfl⟩

theorem reads_long (A A2 : Option Addr) (n c n2 c2 : Nat) (hn : 300 < n ∨ 200 < n2) (hm : n ≤ 9223372036854775807) (hm2 : n2 ≤ 9223372036854775807) (w : World) : Calls Try.prog 4 #[.slice A n c, .slice A2 n2 c2] w (LawPost w) := by
  by_cases h1 : 300 < n
  · go_enter Try.func4, Try.ntmps4
    go_wp2_with (go_at_call 9; refine (fixed_yes _).mono ?_; rintro e w1 ⟨rfl, hb1⟩)
    go_ret
    exact ⟨rfl, hb1⟩
  · have h2 : 200 < n2 := by omega
    have hd : decide ((300 : Int) < n) = false := by simp; omega
    clear hn
    go_enter Try.func4, Try.ntmps4
    go_wp2_with (go_at_call 9; refine (fixed_yes _).mono ?_; rintro e w1 ⟨rfl, hb1⟩)
    go_ret
    exact ⟨rfl, hb1⟩

/-- The two readers stand alike. -/
def Both (w0 : World) (B g gq : Nat) (sv sq : Value) (bs : List Nat) (a : Nat) (w : World) : Prop :=
  a ≤ 8 * bs.length ∧ ReaderAt w B g sv bs a ∧ RefAt w B gq sq (unpack bs) a ∧ Below w0.heap.size w0 w

set_option maxHeartbeats 2000000 in
set_option maxRecDepth 100000 in
theorem reads_short (A A2 : Option Addr) (c n2 c2 : Nat) (bs : List Nat) (hn : bs.length ≤ 300) (hn2 : n2 ≤ 200) (h256 : ∀ x ∈ bs, x < 256) (Kd : Nat → Nat) (Nn : Nat → Int) (w : World) (hs : Seen w w.heap.size 1 A bs.length c (bs.map fun x : Nat => Value.int .u8 x)) (hA : AsksAt w w.heap.size A2 n2 Kd Nn) :
    Calls Try.prog 4 #[.slice A bs.length c, .slice A2 n2 c2] w (LawPost w) := by
  have HS := Lib.hid hs; clear hs
  have HA := Lib.hid hA; clear hA
  have H256 := Lib.hid h256; clear h256
  have hd : decide ((300 : Int) < bs.length) = false := by simp; omega
  have hd2 : decide ((200 : Int) < n2) = false := by simp; omega
  go_enter Try.func4, Try.ntmps4
  go_wp2_with fail
  refine (fixed_yes _).mono ?_; rintro e w1 ⟨rfl, hb1⟩
  have HB1 := Lib.hid hb1; clear hb1
  go_wp2_with fail
  refine (newReader_any A _ c _ bs _ rfl (HS.out.below HB1.out) HB1.out.size (by omega)).mono ?_; rintro e w2 ⟨g, sv, rfl, hR2, hb2⟩
  have HR2 := Lib.hid hR2; clear hR2
  have HB2 := Lib.hid (HB1.out.trans (hb2.mono HB1.out.size))
  have hz12 := hb2.size
  clear hb2
  go_wp2_with fail
  refine (refOf_any A c _ bs _ rfl _ (HS.out.below HB2.out) HB2.out.size (by omega) H256.out).mono ?_; rintro e w3 ⟨v3, rfl, ho3, hb3⟩
  obtain ⟨A3, c3, rfl, hc3⟩ := own_form ho3
  have HO3 := Lib.hid ho3
  have HB3 := Lib.hid (HB2.out.trans (hb3.mono HB2.out.size))
  have HR3 := Lib.hid (HR2.out.only (Only.of_below hb3 Nob) (fun _ _ h => h))
  have hz23 := hb3.size
  clear ho3 hb3
  go_wp2_with fail
  have hbase : w.heap.size ≤ w1.heap.size := HB1.out.size
  go_loopw [35] (fun i wr => ∃ k : Nat, k ≤ n2 ∧ i = .int .i64 k ∧ ∃ a, Both w w1.heap.size g w3.heap.size sv (.slice A3 (8 * bs.length) c3) bs a wr) (fun i _ => n2 - (intOf i).toNat)
  case atStart =>
    refine ⟨0, Nat.zero_le _, rfl, 0, Nat.zero_le _, HR3.out.only ((Only.refl Nob _).alloc _) (fun _ _ h => h), ⟨by omega, ?_, ?_⟩, HB3.out.alloc HB3.out.size _⟩
    · exact Whole.new _ _ _
    · have h5 := own_base (HO3.out.alloc (.cells #[.slice A3 (8 * bs.length) c3, .int .i64 0] 43)) hz12
      simpa using h5
  case round =>
    obtain ⟨k, hk, rfl, a, hab, hR, hF, hbel⟩ := hrel
    have hsz := hbel.size
    by_cases hlt : k < n2
    · obtain ⟨b, o, rfl, hb, c0, c1, hkd⟩ := (HA.out.below hbel) k hlt
      have hbr : b < wr.heap.size := Nat.lt_of_lt_of_le hb hsz
      have hne : wr.heap.size ≠ b := by omega
      have hk0 : (0 : Int) ≤ k := by omega
      have HR := Lib.hid hR; clear hR
      have HF := Lib.hid hF; clear hF
      have HBel := Lib.hid hbel; clear hbel
      have hWa := Lib.hid (Whole.new wr 45 #[.int .u8 (Kd k), .int .i64 (Nn k)])
      have HRa := Lib.hid (HR.out.only ((Only.refl Nob _).alloc (.cells #[.int .u8 (Kd k), .int .i64 (Nn k)] 45)) (fun _ _ h => h))
      have HFa := Lib.hid (HF.out.only ((Only.refl Nob _).alloc (.cells #[.int .u8 (Kd k), .int .i64 (Nn k)] 45)) (fun _ _ h => h))
      have HBa := Lib.hid (HBel.out.alloc hsz (.cells #[.int .u8 (Kd k), .int .i64 (Nn k)] 45))
      have hcase : Kd k % 3 = 0 ∨ Kd k % 3 = 1 ∨ Kd k % 3 = 2 := by omega
      rcases hcase with h3 | h3 | h3
      · have e3 : ((Kd k : Nat) : Int) % 3 = 0 := by omega
        clear h3
        go_wp2_with fail
        have hp := getR_place (unpack bs) a (Nn k) (by simp; exact hab)
        rw [unpack_length] at hp
        refine (get_any _ g sv bs a (Nn k) _ HRa.out (by omega) H256.out hab).mono ?_; rintro e w5 ⟨rfl, hR5, hO5⟩
        have hF5 := HFa.out.keep HRa.out.2.1 hO5
        have hW5 := hWa.out.only hO5 (by have := HR.out.2.1.lt; omega)
        have m1 : w5.cell? ⟨wr.heap.size, 1, none⟩ = some (.int .i64 (Nn k)) := by simpa using hW5.cell 1
        have HB5 := Lib.hid (HBa.out.trans (hO5.below HBa.out.size (fun i hi => by have := HR.out.1; omega)))
        have HR5 := Lib.hid hR5; clear hR5
        have HF5 := Lib.hid hF5; clear hF5 hO5
        obtain ⟨r, hr⟩ : ∃ r, getR (unpack bs) a (Nn k) = r := ⟨_, rfl⟩
        rw [hr] at HR5 hp ⊢
        have HRr := Lib.hid hr; clear hr
        obtain ⟨x, er, p⟩ := r
        simp only at hp HR5 ⊢
        go_wp2_with fail
        refine (refGet_any _ _ _ _ a (Nn k) _ HF5.out (by simp; omega) (by simp; exact hab)).mono ?_; rintro e w6 ⟨rfl, hF6, hO6⟩
        rw [HRr.out] at hF6 ⊢
        simp only at hF6 ⊢
        have hR6 := HR5.out.keep HF5.out.2.1 hO6
        have HB6 := Lib.hid (HB5.out.trans (hO6.below HB5.out.size (fun i hi => by have := HF.out.1; omega)))
        clear hO6 hW5 m1
        go_wp2_with fail
        have hd0 := hF6.c0
        have hd1 := hF6.c1
        have hzz : ((((8 * bs.length - p : Nat) : Int)) != (8 * (bs.length : Int) - p)) = false := by simp; omega
        have hw8 : IntKind.i64.wrap (8 * (bs.length : Int) - p) = 8 * (bs.length : Int) - p := IntWalk.i64_in _ (by omega)
        have HR6 := Lib.hid hR6; clear hR6
        have HF6 := Lib.hid hF6; clear hF6
        go_quiet ((go_at_call 25; exact left_quiet _ g sv bs _ _ HR6.out (by omega) (by omega) _))
        go_wp2_with fail
        go_roundw
        case rel => exact ⟨k + 1, by omega, by go_num, p, hp, HR6.out, HF6.out, ⟨HB6.out.os, HB6.out.tape, HB6.out.output, HB6.out.size, HB6.out.block⟩⟩
        case measure => simp [intOf]; omega
      · have e3 : ((Kd k : Nat) : Int) % 3 = 1 := by omega
        clear h3
        go_wp2_with fail
        refine (readerAlign_any _ g sv bs a _ HRa.out (by omega) hab).mono ?_; rintro e w5 ⟨rfl, hR5, hO5⟩
        have hF5 := HFa.out.keep HRa.out.2.1 hO5
        have HB5 := Lib.hid (HBa.out.trans (hO5.below HBa.out.size (fun i hi => by have := HR.out.1; omega)))
        have HR5 := Lib.hid hR5; clear hR5
        have HF5 := Lib.hid hF5; clear hF5 hO5
        go_wp2_with fail
        refine (refAlign_any _ _ _ _ a _ HF5.out (by omega)).mono ?_; rintro e w6 ⟨rfl, hF6, hO6⟩
        have hR6 := HR5.out.keep HF5.out.2.1 hO6
        have HB6 := Lib.hid (HB5.out.trans (hO6.below HB5.out.size (fun i hi => by have := HF.out.1; omega)))
        clear hO6
        obtain ⟨p, hpe⟩ : ∃ p, (a + 7) / 8 * 8 = p := ⟨_, rfl⟩
        rw [hpe] at hF6 hR6
        have hp : p ≤ 8 * bs.length := by omega
        clear hpe
        go_wp2_with fail
        have hd0 := hF6.c0
        have hd1 := hF6.c1
        have hzz : ((((8 * bs.length - p : Nat) : Int)) != (8 * (bs.length : Int) - p)) = false := by simp; omega
        have hw8 : IntKind.i64.wrap (8 * (bs.length : Int) - p) = 8 * (bs.length : Int) - p := IntWalk.i64_in _ (by omega)
        have HR6 := Lib.hid hR6; clear hR6
        have HF6 := Lib.hid hF6; clear hF6
        go_quiet ((go_at_call 25; exact left_quiet _ g sv bs _ _ HR6.out (by omega) (by omega) _))
        go_wp2_with fail
        go_roundw
        case rel => exact ⟨k + 1, by omega, by go_num, p, hp, HR6.out, HF6.out, ⟨HB6.out.os, HB6.out.tape, HB6.out.output, HB6.out.size, HB6.out.block⟩⟩
        case measure => simp [intOf]; omega
      · have e3 : ((Kd k : Nat) : Int) % 3 = 2 := by omega
        clear h3
        go_wp2_with fail
        have hp := takeR_place bs a (Nn k) hab
        refine (take_any _ g sv bs a (Nn k) _ HRa.out (by omega) hab).mono ?_; rintro e w5 ⟨⟨v5, rfl, ho5⟩, hR5, hO5⟩
        have hF5 := HFa.out.keep HRa.out.2.1 hO5
        have hW5 := hWa.out.only hO5 (by have := HR.out.2.1.lt; omega)
        have m1 : w5.cell? ⟨wr.heap.size, 1, none⟩ = some (.int .i64 (Nn k)) := by simpa using hW5.cell 1
        have HB5 := Lib.hid (HBa.out.trans (hO5.below HBa.out.size (fun i hi => by have := HR.out.1; omega)))
        have HR5 := Lib.hid hR5; clear hR5
        have HF5 := Lib.hid hF5; clear hF5 hO5
        obtain ⟨r, hr⟩ : ∃ r, takeR bs a (Nn k) = r := ⟨_, rfl⟩
        rw [hr] at HR5 hp ho5 ⊢
        have HRr := Lib.hid hr; clear hr
        obtain ⟨xs, er, p⟩ := r
        simp only at hp HR5 ho5 ⊢
        have HO5 := Lib.hid ho5; clear ho5
        obtain ⟨A5, c5, rfl, _⟩ := own_form HO5.out
        go_wp2_with fail
        refine (refTake_any _ _ _ bs a (Nn k) _ HF5.out (by omega) H256.out hab).mono ?_; rintro e w6 ⟨⟨v6, rfl, ho6⟩, hF6, hO6⟩
        rw [HRr.out] at hF6 ho6 ⊢
        simp only at hF6 ho6 ⊢
        have hR6 := HR5.out.keep HF5.out.2.1 hO6
        have HB6 := Lib.hid (HB5.out.trans (hO6.below HB5.out.size (fun i hi => by have := HF.out.1; omega)))
        have ho56 := own_only HO5.out hO6 (fun i hi e => own_ne_whole HO5.out HF5.out.2.1 (by decide) i hi e)
        have cv5 := conv_seen (Seen.of_own ho56)
        obtain ⟨A6, c6, rfl, _⟩ := own_form ho6
        have cv6 := conv_seen (Seen.of_own ho6)
        clear hO6 hW5 m1 ho6 ho56
        go_wp2_with fail
        have hd0 := hF6.c0
        have hd1 := hF6.c1
        have hzz : ((((8 * bs.length - p : Nat) : Int)) != (8 * (bs.length : Int) - p)) = false := by simp; omega
        have hw8 : IntKind.i64.wrap (8 * (bs.length : Int) - p) = 8 * (bs.length : Int) - p := IntWalk.i64_in _ (by omega)
        have HR6 := Lib.hid hR6; clear hR6
        have HF6 := Lib.hid hF6; clear hF6
        go_quiet ((go_at_call 25; exact left_quiet _ g sv bs _ _ HR6.out (by omega) (by omega) _))
        go_wp2_with fail
        go_roundw
        case rel => exact ⟨k + 1, by omega, by go_num, p, hp, HR6.out, HF6.out, ⟨HB6.out.os, HB6.out.tape, HB6.out.output, HB6.out.size, HB6.out.block⟩⟩
        case measure => simp [intOf]; omega
    · obtain rfl : n2 = k := by omega
      go_wp2_with fail
      go_ret
      exact ⟨rfl, hbel⟩
end Go.Proofs.Ytgjpfmijijbjbaa
