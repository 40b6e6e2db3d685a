/-
  The walk of CursorReads: it answers true, and changes nothing that was there. Conditions: the two slices are read as told (Seen, Asks2).
-/
import Derived.Test.YtgjpfmijijbjbaaE2
import Derived.Test.YtgjpfmijijbjbaaL1
import Derived.Deep.RegionHeld3
import Derived.Deep.RegionWith
namespace Go.Proofs.Ytgjpfmijijbjbaa
open Go.RowKit

/-- A slice of asks: kinds and numbers. -/
def Asks2 (w : World) (B : Nat) (A : Option Addr) (n : Nat) (Kd : Nat → Nat) (Nn : Nat → Int) : Prop :=
  ∀ i, i < n → ∃ b o, A = some ⟨b, o, none⟩ ∧ b < B ∧ w.cell? ⟨b, o + i * 2, none⟩ = some (.int .u8 (Kd i)) ∧ w.cell? ⟨b, o + i * 2 + 1, none⟩ = some (.int .i64 (Nn i)) ∧ Kd i < 256
theorem Asks2.below {w w' : World} {B : Nat} {A : Option Addr} {n : Nat} {Kd : Nat → Nat} {Nn : Nat → Int} (h : Asks2 w B A n Kd Nn) (hb : Below B w w') : Asks2 w' B A n Kd Nn := by
  intro i hi
  obtain ⟨b, o, h1, h2, h3, h4, h6⟩ := h i hi
  exact ⟨b, o, h1, h2, (hb.cell (p := ⟨b, o + i * 2, none⟩) h2).trans h3, (hb.cell (p := ⟨b, o + i * 2 + 1, none⟩) h2).trans h4, h6⟩

theorem only_undrew {S : Nat → Prop} {w w' : World} (h : Only S w.drew w') : Only S w w' := ⟨h.os, h.tape, h.output, h.size, h.block⟩

theorem creads_long (A A2 : Option Addr) (n c n2 c2 : Nat) (hn : 500 < n ∨ 200 < n2) (hm : n ≤ 9223372036854775807) (hm2 : n2 ≤ 9223372036854775807) (w : World) : Calls Try.prog 7 #[.slice A n c, .slice A2 n2 c2] w (LawPost w) := by
  by_cases h1 : 500 < n
  · go_enter Try.func7, Try.ntmps7
    go_wp2_with (go_at_call 28; refine (fixed2_yes _).mono ?_; rintro e w1 ⟨rfl, hb1⟩)
    go_ret
    exact ⟨rfl, hb1⟩
  · have h2 : 200 < n2 := by omega
    have hd : decide ((500 : Int) < n) = false := by simp; omega
    clear hn
    go_enter Try.func7, Try.ntmps7
    go_wp2_with (go_at_call 28; refine (fixed2_yes _).mono ?_; rintro e w1 ⟨rfl, hb1⟩)
    go_ret
    exact ⟨rfl, hb1⟩

/-- The two cursors stand alike. -/
def Both2 (w0 : World) (B g gr : Nat) (sv : Value) (A : Option Addr) (c : Nat) (bs : List Nat) (a : Nat) (err : Int) (w : World) : Prop :=
  a ≤ bs.length ∧ CursorAt w B g sv bs a err ∧ RCur w gr A c bs a err ∧ Below w0.heap.size w0 w

theorem leftC_quiet (B g : Nat) (sv : Value) (bs : List Nat) (a : Nat) (err : Int) (w : World) (h : CursorAt w B g sv bs a err) (hb : bs.length ≤ 1000000) (ha : a ≤ bs.length) (n : Nat) :
    Calls Try.prog 40 #[.pointer (some ⟨g, 0, none⟩)] (w.drewN n) fun e w'' => e = .returned (.int .i64 ((bs.length - a : Nat) : Int)) ∧ ∃ m, w'' = w.drewN m :=
  (leftC_any B g sv bs a err (w.drewN n) h hb ha).mono fun _ _ ⟨he, hw⟩ => ⟨he, n + 1, by rw [hw]; rfl⟩
theorem atC_quiet (B g : Nat) (sv : Value) (bs : List Nat) (a : Nat) (err : Int) (w : World) (h : CursorAt w B g sv bs a err) (n : Nat) :
    Calls Try.prog 39 #[.pointer (some ⟨g, 0, none⟩)] (w.drewN n) fun e w'' => e = .returned (.int .i64 a) ∧ ∃ m, w'' = w.drewN m :=
  (atC_any B g sv bs a err (w.drewN n) h).mono fun _ _ ⟨he, hw⟩ => ⟨he, n, hw.symm⟩
theorem errC_quiet (B g : Nat) (sv : Value) (bs : List Nat) (a : Nat) (err : Int) (w : World) (h : CursorAt w B g sv bs a err) (n : Nat) :
    Calls Try.prog 41 #[.pointer (some ⟨g, 0, none⟩)] (w.drewN n) fun e w'' => e = .returned (.int .i64 err) ∧ ∃ m, w'' = w.drewN m :=
  (errC_any B g sv bs a err (w.drewN n) h).mono fun _ _ ⟨he, hw⟩ => ⟨he, n, hw.symm⟩

theorem CursorAt.apart {w w' : World} {B g gr : Nat} {sv : Value} {bs bs' : List Nat} {a a' : Nat} {err err' : Int} {A : Option Addr} {c : Nat} (h : CursorAt w B g sv bs a err) (hr : RCur w gr A c bs' a' err') (ho : Only (fun k => k = gr) w w') : CursorAt w' B g sv bs a err :=
  ⟨h.1, h.2.1.only ho (fun e => h.2.1.ne hr (by decide) e), own_only h.2.2 ho (fun k hk e => own_ne_whole h.2.2 hr (by decide) k hk e)⟩

set_option maxHeartbeats 4000000 in
set_option maxRecDepth 100000 in
theorem creads_short (A A2 : Option Addr) (c n2 c2 : Nat) (bs : List Nat) (hn : bs.length ≤ 500) (hcm : c ≤ 9223372036854775807) (hn2 : n2 ≤ 200) (h256 : ∀ x ∈ bs, x < 256) (Kd : Nat → Nat) (Nn : Nat → Int) (w : World) (hs : Seen w w.heap.size 1 A bs.length c (bv bs)) (hA : Asks2 w w.heap.size A2 n2 Kd Nn) :
    Calls Try.prog 7 #[.slice A bs.length c, .slice A2 n2 c2] w (LawPost w) := by
  have HS := Lib.hid hs; clear hs
  have HA := Lib.hid hA; clear hA
  have H256 := Lib.hid h256; clear h256
  have hd : decide ((500 : Int) < bs.length) = false := by simp; omega
  have hd2 : decide ((200 : Int) < n2) = false := by simp; omega
  have hb6 : bs.length ≤ 1000000 := by omega
  go_enter Try.func7, Try.ntmps7
  go_wp2_with fail
  refine (fixed2_yes _).mono ?_; rintro e w1 ⟨rfl, hb1⟩
  have HB1 := Lib.hid hb1; clear hb1
  go_wp2_with fail
  refine (newC_any A c _ bs _ (HS.out.below HB1.out) HB1.out.size hb6).mono ?_; rintro e w2 ⟨g, sv, rfl, hC2, hb2⟩
  have HC2 := Lib.hid hC2; clear hC2
  have HB2 := Lib.hid (HB1.out.trans (hb2.mono HB1.out.size))
  have hz12 := hb2.size
  have hbase : w.heap.size ≤ w1.heap.size := HB1.out.size
  clear hb2
  go_wp2_with fail
  go_loopw [27] (fun i wr => ∃ k : Nat, k ≤ n2 ∧ i = .int .i64 k ∧ ∃ a err, Both2 w w1.heap.size g w2.heap.size sv A c bs a err wr) (fun i _ => n2 - (intOf i).toNat)
  case atStart =>
    exact ⟨0, Nat.zero_le _, rfl, 0, 0, Nat.zero_le _, HC2.out.only ((Only.refl Nob _).alloc _) (fun _ _ h => h), Whole.new _ _ _, HB2.out.alloc HB2.out.size _⟩
  case round =>
    obtain ⟨k, hk, rfl, a, err, hab, hC, hR, hbel⟩ := hrel
    have hsz := hbel.size
    by_cases hlt : k < n2
    · obtain ⟨b, o, rfl, hb, c0, c1, hkd⟩ := (HA.out.below hbel) k hlt
      have hbr : b < wr.heap.size := Nat.lt_of_lt_of_le hb hsz
      have hne : wr.heap.size ≠ b := by omega
      have hk0 : (0 : Int) ≤ k := by omega
      have hgl := hC.2.1.lt
      have hrl := Whole.lt hR
      have hgr : g ≠ w2.heap.size := hC.2.1.ne hR (by decide)
      have hB0 : w1.heap.size ≤ g := hC.1
      have HC := Lib.hid (hC.only ((Only.refl Nob _).alloc (.cells #[.int .u8 (Kd k), .int .i64 (Nn k)] 63)) (fun _ _ h => h))
      have HR := Lib.hid (Whole.only hR ((Only.refl Nob _).alloc (.cells #[.int .u8 (Kd k), .int .i64 (Nn k)] 63)) (fun h => h))
      have HW := Lib.hid (Whole.new wr 63 #[.int .u8 (Kd k), .int .i64 (Nn k)])
      have HBa := Lib.hid (hbel.alloc hsz (.cells #[.int .u8 (Kd k), .int .i64 (Nn k)] 63))
      clear hC hR hbel
      have hqr : wr.heap.size ≠ w2.heap.size := by omega
      have hqg : wr.heap.size ≠ g := by omega
      by_cases h0 : Kd k = 0
      · rw [h0] at HC HR HW HBa c0
        clear h0
        go_wp2_with fail
        generalize wr.alloc (.cells #[.int .u8 ((0 : Nat) : Int), .int .i64 (Nn k)] 63) = X at *
        generalize wr.heap.size = q at *
        have s1 : X.cell? ⟨q, 1, none⟩ = some (.int .i64 (Nn k)) := by simpa using HW.out.cell 1
        go_region_held3 (fun w' => w'.cell? ⟨q, 1, none⟩ = some (.int .i64 (Nn k))) (first | exact t30 | exact t31 | go_keep)
          (first
            | (go_at_call 30; refine (bigC_any _ g sv bs a err (Nn k) _ (by first | exact HC.out | exact C31.out) hb6 hab H256.out).mono ?_; rintro e w30 ⟨rfl, hC30, hO30⟩; (first | (have O30 := only_undrew hO30; have R30 := Lib.hid (Whole.only HR.out O30 (fun e => hgr e.symm)); have W30 := Lib.hid (HW.out.only O30 (by omega)); have B30 := Lib.hid (HBa.out.trans (O30.below HBa.out.size (fun i hi => by omega)))) | (have O30 := hO30; have R30 := Lib.hid (Whole.only R31.out O30 (fun e => hgr e.symm)); have W30 := Lib.hid (W31.out.only O30 (by omega)); have B30 := Lib.hid (B31.out.trans (O30.below B31.out.size (fun i hi => by omega))))); have C30 := Lib.hid hC30; have t30 : w30.cell? ⟨q, 1, none⟩ = some (.int .i64 (Nn k)) := (by simpa using W30.out.cell 1); clear hC30 hO30 O30)
            | (go_at_call 31; refine (rbig_any w2.heap.size w.heap.size A c bs a err (Nn k) _ (by first | exact HR.out | exact R30.out) (by first | exact HS.out.below HBa.out | exact HS.out.below B30.out) (by omega) hb6 hcm hab H256.out).mono ?_; rintro e w31 ⟨rfl, hR31, hO31⟩; (first | (have O31 := only_undrew hO31; have C31 := Lib.hid (CursorAt.apart HC.out HR.out O31); have W31 := Lib.hid (HW.out.only O31 (by omega)); have B31 := Lib.hid (HBa.out.trans (O31.below HBa.out.size (fun i hi => by omega)))) | (have O31 := hO31; have C31 := Lib.hid (CursorAt.apart C30.out R30.out O31); have W31 := Lib.hid (W30.out.only O31 (by omega)); have B31 := Lib.hid (B30.out.trans (O31.below B30.out.size (fun i hi => by omega))))); have R31 := Lib.hid hR31; have t31 : w31.cell? ⟨q, 1, none⟩ = some (.int .i64 (Nn k)) := (by simpa using W31.out.cell 1); clear hR31 hO31 O31))
        have hp := nxt_place bs a err (Nn k) (decide (Wide (Nn k))) (fun e => Wide.nonneg e) hab
        have hCz := C31.out
        have hRz := R31.out
        have BZ := B31
        clear C30 R30 W30 B30 C31 R31 W31 B31 t30 t31 s1 HC HR HW HBa
        generalize nxt bs a err (Nn k) (decide (Wide (Nn k))) = r at *
        obtain ⟨xs, a1, err1⟩ := r
        simp only at hCz hRz hp
        go_wp2_with fail
        have hd1 := hRz.c1
        have hd2 := hRz.c2
        have hzz : ((((bs.length - a1 : Nat) : Int)) != ((bs.length : Int) - a1)) = false := by simp; omega
        have hw8 : IntKind.i64.wrap ((bs.length : Int) - a1) = (bs.length : Int) - a1 := IntWalk.i64_in _ (by omega)
        have hee : (err1 != err1) = false := by simp
        have haa : ((a1 : Int) != a1) = false := by simp
        have HCz := Lib.hid hCz; clear hCz
        have HRz := Lib.hid hRz; clear hRz
        go_quiet ((first | (go_at_call 39; exact atC_quiet _ g sv bs a1 err1 _ HCz.out _) | (go_at_call 40; exact leftC_quiet _ g sv bs a1 err1 _ HCz.out hb6 hp _) | (go_at_call 41; exact errC_quiet _ g sv bs a1 err1 _ HCz.out _)))
        go_wp2_with fail
        go_roundw
        case rel => exact ⟨k + 1, by omega, by go_num, a1, err1, hp, HCz.out, HRz.out, ⟨BZ.out.os, BZ.out.tape, BZ.out.output, BZ.out.size, BZ.out.block⟩⟩
        case measure => simp [intOf]; omega
      by_cases h1 : Kd k = 1
      · rw [h1] at HC HR HW HBa c0
        clear h0 h1
        go_wp2_with fail
        generalize wr.alloc (.cells #[.int .u8 ((1 : Nat) : Int), .int .i64 (Nn k)] 63) = X at *
        generalize wr.heap.size = q at *
        have s1 : X.cell? ⟨q, 1, none⟩ = some (.int .i64 (Nn k)) := by simpa using HW.out.cell 1
        go_region_held3 (fun w' => w'.cell? ⟨q, 1, none⟩ = some (.int .i64 (Nn k))) (first | exact t32 | exact t33 | go_keep)
          (first
            | (go_at_call 32; refine (littleC_any _ g sv bs a err (Nn k) _ (by first | exact HC.out | exact C33.out) hb6 hab H256.out).mono ?_; rintro e w32 ⟨rfl, hC32, hO32⟩; (first | (have O32 := only_undrew hO32; have R32 := Lib.hid (Whole.only HR.out O32 (fun e => hgr e.symm)); have W32 := Lib.hid (HW.out.only O32 (by omega)); have B32 := Lib.hid (HBa.out.trans (O32.below HBa.out.size (fun i hi => by omega)))) | (have O32 := hO32; have R32 := Lib.hid (Whole.only R33.out O32 (fun e => hgr e.symm)); have W32 := Lib.hid (W33.out.only O32 (by omega)); have B32 := Lib.hid (B33.out.trans (O32.below B33.out.size (fun i hi => by omega))))); have C32 := Lib.hid hC32; have t32 : w32.cell? ⟨q, 1, none⟩ = some (.int .i64 (Nn k)) := (by simpa using W32.out.cell 1); clear hC32 hO32 O32)
            | (go_at_call 33; refine (rlittle_any w2.heap.size w.heap.size A c bs a err (Nn k) _ (by first | exact HR.out | exact R32.out) (by first | exact HS.out.below HBa.out | exact HS.out.below B32.out) (by omega) hb6 hcm hab H256.out).mono ?_; rintro e w33 ⟨rfl, hR33, hO33⟩; (first | (have O33 := only_undrew hO33; have C33 := Lib.hid (CursorAt.apart HC.out HR.out O33); have W33 := Lib.hid (HW.out.only O33 (by omega)); have B33 := Lib.hid (HBa.out.trans (O33.below HBa.out.size (fun i hi => by omega)))) | (have O33 := hO33; have C33 := Lib.hid (CursorAt.apart C32.out R32.out O33); have W33 := Lib.hid (W32.out.only O33 (by omega)); have B33 := Lib.hid (B32.out.trans (O33.below B32.out.size (fun i hi => by omega))))); have R33 := Lib.hid hR33; have t33 : w33.cell? ⟨q, 1, none⟩ = some (.int .i64 (Nn k)) := (by simpa using W33.out.cell 1); clear hR33 hO33 O33))
        have hp := nxt_place bs a err (Nn k) (decide (Wide (Nn k))) (fun e => Wide.nonneg e) hab
        have hCz := C33.out
        have hRz := R33.out
        have BZ := B33
        clear C32 R32 W32 B32 C33 R33 W33 B33 t32 t33 s1 HC HR HW HBa
        generalize nxt bs a err (Nn k) (decide (Wide (Nn k))) = r at *
        obtain ⟨xs, a1, err1⟩ := r
        simp only at hCz hRz hp
        go_wp2_with fail
        have hd1 := hRz.c1
        have hd2 := hRz.c2
        have hzz : ((((bs.length - a1 : Nat) : Int)) != ((bs.length : Int) - a1)) = false := by simp; omega
        have hw8 : IntKind.i64.wrap ((bs.length : Int) - a1) = (bs.length : Int) - a1 := IntWalk.i64_in _ (by omega)
        have hee : (err1 != err1) = false := by simp
        have haa : ((a1 : Int) != a1) = false := by simp
        have HCz := Lib.hid hCz; clear hCz
        have HRz := Lib.hid hRz; clear hRz
        go_quiet ((first | (go_at_call 39; exact atC_quiet _ g sv bs a1 err1 _ HCz.out _) | (go_at_call 40; exact leftC_quiet _ g sv bs a1 err1 _ HCz.out hb6 hp _) | (go_at_call 41; exact errC_quiet _ g sv bs a1 err1 _ HCz.out _)))
        go_wp2_with fail
        go_roundw
        case rel => exact ⟨k + 1, by omega, by go_num, a1, err1, hp, HCz.out, HRz.out, ⟨BZ.out.os, BZ.out.tape, BZ.out.output, BZ.out.size, BZ.out.block⟩⟩
        case measure => simp [intOf]; omega
      by_cases h2 : Kd k = 2
      · rw [h2] at HC HR HW HBa c0
        clear h0 h1 h2
        go_wp2_with fail
        generalize wr.alloc (.cells #[.int .u8 ((2 : Nat) : Int), .int .i64 (Nn k)] 63) = X at *
        generalize wr.heap.size = q at *
        have s1 : X.cell? ⟨q, 1, none⟩ = some (.int .i64 (Nn k)) := by simpa using HW.out.cell 1
        go_region_with (first
            | (go_at_call 34; refine (takeC_any _ g sv bs a err (Nn k) _ (by exact HC.out) hb6 hab).mono ?_; rintro e w34 ⟨v34, rfl, ho34, hC34, hO34⟩; obtain ⟨A34, c34, rfl, _⟩ := own_form ho34; have cv34 := conv_seen (Seen.of_own ho34); have O34 := only_undrew hO34; have P34 := Lib.hid ho34; have R34 := Lib.hid (Whole.only HR.out O34 (fun e => hgr e.symm)); have W34 := Lib.hid (HW.out.only O34 (by omega)); have B34 := Lib.hid (HBa.out.trans (O34.below HBa.out.size (fun i hi => by omega))); have C34 := Lib.hid hC34; have t34 : w34.cell? ⟨q, 1, none⟩ = some (.int .i64 (Nn k)) := (by simpa using W34.out.cell 1); clear hC34 hO34 O34 ho34)
            | (go_at_call 35; refine (rtake_any w2.heap.size w.heap.size A c bs a err (Nn k) _ (by exact R34.out) (by exact HS.out.below B34.out) (by omega) hb6 hcm hab).mono ?_; rintro e w35 ⟨v35, rfl, ho35, hR35, hO35⟩; obtain ⟨A35, c35, rfl, _⟩ := own_form ho35; have cv35 := conv_seen (Seen.of_own ho35); have C35 := Lib.hid (CursorAt.apart C34.out R34.out hO35); have cv341 := conv_seen (Seen.of_own (own_only P34.out hO35 (fun i hi e => own_ne_whole P34.out R34.out (by decide) i hi e))); have W35 := Lib.hid (W34.out.only hO35 (by omega)); have B35 := Lib.hid (B34.out.trans (hO35.below B34.out.size (fun i hi => by omega))); have R35 := Lib.hid hR35; have t35 : w35.cell? ⟨q, 1, none⟩ = some (.int .i64 (Nn k)) := (by simpa using W35.out.cell 1); clear hR35 hO35 ho35))
        all_goals
          have hp := nxt_place bs a err (Nn k) (decide (0 ≤ Nn k)) (fun e => of_decide_eq_true e) hab
          have hCz := C35.out
          have hRz := R35.out
          have BZ := B35
          clear C34 R34 W34 B34 C35 R35 W35 B35 t34 t35 s1 HC HR HW HBa P34 cv34 cv35 cv341
          generalize nxt bs a err (Nn k) (decide (0 ≤ Nn k)) = r at *
          obtain ⟨xs, a1, err1⟩ := r
          simp only at hCz hRz hp
          go_wp2_with fail
          have hd1 := hRz.c1
          have hd2 := hRz.c2
          have hzz : ((((bs.length - a1 : Nat) : Int)) != ((bs.length : Int) - a1)) = false := by simp; omega
          have hw8 : IntKind.i64.wrap ((bs.length : Int) - a1) = (bs.length : Int) - a1 := IntWalk.i64_in _ (by omega)
          have hee : (err1 != err1) = false := by simp
          have haa : ((a1 : Int) != a1) = false := by simp
          have HCz := Lib.hid hCz; clear hCz
          have HRz := Lib.hid hRz; clear hRz
          go_quiet ((first | (go_at_call 39; exact atC_quiet _ g sv bs a1 err1 _ HCz.out _) | (go_at_call 40; exact leftC_quiet _ g sv bs a1 err1 _ HCz.out hb6 hp _) | (go_at_call 41; exact errC_quiet _ g sv bs a1 err1 _ HCz.out _)))
          go_wp2_with fail
          go_roundw
          case rel => exact ⟨k + 1, by omega, by go_num, a1, err1, hp, HCz.out, HRz.out, ⟨BZ.out.os, BZ.out.tape, BZ.out.output, BZ.out.size, BZ.out.block⟩⟩
          case measure => simp [intOf]; omega
      by_cases h3 : Kd k = 3
      · rw [h3] at HC HR HW HBa c0
        clear h0 h1 h2 h3
        go_wp2_with fail
        generalize wr.alloc (.cells #[.int .u8 ((3 : Nat) : Int), .int .i64 (Nn k)] 63) = X at *
        refine (endC_any _ g sv bs a err _ HC.out hb6 hab).mono ?_; rintro e w5 ⟨rfl, hC5, hO5⟩
        have HR5 := Lib.hid (Whole.only HR.out hO5 (fun e => hgr e.symm))
        have HC5 := Lib.hid hC5
        have HB5 := Lib.hid (HBa.out.trans (hO5.below HBa.out.size (fun i hi => by omega)))
        clear hC5 hO5
        go_wp2_with fail
        refine (rend_any w2.heap.size A c bs a err _ HR5.out hb6 hab).mono ?_; rintro e w6 ⟨rfl, hRz, hO6⟩
        have hCz := CursorAt.apart HC5.out HR5.out hO6
        have BZ := Lib.hid (HB5.out.trans (hO6.below HB5.out.size (fun i hi => by omega)))
        clear hO6
        have hp := hab
        generalize endErr bs a err = err1 at *
        obtain ⟨a1, ha1⟩ : ∃ a1, a = a1 := ⟨_, rfl⟩
        subst ha1
        go_wp2_with fail
        have hd1 := hRz.c1
        have hd2 := hRz.c2
        have hzz : ((((bs.length - a : Nat) : Int)) != ((bs.length : Int) - a)) = false := by simp; omega
        have hw8 : IntKind.i64.wrap ((bs.length : Int) - a) = (bs.length : Int) - a := IntWalk.i64_in _ (by omega)
        have hee : (err1 != err1) = false := by simp
        have haa : ((a : Int) != a) = false := by simp
        have HCz := Lib.hid hCz; clear hCz
        have HRz := Lib.hid hRz; clear hRz
        go_quiet ((first | (go_at_call 39; exact atC_quiet _ g sv bs a err1 _ HCz.out _) | (go_at_call 40; exact leftC_quiet _ g sv bs a err1 _ HCz.out hb6 hp _) | (go_at_call 41; exact errC_quiet _ g sv bs a err1 _ HCz.out _)))
        go_wp2_with fail
        go_roundw
        case rel => exact ⟨k + 1, by omega, by go_num, a, err1, hp, HCz.out, HRz.out, ⟨BZ.out.os, BZ.out.tape, BZ.out.output, BZ.out.size, BZ.out.block⟩⟩
        case measure => simp [intOf]; omega
      · have e0 : (((Kd k : Nat) : Int) == 0) = false := by simp; omega
        have e1 : (((Kd k : Nat) : Int) == 1) = false := by simp; omega
        have e2 : (((Kd k : Nat) : Int) == 2) = false := by simp; omega
        have e3 : (((Kd k : Nat) : Int) == 3) = false := by simp; omega
        have wk : IntKind.i64.wrap ((Kd k : Nat) : Int) = Kd k := IntWalk.i64_in _ (by omega)
        clear h0 h1 h2 h3
        go_wp2_with fail
        generalize wr.alloc (.cells #[.int .u8 (Kd k), .int .i64 (Nn k)] 63) = X at *
        generalize wr.heap.size = q at *
        refine (failC_any _ g sv bs a err (Kd k) _ HC.out).mono ?_; rintro e w5 ⟨rfl, hC5, hO5⟩
        have hR5 := Whole.only HR.out hO5 (fun e => hgr e.symm)
        have hW5 := HW.out.only hO5 (by omega)
        have m0 : w5.cell? ⟨q, 0, none⟩ = some (.int .u8 (Kd k)) := by simpa using hW5.cell 0
        have m2 := RCur.c2 hR5
        have f2 := Whole.frozen hR5 2
        have HB5 := Lib.hid (HBa.out.trans (hO5.below HBa.out.size (fun i hi => by omega)))
        have HC5 := Lib.hid hC5
        have HR5 := Lib.hid hR5
        have hp := hab
        clear hC5 hO5 hR5 hW5
        by_cases he : err = 0
        · subst he
          have hfe : failed 0 (Kd k) = Kd k := by simp [failed]
          rw [hfe] at HC5
          have HRs := Lib.hid (RCur.set2 HR5.out (Kd k))
          have HCs := Lib.hid (CursorAt.apart HC5.out HR5.out (only_set w5 w2.heap.size 2 (.int .i64 (Kd k))))
          have HBs := Lib.hid (HB5.out.trans ((only_set w5 w2.heap.size 2 (.int .i64 (Kd k))).below HB5.out.size (fun i hi => by omega)))
          go_wp2_with fail
          have hCz := HCs.out
          have hRz := HRs.out
          have BZ := HBs
          clear HCs HRs HBs HC5 HR5 HB5 m0 m2 f2
          generalize w5.setCell ⟨w2.heap.size, 2, none⟩ (.int .i64 (Kd k)) = w6 at *
          obtain ⟨err1, hk1⟩ : ∃ err1, ((Kd k : Nat) : Int) = err1 := ⟨_, rfl⟩
          rw [hk1] at hCz hRz
          have HK1 := Lib.hid hk1; clear hk1
          have hd1 := hRz.c1
          have hd2 := hRz.c2
          have hzz : ((((bs.length - a : Nat) : Int)) != ((bs.length : Int) - a)) = false := by simp; omega
          have hw8 : IntKind.i64.wrap ((bs.length : Int) - a) = (bs.length : Int) - a := IntWalk.i64_in _ (by omega)
          have hee : (err1 != err1) = false := by simp
          have haa : ((a : Int) != a) = false := by simp
          have HCz := Lib.hid hCz; clear hCz
          have HRz := Lib.hid hRz; clear hRz
          go_quiet ((first | (go_at_call 39; exact atC_quiet _ g sv bs a err1 _ HCz.out _) | (go_at_call 40; exact leftC_quiet _ g sv bs a err1 _ HCz.out hb6 hp _) | (go_at_call 41; exact errC_quiet _ g sv bs a err1 _ HCz.out _)))
          go_wp2_with fail
          go_roundw
          case rel => exact ⟨k + 1, by omega, by go_num, a, err1, hp, HCz.out, HRz.out, ⟨BZ.out.os, BZ.out.tape, BZ.out.output, BZ.out.size, BZ.out.block⟩⟩
          case measure => simp [intOf]; omega
        · have hfe : failed err (Kd k) = err := by simp [failed, he]
          rw [hfe] at HC5
          have hez : (err == 0) = false := by simp [he]
          clear he hfe
          go_wp2_with fail
          have hCz := HC5.out
          have hRz : RCur w5 w2.heap.size A c bs a err := HR5.out
          have BZ := HB5
          clear HC5 HR5 HB5 m0 m2 f2
          have hd1 := hRz.c1
          have hd2 := hRz.c2
          have hzz : ((((bs.length - a : Nat) : Int)) != ((bs.length : Int) - a)) = false := by simp; omega
          have hw8 : IntKind.i64.wrap ((bs.length : Int) - a) = (bs.length : Int) - a := IntWalk.i64_in _ (by omega)
          have hee : (err != err) = false := by simp
          have haa : ((a : Int) != a) = false := by simp
          have HCz := Lib.hid hCz; clear hCz
          have HRz := Lib.hid hRz; clear hRz
          go_quiet ((first | (go_at_call 39; exact atC_quiet _ g sv bs a err _ HCz.out _) | (go_at_call 40; exact leftC_quiet _ g sv bs a err _ HCz.out hb6 hp _) | (go_at_call 41; exact errC_quiet _ g sv bs a err _ HCz.out _)))
          go_wp2_with fail
          go_roundw
          case rel => exact ⟨k + 1, by omega, by go_num, a, err, hp, HCz.out, HRz.out, ⟨BZ.out.os, BZ.out.tape, BZ.out.output, BZ.out.size, BZ.out.block⟩⟩
          case measure => simp [intOf]; omega
    · obtain rfl : n2 = k := by omega
      go_wp2_with fail
      go_ret
      exact ⟨rfl, hbel⟩
end Go.Proofs.Ytgjpfmijijbjbaa
