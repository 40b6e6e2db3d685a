/-
  UtfTells' walk. Conditions: unicode/utf8's tables as they are laid, and the library's greatest length as some number.
-/
import Derived.Test.YtdfliogomkpceaaDoorLA
namespace Go.Proofs.YtdfliogomkpceaaDoor
open Go Go.RowKit
set_option maxRecDepth 100000

theorem GivesU.seen {w w' : World} {r : Option (List Nat)} {e : Ending} (h : GivesU w r e w') : ∃ A c, e = .returned (.tuple #[.slice A (r.getD []).length c, .bool r.isSome]) ∧ Below w.heap.size w w' ∧ Seen w' w'.heap.size 1 A (r.getD []).length c (uv (r.getD [])) := by
  obtain ⟨v, rfl, hb, h1, h2⟩ := h
  cases r with
  | none =>
    obtain rfl := h1 rfl
    exact ⟨none, 0, rfl, hb, rfl, Nat.le_refl _, .inl ⟨rfl, rfl⟩⟩
  | some u =>
    have o := h2 u rfl
    obtain ⟨A, c, rfl, -⟩ := own_form o
    exact ⟨A, c, rfl, hb, Seen.of_own o⟩
theorem enc_short {l : List UInt8} (hl : l.length ≤ 600) : ((encodeM l).getD []).length ≤ 100000 := by
  unfold encodeM
  cases h : sgM [] l with
  | none => simp
  | some u =>
    obtain ⟨-, h2⟩ := sg_facts l.length [] l (Nat.le_refl _) (fun x hx => by cases hx) h
    have h3 := uBs_le (uOfs u)
    have h4 := uOfs_le u
    simp only [List.length_nil, Nat.zero_add] at h2
    simp only [Option.getD_some]
    omega

set_option maxHeartbeats 16000000 in
theorem tells_yes (l : List UInt8) (n : Nat) (hn : l.length = n) (hs : n ≤ 9223372036854775807) (m : Int) (w : World) (hw : Fit m w) :
    Calls Tryd.prog 3 #[.string (tx l)] w (Gives w (.bool true)) := by
  have CF := Lib.hid (fixed_any m w hw)
  have sl : (tx l).size = n := by rw [tx_size, hn]
  by_cases g1 : 600 < n
  · have d1 : decide ((600 : Int) < (n : Int)) = true := by rw [decide_eq_true_iff]; omega
    go_enter Tryd.func3, Tryd.ntmps3
    go_wp2_with (go_at_call 6; refine CF.out.mono ?_; rintro e w1 ⟨rfl, b1⟩)
    go_ret
    exact ⟨rfl, b1⟩
  have d1 : decide ((600 : Int) < (n : Int)) = false := by rw [decide_eq_false_iff_not]; omega
  have HW := Lib.hid hw
  have C1 := Lib.hid (fun W => (pUnits_any l n hn (by omega) W).mono fun e w' h => GivesU.seen h)
  have C2 := Lib.hid (fun W => (units_any l n hn (by omega) W).mono fun e w' h => GivesU.seen h)
  have C3 := Lib.hid (fun W => right_any l n hn (by omega) W)
  have C4 := Lib.hid (fun W (h : Fit m W) => pEncode_any l n hn (by omega) W h.tabs)
  have C5 := Lib.hid (fun W => encode_any l (by omega) W)
  have C6 := Lib.hid (fun W => pDecode_any l (by omega) W)
  have C7 := Lib.hid (fun W => decode_any l (by omega) W)
  have C8 := Lib.hid (fun W => pDecode_any ((encodeM l).getD []) (enc_short (by omega)) W)
  have HDE := Lib.hid (fun e => decode_encode (s := l) (e := e))
  have hul : ((unitsM l).getD []).length ≤ 100000 := by
    cases h : unitsM l with
    | none => simp
    | some u => have := units_len (l := l) l.length [] l (Nat.le_refl _) h; simp at this ⊢; omega
  obtain ⟨ru, hru⟩ : ∃ r, unitsM l = r := ⟨_, rfl⟩
  rw [hru] at C1 C2 C3 hul
  obtain ⟨U, hU⟩ : ∃ U, ru.getD [] = U := ⟨_, rfl⟩
  rw [hU] at C1 C2 hul
  obtain ⟨bu, hbu⟩ : ∃ b, ru.isSome = b := ⟨_, rfl⟩
  rw [hbu] at C1 C2 C3
  obtain ⟨k0, hk0⟩ : ∃ k, U.length = k := ⟨_, rfl⟩
  rw [hk0] at C1 C2 hul
  have hbb : (bu != bu) = false := by cases bu <;> rfl
  obtain ⟨re, hre⟩ : ∃ r, encodeM l = r := ⟨_, rfl⟩
  rw [hre] at C4 C5 C8 HDE
  obtain ⟨E, hE⟩ : ∃ E, re.getD [] = E := ⟨_, rfl⟩
  rw [hE] at C8
  unfold GivesText at C4 C5 C6 C7 C8
  rw [hE] at C4 C5
  obtain ⟨be, hbe⟩ : ∃ b, re.isSome = b := ⟨_, rfl⟩
  rw [hbe] at C4 C5
  have hbb2 : (be != be) = false := by cases be <;> rfl
  obtain ⟨Te, hTe⟩ : ∃ T, tx E = T := ⟨_, rfl⟩
  rw [hTe] at C4 C5 C8
  have hee : (Te.toList == Te.toList) = true := by simp
  have hee2 : (Te.toList != Te.toList) = false := by simp
  obtain ⟨Td, hTd⟩ : ∃ T, tx ((decodeM l).getD []) = T := ⟨_, rfl⟩
  rw [hTd] at C6 C7
  have hdd : (Td.toList == Td.toList) = true := by simp
  have hdd2 : (Td.toList != Td.toList) = false := by simp
  obtain ⟨bd, hbd⟩ : ∃ b, (decodeM l).isSome = b := ⟨_, rfl⟩
  rw [hbd] at C6 C7
  have hbb3 : (bd != bd) = false := by cases bd <;> rfl
  obtain ⟨rz, hrz⟩ : ∃ r, decodeM E = r := ⟨_, rfl⟩
  rw [hrz] at C8
  obtain ⟨Tz, hTz⟩ : ∃ T, tx (rz.getD []) = T := ⟨_, rfl⟩
  rw [hTz] at C8
  obtain ⟨bz, hbz⟩ : ∃ b, rz.isSome = b := ⟨_, rfl⟩
  rw [hbz] at C8
  have HZ : Hid (be = true → bz = true ∧ Tz = tx l) := Lib.hid (fun h => by
    cases re with
    | none => rw [← hbe] at h; cases h
    | some x =>
      have e1 := HDE.out x rfl
      have e2 : E = x := hE.symm
      rw [e2, e1] at hrz
      subst hrz
      exact ⟨hbz.symm, hTz.symm⟩)
  have HK := Lib.hid hk0
  obtain ⟨Tl, hTl⟩ : ∃ T, tx l = T := ⟨_, rfl⟩
  rw [hTl] at C1 C2 C3 C4 C5 C6 C7 HZ sl ⊢
  clear hru hU hbu hk0 hre hE hbe hTe hTd hbd hrz hTz hbz HDE hn hs hTl
  go_enter Tryd.func3, Tryd.ntmps3
  go_wp2_with fail
  refine CF.out.mono ?_
  rintro e w1 ⟨rfl, b1⟩
  have B1 := Lib.hid b1
  clear b1
  go_wp2_with fail
  refine (C1.out _).mono ?_
  rintro e w2 ⟨A2, c2, rfl, b2, s2⟩
  have S2 := Lib.hid s2
  have B2 := Lib.hid (B1.out.trans (b2.mono B1.out.size))
  clear b2 s2
  go_wp2_with fail
  refine (C2.out _).mono ?_
  rintro e w3 ⟨A3, c3, rfl, b3, s3⟩
  have S3 := Lib.hid s3
  have S2' := Lib.hid ((S2.out.below b3).more b3.size)
  have B3 := Lib.hid (B2.out.trans (b3.mono B2.out.size))
  clear b3 s3 S2
  go_wp2_with fail
  refine (C3.out _).mono ?_
  rintro e w4 ⟨rfl, rfl⟩
  go_wp2_with fail
  go_loopg [51] k0 (fun j v wr => ∃ k : Nat, k ≤ k0 ∧ j = k0 - k ∧ v = .int .i64 k ∧ Below w3.heap.size w3 wr)
  case atStart => exact ⟨0, by omega, rfl, rfl, Below.refl _ _⟩
  case round =>
    obtain ⟨k, hk, rfl, rfl, hbl⟩ := hrel
    obtain ⟨wo, rfl⟩ : ∃ W, W = wr := ⟨_, rfl⟩
    have BL := Lib.hid hbl
    clear hbl
    by_cases hlt : k < k0
    · have d0 : decide ((k : Int) < (k0 : Int)) = true := by rw [decide_eq_true_iff]; omega
      have hkl : k < U.length := by rw [HK.out]; exact hlt
      obtain ⟨b5, o5, u5, rfl, _, hu5, hc5⟩ := (S2'.out.below BL.out).at hlt
      obtain ⟨b6, o6, u6, rfl, _, hu6, hc6⟩ := (S3.out.below BL.out).at hlt
      obtain rfl : u5 = .int .u16 (U[k] : Nat) := (Option.some.inj ((uv_at U k hkl).symm.trans hu5)).symm
      obtain rfl : u6 = .int .u16 (U[k] : Nat) := (Option.some.inj ((uv_at U k hkl).symm.trans hu6)).symm
      obtain ⟨p, hp⟩ : ∃ p, U[k] = p := ⟨_, rfl⟩
      rw [hp] at hc5 hc6
      have hc5d : wo.drew.cell? ⟨b5, o5 + k, none⟩ = some (.int .u16 (p : Nat)) := hc5
      have hc6d : wo.drew.cell? ⟨b6, o6 + k, none⟩ = some (.int .u16 (p : Nat)) := hc6
      have q1 : IntKind.i64.wrap (k : Int) = (k : Int) := IntWalk.i64_in _ (by omega)
      have q2 : (0 : Int) ≤ (k : Int) := by omega
      have q3 : (k : Int) < (k0 : Int) := by omega
      have HBW : Hid (Below w3.heap.size w3 wo.drew) := Lib.hid ⟨BL.out.os, BL.out.tape, BL.out.output, BL.out.size, BL.out.block⟩
      have dp : ((p : Int) == (p : Int)) = true := by simp
      clear hu5 hu6 hp
      go_upto_region 12 with fail
      refine wp_region_still_lit (by kernel_rfl) (by kernel_rfl) ?_
      repeat still_step
      refine wpStill_nil ?_
      go_wp2_with fail
      go_roundg (k0 - (k + 1))
      case measure => omega
      case rel => exact ⟨k + 1, by omega, rfl, by go_num, HBW.out⟩
    · obtain rfl : k = k0 := by omega
      have d0 : decide ((k : Int) < (k : Int)) = false := by rw [decide_eq_false_iff_not]; omega
      have B4 := Lib.hid (B3.out.trans (BL.out.mono B3.out.size))
      clear BL
      go_wp2_with fail
      refine (C4.out _ (HW.out.below B4.out)).mono ?_
      rintro e w5 ⟨rfl, b5⟩
      have B5 := Lib.hid (B4.out.trans (b5.mono B4.out.size))
      clear b5
      go_wp2_with fail
      refine (C5.out _).mono ?_
      rintro e w6 ⟨rfl, b6⟩
      have B6 := Lib.hid (B5.out.trans (b6.mono B5.out.size))
      clear b6
      go_wp2_with fail
      refine (C6.out _).mono ?_
      rintro e w7 ⟨rfl, b7⟩
      have B7 := Lib.hid (B6.out.trans (b7.mono B6.out.size))
      clear b7
      go_wp2_with fail
      refine (C7.out _).mono ?_
      rintro e w8 ⟨rfl, b8⟩
      have B8 := Lib.hid (B7.out.trans (b8.mono B7.out.size))
      clear b8
      go_wp2_with fail
      refine (C8.out _).mono ?_
      rintro e w9 ⟨rfl, b9⟩
      have B9 := Lib.hid (B8.out.trans (b9.mono B8.out.size))
      clear b9
      cases be with
      | false =>
        go_wp2_with fail
        go_ret
        exact ⟨rfl, B9.out⟩
      | true =>
        obtain ⟨rfl, h2⟩ := HZ.out rfl
        obtain rfl : Tz = Tl := h2
        have htt : (Tz.toList == Tz.toList) = true := by simp
        go_wp2_with fail
        go_ret
        exact ⟨rfl, B9.out⟩
end Go.Proofs.YtdfliogomkpceaaDoor
