/-
  The calls whose answers the document fixes: fixed answers true, and changes nothing that was there; the walk of BlocksSigns. Conditions: none.
-/
import Derived.Test.YtnnpiblnjflceaaG6
namespace Go.Proofs.Ytnnpiblnjflceaa
open Go.RowKit
set_option maxRecDepth 100000

theorem ls13 : lsV 13 = .tuple #[.int .i64 266, .int .i64 0, .bool true] := by
  have h : lsn 13 = 266 := by decide
  have h2 : lenB 266 = 13 := by decide
  unfold lsV
  rw [if_neg (by omega)]
  have e : (13 : Int).toNat = 13 := rfl
  rw [e, h, h2]
  rfl
theorem ds0 : dsV 0 = .tuple #[.int .i64 0, .int .i64 0, .bool false] := if_pos (.inl (by omega))

theorem bytes10 (g : Nat) (sv : Value) (w : World) (h : WriterAt w g g sv [true, true, false, false, false, false, false, false, false, false]) :
    Calls Try.prog 22 #[.pointer (some ⟨g, 0, none⟩)] w (GivesRow w 5 1 2 (([3, 0] : List Nat).map fun x : Nat => Value.int .u8 x)) := by
  have epk : pack [true, true, false, false, false, false, false, false, false, false] = [3, 0] := by decide
  have := writerBytes_any g g sv _ w h (by simp)
  rw [epk] at this
  exact this

set_option maxHeartbeats 2000000 in
theorem fixed_any (w : World) : Calls Try.prog 6 #[] w (Gives w (.bool true)) := by
  have C1 := Lib.hid (fun W => lengthSign_any 13 W)
  have C2 := Lib.hid (fun W => distanceSign_any 0 W)
  rw [ls13] at C1
  rw [ds0] at C2
  have C3 := Lib.hid (fun W => stored_nil none 0 0 true W)
  have C4 := Lib.hid (fun W => fixedBits_nil W)
  go_enter Try.func6, Try.ntmps6
  go_wp2_with fail
  refine (newWriter_any w).mono ?_
  rintro e w1 ⟨rfl, hw1, hb1⟩
  obtain ⟨gw, hgw⟩ : ∃ gw, w.heap.size = gw := ⟨_, rfl⟩
  rw [hgw] at hw1 ⊢
  have CX := Lib.hid (fixed_nil gw gw (.slice none 0 0) [] (by simp) true w1 hw1)
  have B1 := Lib.hid hb1
  have HG := Lib.hid hgw
  clear hw1 hb1 hgw
  go_wp2_with fail
  refine CX.out.mono ?_
  rintro e w2 ⟨rfl, sv2, p1, p2, p3⟩
  have B2 := Lib.hid (B1.out.trans (p2.below B1.out.size (fun k hk => by rcases hk with rfl | hk; rw [HG.out]; exact Nat.le_refl _; simp [Value.ownBlock] at hk)))
  rw [List.nil_append, word_fix] at p1
  have P1 := Lib.hid p1
  clear p1 p2 p3
  go_wp2_with fail
  refine (C1.out _).mono ?_
  rintro e w3 ⟨rfl, hb3⟩
  have P3 := Lib.hid (P1.out.below hb3)
  have B3 := Lib.hid (B2.out.trans (hb3.mono B2.out.size)); clear hb3
  go_wp2_with fail
  refine (C2.out _).mono ?_
  rintro e w4 ⟨rfl, hb4⟩
  have P4 := Lib.hid (P3.out.below hb4)
  have B4 := Lib.hid (B3.out.trans (hb4.mono B3.out.size)); clear hb4
  go_wp2_with fail
  refine (bytes10 gw sv2 w4 P4.out).mono ?_
  rintro e w5 ⟨v5, rfl, hown5, hb5⟩
  obtain ⟨A5, c5, rfl, _, hs5⟩ := own_seen hown5
  have hst : strOf [3, 0] = ⟨#[3, 0]⟩ := rfl
  have cv := conv_seen hs5
  rw [hst] at cv
  have B5 := Lib.hid (B4.out.trans (hb5.mono B4.out.size))
  clear hb5 hown5 hs5 hst
  go_wp2_with fail
  refine (C3.out _).mono ?_
  rintro e w6 ⟨rfl, rfl⟩
  go_wp2_with fail
  refine (C4.out _).mono ?_
  rintro e w7 ⟨rfl, hb7⟩
  have B7 := Lib.hid (B5.out.trans (hb7.mono B5.out.size)); clear hb7
  go_wp2_with fail
  go_ret
  exact ⟨rfl, B7.out⟩

theorem lsV_form (n : Int) : ∃ (x y : Int) (z : Bool), lsV n = .tuple #[.int .i64 x, .int .i64 y, .bool z] := by
  unfold lsV
  split
  · exact ⟨_, _, _, rfl⟩
  · exact ⟨_, _, _, rfl⟩
theorem dsV_form (n : Int) : ∃ (x y : Int) (z : Bool), dsV n = .tuple #[.int .i64 x, .int .i64 y, .bool z] := by
  unfold dsV
  split
  · exact ⟨_, _, _, rfl⟩
  · exact ⟨_, _, _, rfl⟩

set_option maxHeartbeats 1000000 in
theorem signs_law (n : Int) (w : World) : Calls Try.prog 3 #[.int .i64 n] w fun e w' => e = .returned (.bool true) ∧ Below w.heap.size w w' := by
  obtain ⟨x, y, z, hL⟩ := lsV_form n
  obtain ⟨x2, y2, z2, hD⟩ := dsV_form n
  have C1 := Lib.hid (fun W => lengthSign_any n W)
  have C2 := Lib.hid (fun W => refLengthSign_any n W)
  have C3 := Lib.hid (fun W => distanceSign_any n W)
  have C4 := Lib.hid (fun W => refDistanceSign_any n W)
  rw [hL] at C1 C2
  rw [hD] at C3 C4
  clear hL hD
  go_enter Try.func3, Try.ntmps3
  go_wp2_with fail
  refine (fixed_any w).mono ?_; rintro e w1 ⟨rfl, hb1⟩; have B1 := Lib.hid hb1; clear hb1
  go_wp2_with fail
  refine (C1.out _).mono ?_; rintro e w2 ⟨rfl, hb2⟩; have B2 := Lib.hid (B1.out.trans (hb2.mono B1.out.size)); clear hb2
  go_wp2_with fail
  refine (C2.out _).mono ?_; rintro e w3 ⟨rfl, rfl⟩
  go_wp2_with fail
  refine (C3.out _).mono ?_; rintro e w4 ⟨rfl, hb4⟩; have B4 := Lib.hid (B2.out.trans (hb4.mono B2.out.size)); clear hb4
  go_wp2_with fail
  refine (C4.out _).mono ?_; rintro e w5 ⟨rfl, rfl⟩
  go_wp2_with fail
  go_ret
  exact ⟨by simp, B4.out⟩
end Go.Proofs.Ytnnpiblnjflceaa
