/-
  The walk of CursorPuts: it answers true, and changes nothing that was there. Conditions: the slice is read as told (Seen).
-/
import Derived.Test.YtgjpfmijijbjbaaC5
import Derived.Test.YtgjpfmijijbjbaaL1
import Derived.Deep.RegionWith
namespace Go.Proofs.Ytgjpfmijijbjbaa
open Go.RowKit

theorem puts_long (A : Option Addr) (n c : Nat) (hn : 500 < n) (hm : n ≤ 9223372036854775807) (v k : Int) (w : World) : Calls Try.prog 8 #[.slice A n c, .int .u64 v, .int .i64 k] w (LawPost w) := by
  go_enter Try.func8, Try.ntmps8
  go_wp2_with (go_at_call 28; refine (fixed2_yes _).mono ?_; rintro e w1 ⟨rfl, hb1⟩)
  go_ret
  exact ⟨rfl, hb1⟩

theorem row_of_block {w : World} {l : List Nat} {N : Nat} (hl : l.length = N) (hN : N ≤ 1000100) {e : Ending} {w' : World} (h : GivesBlock w l e w') : GivesRow w 5 1 N (bv l) e w' := by
  obtain ⟨g, rfl, hW, hg, hb⟩ := h
  subst hl
  exact ⟨_, rfl, own_of_whole hW (by simp) (by simp only [maxLen]; omega) hg, hb⟩
theorem big_row (A : Option Addr) (c B : Nat) (bs : List Nat) (w : World) (hs : Seen w B 1 A bs.length c (bv bs)) (hB : B ≤ w.heap.size) (hn : bs.length ≤ 1000000) (v : Nat) (k : Nat) (hk : k ≤ 8) (n : Int) (hw : (Wide n ∧ n = k) ∨ (¬ Wide n ∧ k = 0)) :
    Calls Try.prog 42 #[.slice A bs.length c, .int .u64 v, .int .i64 n] w (GivesRow w 5 1 (bs.length + k) (bv (bs ++ (leb v k).reverse))) :=
  (big_go A c B bs w hs hB hn v k hk n hw).mono fun _ _ h => row_of_block (by simp) (by omega) h
theorem little_row (A : Option Addr) (c B : Nat) (bs : List Nat) (w : World) (hs : Seen w B 1 A bs.length c (bv bs)) (hB : B ≤ w.heap.size) (hn : bs.length ≤ 1000000) (v : Nat) (k : Nat) (hk : k ≤ 8) (n : Int) (hw : (Wide n ∧ n = k) ∨ (¬ Wide n ∧ k = 0)) :
    Calls Try.prog 44 #[.slice A bs.length c, .int .u64 v, .int .i64 n] w (GivesRow w 5 1 (bs.length + k) (bv (bs ++ leb v k))) :=
  (little_go A c B bs w hs hB hn v k hk n hw).mono fun _ _ h => row_of_block (by simp) (by omega) h

set_option maxHeartbeats 16000000 in
theorem puts_short (A : Option Addr) (c : Nat) (bs : List Nat) (hn : bs.length ≤ 500) (v : Nat) (hv : v < 18446744073709551616) (k : Nat) (hk : k ≤ 8) (n : Int) (hw : (Wide n ∧ n = k) ∨ (¬ Wide n ∧ k = 0)) (w : World) (hs : Seen w w.heap.size 1 A bs.length c (bv bs)) :
    Calls Try.prog 8 #[.slice A bs.length c, .int .u64 v, .int .i64 n] w (LawPost w) := by
  have HS := Lib.hid hs; clear hs
  have HW := Lib.hid hw; clear hw
  have hd : decide ((500 : Int) < bs.length) = false := by simp; omega
  go_enter Try.func8, Try.ntmps8
  go_wp2_with fail
  refine (fixed2_yes _).mono ?_; rintro e w1 ⟨rfl, hb1⟩
  have cvb := conv_seen (HS.out.below hb1)
  go_wp2_with fail
  have B0 := Lib.hid hb1.drew
  have hq : bs.length ≤ 1000000 := by omega
  clear hb1 cvb hn hd
  go_region_with (first
    | (go_at_call 42; refine (big_row A c w.heap.size bs _ (HS.out.below (by first | exact B0.out | exact B43.out)) (Below.size (by first | exact B0.out | exact B43.out)) hq v k hk n HW.out).mono ?_; rintro e w42 ⟨v42, rfl, ho42, hb42⟩; obtain ⟨A42, c42, rfl, hc42, hs42⟩ := own_seen ho42; have cv42 := conv_seen hs42; have S42 := Lib.hid hs42; (first | (have B42 := Lib.hid (B0.out.trans (hb42.mono B0.out.size))) | (have B42 := Lib.hid (B43.out.trans (hb42.mono B43.out.size)); have cv431 := conv_seen (S43.out.below hb42))); clear hs42 hb42 ho42 hc42)
    | (go_at_call 43; refine (refBig_go A c w.heap.size bs _ (HS.out.below (by first | exact B0.out | exact B42.out)) (Below.size (by first | exact B0.out | exact B42.out)) hq v hv k hk n HW.out).mono ?_; rintro e w43 ⟨v43, rfl, ho43, hb43⟩; obtain ⟨A43, c43, rfl, hc43, hs43⟩ := own_seen ho43; have cv43 := conv_seen hs43; have S43 := Lib.hid hs43; (first | (have B43 := Lib.hid (B0.out.trans (hb43.mono B0.out.size))) | (have B43 := Lib.hid (B42.out.trans (hb43.mono B42.out.size)); have cv421 := conv_seen (S42.out.below hb43))); clear hs43 hb43 ho43 hc43)
    | (go_at_call 44; refine (little_row A c w.heap.size bs _ (HS.out.below (by first | exact B42.out | exact B43.out | exact B45.out)) (Below.size (by first | exact B42.out | exact B43.out | exact B45.out)) hq v k hk n HW.out).mono ?_; rintro e w44 ⟨v44, rfl, ho44, hb44⟩; obtain ⟨A44, c44, rfl, hc44, hs44⟩ := own_seen ho44; have cv44 := conv_seen hs44; have S44 := Lib.hid hs44; (first | (have B44 := Lib.hid (B42.out.trans (hb44.mono B42.out.size))) | (have B44 := Lib.hid (B43.out.trans (hb44.mono B43.out.size))) | (have B44 := Lib.hid (B45.out.trans (hb44.mono B45.out.size)); have cv451 := conv_seen (S45.out.below hb44))); have cvb44 := conv_seen (HS.out.below B44.out); clear hs44 hb44 ho44 hc44)
    | (go_at_call 45; refine (refLittle_go A c w.heap.size bs _ (HS.out.below (by first | exact B42.out | exact B43.out | exact B44.out)) (Below.size (by first | exact B42.out | exact B43.out | exact B44.out)) hq v hv k hk n HW.out).mono ?_; rintro e w45 ⟨v45, rfl, ho45, hb45⟩; obtain ⟨A45, c45, rfl, hc45, hs45⟩ := own_seen ho45; have cv45 := conv_seen hs45; have S45 := Lib.hid hs45; (first | (have B45 := Lib.hid (B42.out.trans (hb45.mono B42.out.size))) | (have B45 := Lib.hid (B43.out.trans (hb45.mono B43.out.size))) | (have B45 := Lib.hid (B44.out.trans (hb45.mono B44.out.size)); have cv441 := conv_seen (S44.out.below hb45))); have cvb45 := conv_seen (HS.out.below B45.out); clear hs45 hb45 ho45 hc45))
  all_goals
    go_wp2_with fail
    go_ret
    refine ⟨?_, ?_⟩
    · simp [Act.put]
    · first
      | exact B45.out
      | exact B44.out
end Go.Proofs.Ytgjpfmijijbjbaa
