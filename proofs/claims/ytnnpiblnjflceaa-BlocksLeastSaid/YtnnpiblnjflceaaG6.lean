/-
  Fixed and FixedBits of no tokens, Stored of a nil writer. Conditions: each theorem names its own.
-/
import Derived.Test.YtnnpiblnjflceaaG5
namespace Go.Proofs.Ytnnpiblnjflceaa
open Go.RowKit
set_option maxRecDepth 100000

theorem seen59 (w : World) (C : Array Value) : Whole ((w.alloc (.cells Try.zeroCells59 59)).setRow w.heap.size C) w.heap.size 59 C := (Whole.new w 59 Try.zeroCells59).setRow C

set_option maxHeartbeats 2000000 in
theorem written_nil (B g : Nat) (sv : Value) (bits : List Bool) (hb : bits.length ≤ 800000) (last : Bool) (w : World) (hw : WriterAt w B g sv bits) :
    Calls Try.prog 33 #[.pointer (some ⟨g, 0, none⟩), .slice none 0 0, .bool last, .func (.func 34) #[] #[]] w fun e w' => e = .returned (.int .i64 0) ∧ PutPost w B g sv (bits ++ headB 1 last ++ wb ((List.range 288).map fixS) 256) w' := by
  have HI := Lib.hid (show (Try.prog.info? 59).map (·.size) = some (rz 317 cnt0).size by rw [rz_size]; exact (zero_of_info row59).2)
  have hzs : Hid (Try.zeroCells59.size = (rz 317 cnt0).size) := Lib.hid (by rw [rz_size]; kernel_rfl)
  have hone := Lib.hid (rz_one 317 cnt0)
  have CF := Lib.hid (fun W => fixedBlock_any cnt0 W)
  have CN := Lib.hid (fun W => counted_nil W)
  have HW := Lib.hid hw; clear hw
  obtain ⟨R, hR⟩ : ∃ R, rz 317 cnt0 = R := ⟨_, rfl⟩
  rw [hR] at HI hzs hone CN CF
  have HRR := Lib.hid hR; clear hR
  go_enter Try.func33, Try.ntmps33
  go_wp2_with fail
  refine (CN.out _).mono ?_
  rintro e w1 ⟨rfl, hb1⟩
  have B1 := Lib.hid hb1; clear hb1
  have W1 := Lib.hid (heap_alloc_new w1 (.cells Try.zeroCells59 59))
  have W2 := Lib.hid (seen59 w1 R)
  have B2 : Hid (Below w1.heap.size w1 ((w1.alloc (.cells Try.zeroCells59 59)).setRow w1.heap.size R)) := Lib.hid (below_setRow ((Below.refl _ _).alloc (Nat.le_refl _) _) _ (Nat.le_refl _))
  go_wp2_with (first
    | (refine wpList_store_row rfl 59 (.tmp 9) (.tmp 16) rfl w1.heap.size R rfl rfl 59 Try.zeroCells59 W1.out HI.out hzs.out hone.out ?_)
    | (refine wpList_load_row rfl 59 (.tmp 9) rfl w1.heap.size rfl 59 R (0, 0) _ W2.out Try.underlying59 rfl HI.out ?_))
  generalize (w1.alloc (.cells Try.zeroCells59 59)).setRow w1.heap.size R = X at *
  have B3 := Lib.hid (B1.out.trans (B2.out.mono B1.out.size))
  refine (CF.out X).mono ?_
  rintro e w2 ⟨g1, g2, rfl, hA, hB, _, _, hb3⟩
  have B4 := Lib.hid (B3.out.trans (hb3.mono B3.out.size))
  have CWr := Lib.hid (write_nil cnt0 (some ⟨g1, 0, none⟩) 288 288 (some ⟨g2, 0, none⟩) 32 32 ((List.range 288).map fixS) ((List.range 32).map fun _ => (5 : Int)) (by simp) (by simp) (by omega) (by omega) kind_fix1 kind_fix2 (by omega) len_fix B g sv bits hb last w2 (HW.out.below B4.out) (lens_whole hA (by decide) (by decide)) (lens_whole hB (by decide) (by decide)))
  clear hA hB hb3
  go_wp2_with fail
  refine CWr.out.mono ?_
  rintro e w3 ⟨rfl, sv3, q1, q2, q3⟩
  have PP : Hid (PutPost w B g sv (bits ++ headB 1 last ++ wb ((List.range 288).map fixS) 256) w3) := Lib.hid ⟨sv3, q1, (Only.of_below B4.out (Foot g sv)).trans q2, fun k hk => (q3 k hk).imp id (fun h => Nat.le_trans B4.out.size h)⟩
  clear q1 q2 q3
  go_wp2_with fail
  go_ret
  exact ⟨rfl, PP.out⟩

theorem fixed_nil (B g : Nat) (sv : Value) (bits : List Bool) (hb : bits.length ≤ 800000) (last : Bool) (w : World) (hw : WriterAt w B g sv bits) :
    Calls Try.prog 15 #[.pointer (some ⟨g, 0, none⟩), .slice none 0 0, .bool last] w fun e w' => e = .returned (.int .i64 0) ∧ PutPost w B g sv (bits ++ headB 1 last ++ wb ((List.range 288).map fixS) 256) w' := by
  have C := Lib.hid (written_nil B g sv bits hb last w hw)
  clear hw
  go_enter Try.func15, Try.ntmps15
  go_wp2_with fail
  refine C.out.mono ?_
  rintro e w1 ⟨rfl, p⟩
  have PP := Lib.hid p; clear p
  go_wp2_with fail
  go_ret
  exact ⟨rfl, PP.out⟩

set_option maxHeartbeats 2000000 in
theorem bitsOf_nil (w : World) : Calls Try.prog 40 #[.slice none 0 0, .func (.func 34) #[] #[]] w (Gives w (.int .i64 10)) := by
  have HI := Lib.hid (show (Try.prog.info? 59).map (·.size) = some (rz 317 cnt0).size by rw [rz_size]; exact (zero_of_info row59).2)
  have hzs : Hid (Try.zeroCells59.size = (rz 317 cnt0).size) := Lib.hid (by rw [rz_size]; kernel_rfl)
  have hone := Lib.hid (rz_one 317 cnt0)
  have CF := Lib.hid (fun W => fixedBlock_any cnt0 W)
  have CN := Lib.hid (fun W => counted_nil W)
  obtain ⟨R, hR⟩ : ∃ R, rz 317 cnt0 = R := ⟨_, rfl⟩
  rw [hR] at HI hzs hone CN CF
  clear hR
  go_enter Try.func40, Try.ntmps40
  go_wp2_with fail
  refine (CN.out _).mono ?_
  rintro e w1 ⟨rfl, hb1⟩
  have B1 := Lib.hid hb1; clear hb1
  have W1 := Lib.hid (heap_alloc_new w1 (.cells Try.zeroCells59 59))
  have W2 := Lib.hid (seen59 w1 R)
  have B2 : Hid (Below w1.heap.size w1 ((w1.alloc (.cells Try.zeroCells59 59)).setRow w1.heap.size R)) := Lib.hid (below_setRow ((Below.refl _ _).alloc (Nat.le_refl _) _) _ (Nat.le_refl _))
  go_wp2_with (first
    | (refine wpList_store_row rfl 59 (.tmp 5) (.tmp 10) rfl w1.heap.size R rfl rfl 59 Try.zeroCells59 W1.out HI.out hzs.out hone.out ?_)
    | (refine wpList_load_row rfl 59 (.tmp 5) rfl w1.heap.size rfl 59 R (0, 0) _ W2.out Try.underlying59 rfl HI.out ?_))
  generalize (w1.alloc (.cells Try.zeroCells59 59)).setRow w1.heap.size R = X at *
  have B3 := Lib.hid (B1.out.trans (B2.out.mono B1.out.size))
  refine (CF.out X).mono ?_
  rintro e w2 ⟨g1, g2, rfl, hA, hB, _, _, hb3⟩
  have B4 := Lib.hid (B3.out.trans (hb3.mono B3.out.size))
  have CB := Lib.hid (bits_fixed cnt0 cnt0_le (some ⟨g1, 0, none⟩) 288 288 (some ⟨g2, 0, none⟩) 32 32 ((List.range 288).map fixS) ((List.range 32).map fun _ => (5 : Int)) (by simp) (by simp) (by omega) (by omega) (by intro x hx; obtain ⟨i, _, rfl⟩ := List.mem_map.1 hx; exact fixS_le i) (by intro x hx; obtain ⟨i, _, rfl⟩ := List.mem_map.1 hx; omega) w2 (lens_whole hA (by decide) (by decide)) (lens_whole hB (by decide) (by decide)) 10 (by rw [cost_fix1, cost_fix2]; rfl))
  clear hA hB hb3
  go_wp2_with fail
  refine CB.out.mono ?_
  rintro e w3 ⟨rfl, hb4⟩
  have B5 := Lib.hid (B4.out.trans (hb4.mono B4.out.size)); clear hb4
  go_wp2_with fail
  go_ret
  exact ⟨rfl, B5.out⟩

theorem fixedBits_nil (w : World) : Calls Try.prog 20 #[.slice none 0 0] w (Gives w (.int .i64 10)) := by
  have C := Lib.hid (bitsOf_nil w)
  go_enter Try.func20, Try.ntmps20
  go_wp2_with fail
  refine C.out.mono ?_
  rintro e w1 ⟨rfl, p⟩
  have PP := Lib.hid p; clear p
  go_wp2_with fail
  go_ret
  exact ⟨rfl, PP.out⟩

theorem stored_nil (A : Option Addr) (n c : Nat) (last : Bool) (w : World) : Calls Try.prog 14 #[.pointer none, .slice A n c, .bool last] w fun e w' => e = .returned (.int .i64 1) ∧ w = w' := by
  go_enter Try.func14, Try.ntmps14
  go_wp2_with fail
  go_ret
  exact ⟨rfl, rfl⟩
end Go.Proofs.Ytnnpiblnjflceaa
