/-
  What is no token is refused: Fixed, Dynamic, Write, FixedBits, DynamicBits; nil writers. Conditions: each theorem names its own.
-/
import Derived.Test.YtnnpiblnjflceaaCT
import Derived.Test.YtnnpiblnjflceaaG6
namespace Go.Proofs.Ytnnpiblnjflceaa
open Go.RowKit
set_option maxRecDepth 100000

theorem written_bad (g : Nat) (last : Bool) (K : FuncId) (A : Option Addr) (n c B : Nat) (l : List Tok) (hb : ∀ t ∈ l, t.lit < 256) (hn : n ≤ 1000) (hbad : l.all rightT = false) (w : World) (hs : Seen w B 3 A n c (tvs l)) (hB : B ≤ w.heap.size) :
    Calls Try.prog 33 #[.pointer (some ⟨g, 0, none⟩), .slice A n c, .bool last, .func (.func K) #[] #[]] w (Gives w (.int .i64 5)) := by
  have CN := Lib.hid (tcounted_any A n c B l hb hn w hs hB)
  have HBAD := Lib.hid hbad
  have hzs : Hid (Try.zeroCells59.size = (rz 317 fun _ => 0).size) := Lib.hid (by rw [rz_size]; kernel_rfl)
  have HI := Lib.hid (show (Try.prog.info? 59).map (·.size) = some (rz 317 fun _ => 0).size by rw [rz_size]; exact (zero_of_info row59).2)
  have hone := Lib.hid (rz_one 317 (fun _ => 0))
  obtain ⟨R, hR⟩ : ∃ R, (rz 317 fun _ => 0) = R := ⟨_, rfl⟩
  rw [hR] at hzs HI hone
  have HRR := Lib.hid hR
  clear hR hs hb hbad
  go_enter Try.func33, Try.ntmps33
  go_wp2_with fail
  refine CN.out.mono ?_
  rintro e w1 (⟨hall, _⟩ | ⟨_, rfl, hb1⟩)
  · rw [HBAD.out] at hall; cases hall
  · rw [HRR.out]
    have B1 := Lib.hid hb1; clear hb1
    have W1 := Lib.hid (heap_alloc_new w1 (.cells Try.zeroCells59 59))
    have B2 : Hid (Below w.heap.size w ((w1.alloc (.cells Try.zeroCells59 59)).setRow w1.heap.size R)) := Lib.hid (below_setRow (B1.out.alloc B1.out.size _) _ B1.out.size)
    go_wp2_with (refine wpList_store_row rfl 59 (.tmp 9) (.tmp 16) rfl w1.heap.size R rfl rfl 59 Try.zeroCells59 W1.out HI.out hzs.out hone.out ?_)
    go_ret
    exact ⟨rfl, B2.out⟩

theorem bitsOf_bad (K : FuncId) (A : Option Addr) (n c B : Nat) (l : List Tok) (hb : ∀ t ∈ l, t.lit < 256) (hn : n ≤ 1000) (hbad : l.all rightT = false) (w : World) (hs : Seen w B 3 A n c (tvs l)) (hB : B ≤ w.heap.size) :
    Calls Try.prog 40 #[.slice A n c, .func (.func K) #[] #[]] w (Gives w (.int .i64 0)) := by
  have CN := Lib.hid (tcounted_any A n c B l hb hn w hs hB)
  have HBAD := Lib.hid hbad
  have hzs : Hid (Try.zeroCells59.size = (rz 317 fun _ => 0).size) := Lib.hid (by rw [rz_size]; kernel_rfl)
  have HI := Lib.hid (show (Try.prog.info? 59).map (·.size) = some (rz 317 fun _ => 0).size by rw [rz_size]; exact (zero_of_info row59).2)
  have hone := Lib.hid (rz_one 317 (fun _ => 0))
  obtain ⟨R, hR⟩ : ∃ R, (rz 317 fun _ => 0) = R := ⟨_, rfl⟩
  rw [hR] at hzs HI hone
  have HRR := Lib.hid hR
  clear hR hs hb hbad
  go_enter Try.func40, Try.ntmps40
  go_wp2_with fail
  refine CN.out.mono ?_
  rintro e w1 (⟨hall, _⟩ | ⟨_, rfl, hb1⟩)
  · rw [HBAD.out] at hall; cases hall
  · rw [HRR.out]
    have B1 := Lib.hid hb1; clear hb1
    have W1 := Lib.hid (heap_alloc_new w1 (.cells Try.zeroCells59 59))
    have B2 : Hid (Below w.heap.size w ((w1.alloc (.cells Try.zeroCells59 59)).setRow w1.heap.size R)) := Lib.hid (below_setRow (B1.out.alloc B1.out.size _) _ B1.out.size)
    go_wp2_with (refine wpList_store_row rfl 59 (.tmp 5) (.tmp 10) rfl w1.heap.size R rfl rfl 59 Try.zeroCells59 W1.out HI.out hzs.out hone.out ?_)
    go_ret
    exact ⟨rfl, B2.out⟩

theorem write_bad (g : Nat) (last : Bool) (v2 : Value) (A : Option Addr) (n c B : Nat) (l : List Tok) (hb : ∀ t ∈ l, t.lit < 256) (hn : n ≤ 1000) (hbad : l.all rightT = false) (w : World) (hs : Seen w B 3 A n c (tvs l)) (hB : B ≤ w.heap.size) :
    Calls Try.prog 17 #[.pointer (some ⟨g, 0, none⟩), .slice A n c, v2, .bool last] w (Gives w (.int .i64 5)) := by
  have CN := Lib.hid (tcounted_any A n c B l hb hn w hs hB)
  have HBAD := Lib.hid hbad
  have hzs : Hid (Try.zeroCells59.size = (rz 317 fun _ => 0).size) := Lib.hid (by rw [rz_size]; kernel_rfl)
  have HI := Lib.hid (show (Try.prog.info? 59).map (·.size) = some (rz 317 fun _ => 0).size by rw [rz_size]; exact (zero_of_info row59).2)
  have hone := Lib.hid (rz_one 317 (fun _ => 0))
  obtain ⟨R, hR⟩ : ∃ R, (rz 317 fun _ => 0) = R := ⟨_, rfl⟩
  rw [hR] at hzs HI hone
  have HRR := Lib.hid hR
  clear hR hs hb hbad
  go_enter Try.func17, Try.ntmps17
  go_wp2_with fail
  refine CN.out.mono ?_
  rintro e w1 (⟨hall, _⟩ | ⟨_, rfl, hb1⟩)
  · rw [HBAD.out] at hall; cases hall
  · rw [HRR.out]
    have B1 := Lib.hid hb1; clear hb1
    have W1 := Lib.hid (heap_alloc_new w1 (.cells Try.zeroCells59 59))
    have B2 : Hid (Below w.heap.size w ((w1.alloc (.cells Try.zeroCells59 59)).setRow w1.heap.size R)) := Lib.hid (below_setRow (B1.out.alloc B1.out.size _) _ B1.out.size)
    go_wp2_with (refine wpList_store_row rfl 59 (.tmp 9) (.tmp 20) rfl w1.heap.size R rfl rfl 59 Try.zeroCells59 W1.out HI.out hzs.out hone.out ?_)
    go_ret
    exact ⟨rfl, B2.out⟩

theorem fixed_bad (g : Nat) (last : Bool) (A : Option Addr) (n c B : Nat) (l : List Tok) (hb : ∀ t ∈ l, t.lit < 256) (hn : n ≤ 1000) (hbad : l.all rightT = false) (w : World) (hs : Seen w B 3 A n c (tvs l)) (hB : B ≤ w.heap.size) :
    Calls Try.prog 15 #[.pointer (some ⟨g, 0, none⟩), .slice A n c, .bool last] w (Gives w (.int .i64 5)) := by
  have C := Lib.hid (written_bad g last 34 A n c B l hb hn hbad w hs hB)
  clear hs hb hbad
  go_enter Try.func15, Try.ntmps15
  go_wp2_with fail
  refine C.out.mono ?_
  rintro e w1 ⟨rfl, hb1⟩
  have B1 := Lib.hid hb1; clear hb1
  go_wp2_with fail
  go_ret
  exact ⟨rfl, B1.out⟩

theorem dynamic_bad (g : Nat) (last : Bool) (A : Option Addr) (n c B : Nat) (l : List Tok) (hb : ∀ t ∈ l, t.lit < 256) (hn : n ≤ 1000) (hbad : l.all rightT = false) (w : World) (hs : Seen w B 3 A n c (tvs l)) (hB : B ≤ w.heap.size) :
    Calls Try.prog 16 #[.pointer (some ⟨g, 0, none⟩), .slice A n c, .bool last] w (Gives w (.int .i64 5)) := by
  have C := Lib.hid (written_bad g last 35 A n c B l hb hn hbad w hs hB)
  clear hs hb hbad
  go_enter Try.func16, Try.ntmps16
  go_wp2_with fail
  refine C.out.mono ?_
  rintro e w1 ⟨rfl, hb1⟩
  have B1 := Lib.hid hb1; clear hb1
  go_wp2_with fail
  go_ret
  exact ⟨rfl, B1.out⟩

theorem fixedBits_bad (A : Option Addr) (n c B : Nat) (l : List Tok) (hb : ∀ t ∈ l, t.lit < 256) (hn : n ≤ 1000) (hbad : l.all rightT = false) (w : World) (hs : Seen w B 3 A n c (tvs l)) (hB : B ≤ w.heap.size) :
    Calls Try.prog 20 #[.slice A n c] w (Gives w (.int .i64 0)) := by
  have C := Lib.hid (bitsOf_bad  34 A n c B l hb hn hbad w hs hB)
  clear hs hb hbad
  go_enter Try.func20, Try.ntmps20
  go_wp2_with fail
  refine C.out.mono ?_
  rintro e w1 ⟨rfl, hb1⟩
  have B1 := Lib.hid hb1; clear hb1
  go_wp2_with fail
  go_ret
  exact ⟨rfl, B1.out⟩

theorem dynamicBits_bad (A : Option Addr) (n c B : Nat) (l : List Tok) (hb : ∀ t ∈ l, t.lit < 256) (hn : n ≤ 1000) (hbad : l.all rightT = false) (w : World) (hs : Seen w B 3 A n c (tvs l)) (hB : B ≤ w.heap.size) :
    Calls Try.prog 21 #[.slice A n c] w (Gives w (.int .i64 0)) := by
  have C := Lib.hid (bitsOf_bad  35 A n c B l hb hn hbad w hs hB)
  clear hs hb hbad
  go_enter Try.func21, Try.ntmps21
  go_wp2_with fail
  refine C.out.mono ?_
  rintro e w1 ⟨rfl, hb1⟩
  have B1 := Lib.hid hb1; clear hb1
  go_wp2_with fail
  go_ret
  exact ⟨rfl, B1.out⟩

theorem written_nil0 (A : Option Addr) (n c : Nat) (last : Bool) (K : FuncId) (w : World) : Calls Try.prog 33 #[.pointer none, .slice A n c, .bool last, .func (.func K) #[] #[]] w fun e w' => e = .returned (.int .i64 1) ∧ w = w' := by
  go_enter Try.func33, Try.ntmps33
  go_wp2_with fail
  go_ret
  exact ⟨rfl, rfl⟩

theorem write_nil0 (A : Option Addr) (n c : Nat) (last : Bool) (v2 : Value) (w : World) : Calls Try.prog 17 #[.pointer none, .slice A n c, v2, .bool last] w fun e w' => e = .returned (.int .i64 1) ∧ w = w' := by
  go_enter Try.func17, Try.ntmps17
  go_wp2_with fail
  go_ret
  exact ⟨rfl, rfl⟩

theorem fixed_nil0 (A : Option Addr) (n c : Nat) (last : Bool) (w : World) : Calls Try.prog 15 #[.pointer none, .slice A n c, .bool last] w fun e w' => e = .returned (.int .i64 1) ∧ w = w' := by
  have C := Lib.hid (written_nil0 A n c last 34 w)
  go_enter Try.func15, Try.ntmps15
  go_wp2_with fail
  refine C.out.mono ?_
  rintro e w1 ⟨rfl, rfl⟩
  go_wp2_with fail
  go_ret
  exact ⟨rfl, rfl⟩

theorem dynamic_nil0 (A : Option Addr) (n c : Nat) (last : Bool) (w : World) : Calls Try.prog 16 #[.pointer none, .slice A n c, .bool last] w fun e w' => e = .returned (.int .i64 1) ∧ w = w' := by
  have C := Lib.hid (written_nil0 A n c last 35 w)
  go_enter Try.func16, Try.ntmps16
  go_wp2_with fail
  refine C.out.mono ?_
  rintro e w1 ⟨rfl, rfl⟩
  go_wp2_with fail
  go_ret
  exact ⟨rfl, rfl⟩

end Go.Proofs.Ytnnpiblnjflceaa
