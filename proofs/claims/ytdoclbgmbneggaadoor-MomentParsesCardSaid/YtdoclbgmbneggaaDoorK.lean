/-
  The document's two signs of a number. Conditions: a number below 100.
-/
import Derived.Test.YtdoclbgmbneggaaDoorJ
import Derived.Laws.BytesArg
namespace Go.Proofs.YtdoclbgmbneggaaDoor
open Go.RowKit
set_option maxRecDepth 100000

/-- Two signs. -/
def tw (n : Nat) : ByteArray := strOfNums [48 + ((n / 10 : Nat) : Int), 48 + ((n % 10 : Nat) : Int)]

set_option maxHeartbeats 1000000 in
theorem two_any (n : Nat) (hn : n < 100) (w : World) : Calls Tryd.prog 25 #[.int .i64 n] w (Gives w (.string (tw n))) := by
  obtain ⟨a, ha⟩ : ∃ a, n / 10 = a := ⟨_, rfl⟩
  obtain ⟨b, hb⟩ : ∃ a, n % 10 = a := ⟨_, rfl⟩
  have h1 : (n : Int).tdiv 10 = (a : Int) := by rw [Int.tdiv_eq_ediv_of_nonneg (by omega)]; omega
  have h2 : (a : Int).tmod 10 = (a : Int) := by rw [Int.tmod_eq_emod_of_nonneg (by omega)]; omega
  have h3 : (n : Int).tmod 10 = (b : Int) := by rw [Int.tmod_eq_emod_of_nonneg (by omega)]; omega
  have la : a < 10 := by omega
  have lb : b < 10 := by omega
  have x1 : wrap64 (a : Int) = a := wrapN a (by omega)
  have u1 : IntKind.u8.wrap (48 + (a : Int)) = ((48 + a : Nat) : Int) := by rw [IntWalk.u8_in _ (by omega)]; simp
  have u2 : IntKind.u8.wrap (48 + (b : Int)) = ((48 + b : Nat) : Int) := by rw [IntWalk.u8_in _ (by omega)]; simp
  unfold tw
  rw [ha, hb]
  have cv : (convert 56 9 (.slice (some ⟨w.heap.size, 0, none⟩) 2 2)).run Tryd.prog (w.alloc (.cells #[.int .u8 (48 + (a : Int)), .int .u8 (48 + (b : Int))] 5)) = .ok (.string (strOfNums [48 + (a : Int), 48 + (b : Int)])) (w.alloc (.cells #[.int .u8 (48 + (a : Int)), .int .u8 (48 + (b : Int))] 5)) := by
    refine run_convert_bytes_arg _ 56 5 Tryd.underlying56 Tryd.underlying5 w.heap.size 0 2 2 [48 + (a : Int), 48 + (b : Int)] rfl (fun i hi => ?_) 9 Tryd.underlying9
    have hW := Whole.new w 5 #[.int .u8 (48 + (a : Int)), .int .u8 (48 + (b : Int))]
    match i, hi with
    | 0, _ => exact hW.cell 0
    | 1, _ => exact hW.cell 1
  have B1 := Lib.hid ((Below.refl w.heap.size w).alloc (Nat.le_refl _) (.cells #[.int .u8 (48 + (a : Int)), .int .u8 (48 + (b : Int))] 5))
  generalize strOfNums [48 + (a : Int), 48 + (b : Int)] = S at cv ⊢
  clear ha hb hn
  go_enter Tryd.func25, Tryd.ntmps25
  go_wp2
  go_ret
  exact ⟨rfl, B1.out⟩
end Go.Proofs.YtdoclbgmbneggaaDoor
