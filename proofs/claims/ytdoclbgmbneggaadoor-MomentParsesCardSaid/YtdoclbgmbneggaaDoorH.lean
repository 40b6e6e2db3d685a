/-
  The statement's list of a civil moment. Conditions: none.
-/
import Derived.Test.YtdoclbgmbneggaaDoorG
namespace Go.Proofs.YtdoclbgmbneggaaDoor
open Go.RowKit
set_option maxRecDepth 100000

theorem six_one (y mo d h mi s : Int) : (six y mo d h mi s).all (·.oneCell') = true := by simp [six, Value.oneCell']
set_option maxHeartbeats 1000000 in
theorem list_any (y mo d h mi s : Int) (w : World) : Calls Tryd.prog 9 #[.agg #[.int .i64 y, .int .i64 mo, .int .i64 d, .int .i64 h, .int .i64 mi, .int .i64 s]] w (Gives w (.agg #[.int .i64 y, .int .i64 mo, .int .i64 d, .int .i64 h, .int .i64 mi, .int .i64 s])) := by
  have B1 := Lib.hid ((Below.refl w.heap.size w).alloc (Nat.le_refl _) (.cells #[.int .i64 y, .int .i64 mo, .int .i64 d, .int .i64 h, .int .i64 mi, .int .i64 s] 30))
  go_enter Tryd.func9, Tryd.ntmps9
  go_wp2_with fail
  have hW : Whole (((w.alloc (.cells #[.int .i64 y, .int .i64 mo, .int .i64 d, .int .i64 h, .int .i64 mi, .int .i64 s] 30)).alloc (.cells (six y mo d h mi s) 32))) (w.heap.size + 1) 32 (six y mo d h mi s) := by
    have hz := Whole.new (w.alloc (.cells #[.int .i64 y, .int .i64 mo, .int .i64 d, .int .i64 h, .int .i64 mi, .int .i64 s] 30)) 32 (six y mo d h mi s)
    rw [show (w.alloc (.cells #[.int .i64 y, .int .i64 mo, .int .i64 d, .int .i64 h, .int .i64 mi, .int .i64 s] 30)).heap.size = w.heap.size + 1 by simp] at hz
    exact hz
  refine bodyPost_ret (v := .agg (six y mo d h mi s)) (results_cell_row (p := 2) (ty := 32) rfl _ _ (w.heap.size + 1) 32 (six y mo d h mi s) (0, 0) _ rfl hW Tryd.underlying32 rfl (six_size32 y mo d h mi s)) rfl ?_
  exact ⟨rfl, B1.out.alloc B1.out.size _⟩
end Go.Proofs.YtdoclbgmbneggaaDoor
