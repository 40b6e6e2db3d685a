/-
  Contracts of blocks of no tokens: counted, write, bits, written, bitsOf; Fixed and FixedBits of none. Conditions: each theorem names its own.
-/
import Derived.Test.YtnnpiblnjflceaaG2
import Derived.Laws.ResultCell
namespace Go.Proofs.Ytnnpiblnjflceaa
open Go.RowKit
set_option maxRecDepth 100000

theorem results_row_tmp {P : Program} {fn : Func} {p u : Tmp} {ty : TypeId} (h : fn.results = #[.cell p ty, .tmp u]) (tmps : Array Value) (w : World) (g : Nat) (t : TypeId) (cs : Array Value) (fr : Nat × Nat) (d : TypeDesc)
    (hp : tmps.getD p undef = .pointer (some ⟨g, 0, none⟩)) (hg : w.heap[g]? = some (.cells cs t fr))
    (hu : P.underlying ty = some d) (hd : (match d with | .struct _ | .array _ _ => true | _ => false) = true) (hi : (P.info? ty).map (·.size) = some cs.size) :
    (results fn tmps).run P w = .ok (.tuple #[.agg cs, tmps.getD u undef]) w := by
  rw [results_cell_tmp h, hp]
  simp [asAddr, run_loadVar_row w g t ty cs fr d hg hu hd hi, Result.andThen]

/-- How often signs come if there is no token. -/
def cnt0 : Nat → Int := fun i => if i = 256 then 1 else 0

set_option maxHeartbeats 1000000 in
theorem counted_nil (w : World) : Calls Try.prog 36 #[.slice none 0 0] w (Gives w (.tuple #[.agg (rz 317 cnt0), .bool true])) := by
  have hzz : Hid (Try.zeroCells59 = rz 317 (fun _ => 0)) := Lib.hid (by rw [← rz_const]; kernel_rfl)
  have HI59 := Lib.hid (show (Try.prog.info? 59).map (·.size) = some Try.zeroCells59.size by rw [hzz.out, rz_size]; exact (zero_of_info row59).2)
  have HI59' := Lib.hid (show (Try.prog.info? 59).map (·.size) = some (rz 317 cnt0).size by rw [rz_size]; exact (zero_of_info row59).2)
  have HN := heap_alloc_new (w.alloc (.cells Try.zeroCells59 59)) (.cells Try.zeroCells59 59)
  simp only [World.size_alloc] at HN
  have W1 : Whole (((w.alloc (.cells Try.zeroCells59 59)).alloc (.cells Try.zeroCells59 59)).setRow (w.heap.size + 1) Try.zeroCells59) (w.heap.size + 1) 59 Try.zeroCells59 := Whole.setRow (cs := Try.zeroCells59) (by simpa [Whole] using HN) _
  have W0 : Hid (Whole (((w.alloc (.cells Try.zeroCells59 59)).alloc (.cells Try.zeroCells59 59)).setRow (w.heap.size + 1) Try.zeroCells59) w.heap.size 59 Try.zeroCells59) := Lib.hid (((Whole.new w 59 _).alloc _).setRow_far _ (by omega))
  have hold : (((w.alloc (.cells Try.zeroCells59 59)).alloc (.cells Try.zeroCells59 59)).setRow (w.heap.size + 1) Try.zeroCells59).cell? ⟨w.heap.size + 1, 256, none⟩ = some (.int .i64 0) := (W1.cell 256).trans (by rw [hzz.out, rz_get _ _ _ (by omega)])
  have hfz := W1.frozen 256
  have W1h := Lib.hid W1; clear W1
  have H1 := Lib.hid HN; clear HN
  have B1 : Hid (Below w.heap.size w (((w.alloc (.cells Try.zeroCells59 59)).alloc (.cells Try.zeroCells59 59)).setRow (w.heap.size + 1) Try.zeroCells59)) := Lib.hid (below_setRow (((Below.refl _ _).alloc (Nat.le_refl _) _).alloc (by simp) _) _ (by omega))
  have hone : Hid (Try.zeroCells59.all (·.oneCell') = true) := Lib.hid (by rw [hzz.out]; exact rz_one _ _)
  go_enter Try.func36, Try.ntmps36
  go_wp2_with (refine wpList_store_row rfl 59 (.tmp 4) (.tmp 8) rfl (w.heap.size + 1) Try.zeroCells59 rfl rfl 59 Try.zeroCells59 H1.out HI59.out rfl hone.out ?_)
  clear hold hfz H1 HI59
  generalize ((w.alloc (.cells Try.zeroCells59 59)).alloc (.cells Try.zeroCells59 59)).setRow (w.heap.size + 1) Try.zeroCells59 = X at *
  have W2 : Hid (Whole (X.setCell ⟨w.heap.size + 1, 256, none⟩ (.int .i64 1)) (w.heap.size + 1) 59 (rz 317 cnt0)) := Lib.hid (by
    have h := W1h.out.put 256 (.int .i64 1)
    rw [hzz.out, rz_set] at h
    exact h)
  have W3 : Hid (Whole (X.setCell ⟨w.heap.size + 1, 256, none⟩ (.int .i64 1)) w.heap.size 59 Try.zeroCells59) := Lib.hid (W0.out.far (by simp) _)
  have B2 : Hid (Below w.heap.size w (X.setCell ⟨w.heap.size + 1, 256, none⟩ (.int .i64 1))) := Lib.hid (B1.out.setCell (by simp) _)
  clear W1h W0 B1
  generalize X.setCell ⟨w.heap.size + 1, 256, none⟩ (.int .i64 1) = Y at *
  obtain ⟨C, hC⟩ : ∃ C, rz 317 cnt0 = C := ⟨_, rfl⟩
  have hcs : Hid (Try.zeroCells59.size = C.size) := Lib.hid (by rw [hzz.out, ← hC, rz_size, rz_size])
  have hc1 : Hid (C.all (·.oneCell') = true) := Lib.hid (by rw [← hC]; exact rz_one _ _)
  have HCC := Lib.hid hC
  rw [hC] at HI59' W2
  clear hzz hC
  go_loopw [13] (fun i wr => i = .int .i64 0 ∧ wr = Y) (fun _ _ => 0)
  case atStart => exact ⟨rfl, rfl⟩
  case round =>
    obtain ⟨rfl, rfl⟩ := hrel
    go_wp2_with (first
      | (refine wpList_load_row rfl 59 (.tmp 4) rfl (w.heap.size + 1) rfl 59 C (0, 0) _ W2.out Try.underlying59 rfl HI59'.out ?_)
      | (refine wpList_store_row rfl 59 (.tmp 2) (.tmp 58) rfl w.heap.size C rfl rfl 59 Try.zeroCells59 W3.out HI59'.out hcs.out hc1.out ?_))
    refine bodyPost_ret (v := .tuple #[.agg C, .bool true]) (results_row_tmp (p := 2) (u := 3) (ty := 59) rfl _ _ w.heap.size 59 C (0, 0) _ rfl (W3.out.setRow _) Try.underlying59 rfl HI59'.out) rfl ⟨by rw [HCC.out], below_setRow B2.out _ (Nat.le_refl _)⟩
end Go.Proofs.Ytnnpiblnjflceaa
