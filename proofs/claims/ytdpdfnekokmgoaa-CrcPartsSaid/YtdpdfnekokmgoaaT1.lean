/-
  Contracts of crc: shifted, Table. Conditions: each theorem names the range of its arguments.
-/
import Derived.Test.YtdpdfnekokmgoaaV
import Derived.Test.YtdpdfnekokmgoaaY0
import Derived.Deep.WholeRow
namespace Go.Proofs.Ytdpdfnekokmgoaa
open Go.RowKit

theorem shifted_step (r : Nat) (h : r < 4294967296) : bits BinOp.xor IntKind.u32 ((r : Int) / 2) (3988292384 * bits BinOp.and IntKind.u32 (r : Int) 1 % 4294967296) = ((st r : Nat) : Int) := by
  rw [show (1 : Int) = ((1 : Nat) : Int) from rfl, u32_and_nat _ _ h (by omega), nat_mask1]
  have e : (3988292384 * ((r % 2 : Nat) : Int) % 4294967296) = ((poly * (r % 2) : Nat) : Int) := by unfold poly; omega
  rw [e, show ((r : Int) / 2) = ((r / 2 : Nat) : Int) by omega, u32_xor_nat _ _ (by omega) (by unfold poly; omega)]
  rfl

theorem shifted_any (r : Nat) (h : r < 4294967296) (w : World) :
    Calls Try.prog 22 #[.int .u32 r] w fun e w' => e = .returned (.int .u32 (sts 8 r)) ∧ w = w' := by
  go_enter Try.func22, Try.ntmps22
  go_wp2
  go_loop [0, 3] (fun x i => ∃ k : Nat, k ≤ 8 ∧ i = .int .i64 k ∧ x = .int .u32 (sts k r : Nat)) (fun _ i => 8 - (intOf i).toNat)
  case atStart => exact ⟨0, Nat.zero_le _, rfl, rfl⟩
  case round =>
    obtain ⟨k, hk, rfl, rfl⟩ := hrel
    by_cases hlt : k < 8
    · have h1 := sts_lt k r h
      have e2 := Lib.hid (sts_succ k r)
      generalize sts k r = x at *
      have e1 := Lib.hid (shifted_step x h1)
      go_wp2
      go_round
      case rel => exact ⟨k + 1, by omega, by go_num, by rw [e2.out, ← e1.out]⟩
      case measure => simp [intOf]; omega
    · obtain rfl : k = 8 := by omega
      go_wp2
      go_ret
      exact ⟨rfl, rfl⟩

theorem row28 : (Try.prog.info? 28).map (fun i => (i.zero, i.size)) = some (some (.agg (Array.replicate 256 (.int .u32 0))), 256) := by kernel_rfl
theorem size28 : (Try.prog.info? 28).map (·.size) = some 256 := (zero_of_info row28).2
theorem built28 : Try.prog.built 28 [] = some (Array.replicate 256 (.int .u32 0)) := by kernel_rfl

/-- The first k places of the table. -/
def tabTo (k : Nat) : Array Value := Array.ofFn (n := 256) fun i => if i.val < k then .int .u32 (sts 8 i.val : Nat) else .int .u32 0

theorem tabTo_size (k : Nat) : (tabTo k).size = 256 := by simp [tabTo]
theorem tabTo_zero : Array.replicate 256 (.int .u32 0) = tabTo 0 := by
  apply Array.ext
  · simp [tabTo]
  · intro i h1 h2
    simp [tabTo]
theorem tabTo_set (k : Nat) : (tabTo k).setIfInBounds k (.int .u32 (sts 8 k : Nat)) = tabTo (k + 1) := by
  apply Array.ext
  · simp [tabTo]
  · intro i h1 h2
    have h3 : i < (tabTo k).size := by simpa using h1
    rw [Array.getElem_setIfInBounds h3]
    simp only [tabTo, Array.getElem_ofFn]
    by_cases hi : k = i
    · subst hi; simp
    · by_cases hj : i < k
      · simp [hi, hj, show i < k + 1 by omega]
      · simp [hi, hj, show ¬ i < k + 1 by omega]
theorem tabTo_get (k i : Nat) (h : i < 256) : (tabTo k)[i]? = some (if i < k then .int .u32 (sts 8 i : Nat) else .int .u32 0) := by
  rw [Array.getElem?_eq_getElem (by simp [tabTo]; omega)]
  simp [tabTo]
theorem tabTo_one (k : Nat) : (tabTo k).all (·.oneCell') = true := by
  rw [Array.all_eq_true]
  intro i h
  simp only [tabTo, Array.getElem_ofFn]
  split <;> rfl
theorem table_old {k : Nat} {w : World} {g : Nat} (h : Whole w g 28 (tabTo k)) (i : Nat) (hi : i < 256) : ∃ old, w.cell? ⟨g, i, none⟩ = some old := ⟨_, (h.cell i).trans (tabTo_get k i hi)⟩

theorem Whole.setRow {w : World} {g : Nat} {t : TypeId} {cs : Array Value} (h : Whole w g t cs) (cs' : Array Value) : Whole (w.setRow g cs') g t cs' := setRow_heap w g cs cs' t _ h
theorem Whole.setRow_far {w : World} {g g' : Nat} {t : TypeId} {cs : Array Value} (h : Whole w g t cs) (cs' : Array Value) (hne : g ≠ g') : Whole (w.setRow g' cs') g t cs := (setRow_other w g' g cs' hne).trans h
theorem Only.setRow {S : Nat → Prop} {a w : World} (h : Only S a w) {g : Nat} (cs : Array Value) (hp : S g ∨ a.heap.size ≤ g) : Only S a (w.setRow g cs) :=
  ⟨h.os, h.tape, h.output, by simpa using h.size, fun i hi hn => (setRow_other w g i cs (by
    rintro rfl
    rcases hp with hp | hp
    · exact hn hp
    · omega)).trans (h.block i hi hn)⟩
theorem below_setRow {B : Nat} {a w : World} (h : Below B a w) {g : Nat} (cs : Array Value) (hp : B ≤ g) : Below B a (w.setRow g cs) :=
  ⟨h.os, h.tape, h.output, by simpa using h.size, fun i hi => (setRow_other w g i cs (by omega)).trans (h.block i hi)⟩

def TableRes (w : World) (e : Ending) (w' : World) : Prop := e = .returned (.agg (tabTo 256)) ∧ Below w.heap.size w w'

def TabIn (w : World) (k : Nat) (wr : World) : Prop := Whole wr w.heap.size 28 (tabTo 0) ∧ Whole wr (w.heap.size + 1) 28 (tabTo k) ∧ Below w.heap.size w wr

theorem tab_start (w : World) : TabIn w 0 (((w.alloc (.cells (tabTo 0) 28)).alloc (.cells (tabTo 0) 28)).setRow (w.heap.size + 1) (tabTo 0)) := by
  refine ⟨((Whole.new w 28 _).alloc _).setRow_far _ (by omega), Whole.setRow (cs := tabTo 0) ?_ _, ?_⟩
  · have := Whole.new (w.alloc (.cells (tabTo 0) 28)) 28 (tabTo 0)
    simpa using this
  · exact below_setRow (((Below.refl _ _).alloc (Nat.le_refl _) _).alloc (by simp) _) _ (by omega)

theorem new2 (w : World) (cs ds : Array Value) : ((w.alloc (.cells cs 28)).alloc (.cells ds 28)).heap[w.heap.size + 1]? = some (.cells ds 28 (0, 0)) := by
  have := heap_alloc_new (w.alloc (.cells cs 28)) (.cells ds 28)
  simpa using this

set_option maxHeartbeats 1000000 in
set_option maxRecDepth 100000 in
theorem table_any (w : World) : Calls Try.prog 11 #[] w (TableRes w) := by
  have hz : ∀ W, (zeroValue 28).run Try.prog W = .ok (.agg (tabTo 0)) W := by rw [← tabTo_zero]; exact (zero_of_info row28).1
  have hb : ∀ W, (Instr.build 28 #[]).run Try.prog W = .ok (.agg (tabTo 0)) W := fun W => by rw [← tabTo_zero]; exact run_build W 28 #[] _ built28
  have HI := Lib.hid (show (Try.prog.info? 28).map (·.size) = some (tabTo 0).size by rw [tabTo_size]; exact size28)
  go_enter Try.func11, Try.ntmps11
  go_wp2_with (with_reducible refine wpList_store_row rfl 28 (.tmp 1) (.tmp 3) rfl (w.heap.size + 1) (tabTo 0) rfl rfl 28 (tabTo 0) (new2 w _ _) HI.out rfl (tabTo_one 0) ?_)
  have h0 := tab_start w
  generalize ((w.alloc (.cells (tabTo 0) 28)).alloc (.cells (tabTo 0) 28)).setRow (w.heap.size + 1) (tabTo 0) = W at *
  have H0 := Lib.hid h0; clear h0
  clear hz hb HI
  go_loopw [2, 4] (fun _ i wr => ∃ k : Nat, k ≤ 256 ∧ i = .int .i64 k ∧ TabIn w k wr) (fun _ i _ => 256 - (intOf i).toNat)
  case atStart => exact ⟨0, Nat.zero_le _, rfl, H0.out⟩
  case round =>
    obtain ⟨k, hk, rfl, hin⟩ := hrel
    by_cases hlt : k < 256
    · obtain ⟨old, hc⟩ := table_old hin.2.1 k hlt
      have hf := hin.2.1.frozen k
      have wk : IntKind.u32.wrap (k : Int) = k := IntWalk.u32_in _ (by omega)
      have HIn := Lib.hid hin; clear hin
      go_wp2_with (go_at_call 22; refine (shifted_any k (by omega) _).mono ?_; rintro e w1 ⟨rfl, rfl⟩)
      go_roundw
      case rel =>
        refine ⟨k + 1, by omega, by go_num, ?_⟩
        have h1 := HIn.out.2.1.put k (.int .u32 (sts 8 k : Nat))
        rw [tabTo_set k] at h1
        exact ⟨HIn.out.1.far (by simp) _, h1, HIn.out.2.2.setCell (by simp) _⟩
      case measure => simp [intOf]; omega
    · have HIn := Lib.hid (show TabIn w 256 wr by rw [show (256 : Nat) = k by omega]; exact hin)
      clear hin
      have HI := Lib.hid (show (Try.prog.info? 28).map (·.size) = some (tabTo 256).size by rw [tabTo_size]; exact size28)
      go_wp2_with (first
        | (refine wpList_load_row rfl 28 (.tmp 1) rfl (w.heap.size + 1) rfl 28 (tabTo 256) (0, 0) _ HIn.out.2.1 Try.underlying28 rfl HI.out ?_)
        | (refine wpList_store_row rfl 28 (.tmp 0) (.tmp 13) rfl w.heap.size (tabTo 256) rfl rfl 28 (tabTo 0) HIn.out.1 HI.out (by rw [tabTo_size, tabTo_size]) (tabTo_one 256) ?_))
      exact bodyPost_ret (v := .agg (tabTo 256)) (results_cell_row (p := 0) (ty := 28) rfl _ _ w.heap.size 28 (tabTo 256) (0, 0) _ rfl (HIn.out.1.setRow _) Try.underlying28 rfl HI.out) rfl ⟨rfl, below_setRow HIn.out.2.2 _ (Nat.le_refl _)⟩
end Go.Proofs.Ytdpdfnekokmgoaa
