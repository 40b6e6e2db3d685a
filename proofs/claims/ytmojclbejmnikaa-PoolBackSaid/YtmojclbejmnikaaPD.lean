/-
  What the program's constants are worth: text, number, ofText, pair, member. Conditions: a pool in memory, of at most a hundred thousand constants.
-/
import Derived.Test.YtmojclbejmnikaaPC
import Derived.Test.YtmojclbejmnikaaXC
import Derived.Deep.WholeRow
import Derived.Laws.CopyOwn
namespace Go.Proofs.Ytmojclbejmnikaa
open Go Go.RowKit
set_option maxRecDepth 100000

theorem Whole.setRow {w : World} {g : Nat} {t : TypeId} {cs : Array Value} (h : Whole w g t cs) (cs' : Array Value) : Whole (w.setRow g cs') g t cs' := setRow_heap w g cs cs' t _ h
theorem Whole.setRow_far {w : World} {g g' : Nat} {t : TypeId} {cs : Array Value} (h : Whole w g t cs) (cs' : Array Value) (hne : g ≠ g') : Whole (w.setRow g' cs') g t cs := (setRow_other w g' g cs' hne).trans h
theorem val_one (v : Val) : (valA v).all (·.oneCell') = true := by simp [valA, Value.oneCell']
def v0 : Val := ⟨0, ⟨#[]⟩, 0, ⟨#[]⟩, ⟨#[]⟩, ⟨#[]⟩⟩
theorem results_val {fn : Func} {p u : Tmp} (h : fn.results = #[.cell p 41, .tmp u]) (tmps : Array Value) (w : World) (g : Nat) (v : Val) (hp : tmps.getD p undef = .pointer (some ⟨g, 0, none⟩)) (hg : Whole w g 41 (valA v)) :
    (results fn tmps).run Try.prog w = .ok (.tuple #[.agg (valA v), tmps.getD u undef]) w := by
  have hp' : tmps[p]?.getD undef = .pointer (some ⟨g, 0, none⟩) := by simpa using hp
  simp [results, h, hp', asAddr, run_loadVar_row w g 41 41 (valA v) (0, 0) _ hg Try.underlying41 rfl rfl]

/-- What a value's reading gives: the value, and whether it is one. -/
def ValRes (w : World) (v : Val) (b : Bool) (e : Ending) (w' : World) : Prop := e = .returned (.tuple #[.agg (valA v), .bool b]) ∧ Below w.heap.size w w'

set_option maxHeartbeats 4000000 in
theorem vText_any (s : ByteArray) (x : Value) (w : World) : Calls Try.prog 77 #[.string s, x] w (ValRes w ⟨0, s, 0, ⟨#[]⟩, ⟨#[]⟩, ⟨#[]⟩⟩ true) := by
  go_enter Try.func77, Try.ntmps77
  go_wp2_with fail
  refine bodyPost_ret (results_val (p := 4) (u := 5) rfl _ _ w.heap.size ⟨0, s, 0, ⟨#[]⟩, ⟨#[]⟩, ⟨#[]⟩⟩ rfl ?_) rfl ?_
  · exact Whole.new _ _ _
  · exact ⟨rfl, (Below.refl _ _).alloc (Nat.le_refl _) _⟩
set_option maxHeartbeats 4000000 in
theorem vNum_any (n : Nat) (k : Int) (x : Value) (w : World) : Calls Try.prog 79 #[.agg #[.int .u64 n, .int .i64 k], x] w (ValRes w ⟨0, ⟨#[]⟩, n, ⟨#[]⟩, ⟨#[]⟩, ⟨#[]⟩⟩ true) := by
  go_enter Try.func79, Try.ntmps79
  go_wp2_with fail
  refine bodyPost_ret (results_val (p := 4) (u := 5) rfl _ _ (w.heap.size + 1) ⟨0, ⟨#[]⟩, n, ⟨#[]⟩, ⟨#[]⟩, ⟨#[]⟩⟩ (by simp) ?_) rfl ?_
  · have := Whole.new (w.alloc (.cells #[.int .u64 n, .int .i64 k] 80)) 41 (valA ⟨0, ⟨#[]⟩, n, ⟨#[]⟩, ⟨#[]⟩, ⟨#[]⟩⟩)
    rw [World.size_alloc] at this; exact this
  · exact ⟨rfl, ((Below.refl _ _).alloc (Nat.le_refl _) _).alloc (by simp) _⟩
set_option maxHeartbeats 4000000 in
theorem vOf_any (l : List Raw) (A : Option Addr) (n c B : Nat) (i : Int) (hn : l.length = n) (hs : n ≤ 100000) (w : World) (hA : Seen w B 5 A n c (rv l)) (hB : B ≤ w.heap.size) :
    Calls Try.prog 81 #[.agg #[.int .i64 i], .slice A n c] w (ValRes w ⟨0, opT (txM l i), 0, ⟨#[]⟩, ⟨#[]⟩, ⟨#[]⟩⟩ (txM l i).isSome) := by
  obtain ⟨w2, hw2⟩ : ∃ W, (w.alloc (.cells #[.int .i64 i] 82)).alloc (.cells #[.int .i64 0, .string ⟨#[]⟩, .int .u64 0, .string ⟨#[]⟩, .string ⟨#[]⟩, .string ⟨#[]⟩] 41) = W := ⟨_, rfl⟩
  obtain ⟨g, hg⟩ : ∃ g, w.heap.size = g := ⟨_, rfl⟩
  have B2 : Hid (Below w.heap.size w w2) := Lib.hid (hw2 ▸ ((Below.refl w.heap.size w).alloc (Nat.le_refl _) _).alloc (by simp) _)
  have c0 : w2.cell? ⟨g, 0, none⟩ = some (.int .i64 i) := by
    rw [← hw2, ← hg]; exact ((Whole.new w 82 #[.int .i64 i]).alloc (.cells (valA ⟨0, ⟨#[]⟩, 0, ⟨#[]⟩, ⟨#[]⟩, ⟨#[]⟩⟩) 41)).cell 0
  have W2 : Hid (Whole w2 (g + 1) 41 (valA ⟨0, ⟨#[]⟩, 0, ⟨#[]⟩, ⟨#[]⟩, ⟨#[]⟩⟩)) := Lib.hid (by
    have := Whole.new (w.alloc (.cells #[.int .i64 i] 82)) 41 (valA ⟨0, ⟨#[]⟩, 0, ⟨#[]⟩, ⟨#[]⟩, ⟨#[]⟩⟩)
    rw [World.size_alloc] at this; rw [← hw2, ← hg]; exact this)
  have AT := Lib.hid (text_any l A n c B i hn hs w2 (hA.below (B2.out.mono hB)))
  generalize opT (txM l i) = T at AT ⊢
  generalize (txM l i).isSome = b at AT ⊢
  have H := Lib.hid (And.intro hn (And.intro hs hA))
  clear hn hs hA
  go_enter Try.func81, Try.ntmps81
  go_wp2_with fail
  refine AT.out.mono ?_
  rintro e w3 ⟨rfl, hB3⟩
  have W3 := Lib.hid (W2.out.bel hB3)
  go_wp2_with (refine wpList_store_row rfl 41 (.tmp 4) (.tmp 16) rfl (g + 1) (valA ⟨0, T, 0, ⟨#[]⟩, ⟨#[]⟩, ⟨#[]⟩⟩) rfl rfl 41 (valA v0) W3.out rfl rfl (val_one _) ?_)
  refine bodyPost_ret (results_val (p := 4) (u := 5) rfl _ _ (g + 1) ⟨0, T, 0, ⟨#[]⟩, ⟨#[]⟩, ⟨#[]⟩⟩ rfl (W3.out.setRow _)) rfl ?_
  exact ⟨rfl, below_setRow (B2.out.trans (hB3.mono B2.out.size)) (by omega) _⟩
end Go.Proofs.Ytmojclbejmnikaa
