/-
  Contracts of Clone and of the writer: NewWriter, Len, Bytes. Conditions: the writer stands as told (WriterAt), and holds at most a million bits.
-/
import Derived.Test.YtnnpiblnjflceaaW
import Derived.StillTailTactics
import Derived.Lib.SliceRun
namespace Go.Proofs.Ytnnpiblnjflceaa
open Go.RowKit

theorem clone_any (A : Option Addr) (n c B : Nat) (xs : List Value) (w : World) (hs : Seen w B 1 A n c xs) (hB : B ≤ w.heap.size) (h1 : ∀ u ∈ xs, u.oneCell' = true) (hn : n ≤ 140737488355328) :
    Calls Try.prog 41 #[.slice A n c] w (GivesRow w 5 1 n xs) := by
  obtain ⟨i0, hi0, hz0, hz1, hz2⟩ := info_parts byte_info
  have HS := Lib.hid hs
  have q33 : ∀ (w : World) (a : Option Addr) (n c n' c' : Nat), (binOp .eql 27 (.slice a n c) (.slice none n' c')).run Try.prog w = .ok (.bool a.isNone) w := fun w a n c n' c' => Lib.run_eql_slice_nil w _ _ a n c n' c' Try.underlying27
  cases A with
  | none =>
    obtain ⟨g1, g2, g3⟩ := hs
    obtain rfl : c = 0 := by simpa using g3
    obtain rfl : n = 0 := by omega
    obtain rfl : xs = [] := List.eq_nil_of_length_eq_zero (by simpa using g1)
    clear g1 g2 g3
    go_enter Try.func41, Try.ntmps41
    go_wp2
    go_ret
    exact ⟨_, rfl, World.ownsRow_nil _ _ _ _, Below.refl _ _⟩
  | some a =>
    clear hs
    have H1 := Lib.hid h1; clear h1
    go_enter Try.func41, Try.ntmps41
    go_wp2_with (at_builtin; refine wpList_append_seen _ rfl (.tmp 5) (.tmp 6) _ rfl w.heap.size 5 i0 _ 1 1 Try.underlying27 hi0 hz0 hz1 hz2 rfl (by omega) (.slice (some ⟨w.heap.size, 0, none⟩) 0 0) 0 [] rfl (World.ownsRow_made w #[] 0 (Nat.le_refl _) (by simp [maxLen]) rfl) B (some a) n c xs rfl (HS.out.below ((Below.refl _ _).alloc hB _)) H1.out (by simp [maxLen]; omega) (by omega) (by simp) ?_; intro v1 w1 hown1 hg1 hat1)
    go_ret
    refine ⟨_, rfl, by simpa using hown1, ((Below.refl _ _).alloc (Nat.le_refl _) _).grown hg1 (by simp) (by simp [Value.ownBlock])⟩

/-- A writer stands at block g; its bytes are those of the bits l. -/
def WriterAt (w : World) (B g : Nat) (sv : Value) (l : List Bool) : Prop :=
  B ≤ g ∧ Whole w g 51 #[sv, .int .i64 l.length] ∧ w.ownsRow B 5 1 sv ((l.length + 7) / 8) ((pack l).map fun x : Nat => Value.int .u8 x)

/-- The blocks of a writer. -/
def Foot (g : Nat) (sv : Value) : Nat → Prop := fun k => k = g ∨ sv.ownBlock = some k

def NewW (w : World) (e : Ending) (w' : World) : Prop := e = .returned (.pointer (some ⟨w.heap.size, 0, none⟩)) ∧ WriterAt w' w.heap.size w.heap.size (.slice none 0 0) [] ∧ Below w.heap.size w w'

theorem newWriter_any (w : World) : Calls Try.prog 12 #[] w (NewW w) := by
  go_enter Try.func12, Try.ntmps12
  go_wp2
  go_ret
  exact ⟨rfl, ⟨Nat.le_refl _, Whole.new _ _ _, World.ownsRow_nil _ _ _ _⟩, (Below.refl _ _).alloc (Nat.le_refl _) _⟩

theorem len_any (B g : Nat) (sv : Value) (l : List Bool) (w : World) (h : WriterAt w B g sv l) :
    Calls Try.prog 18 #[.pointer (some ⟨g, 0, none⟩)] w fun e w' => e = .returned (.int .i64 l.length) ∧ w = w' := by
  have hc := h.2.1.cell 1
  simp at hc
  go_enter Try.func18, Try.ntmps18
  go_wp2
  go_ret
  exact ⟨rfl, rfl⟩

theorem bytes_oneCell (l : List Nat) : ∀ u ∈ l.map (fun x : Nat => Value.int .u8 x), u.oneCell' = true := by
  intro u hu
  obtain ⟨_, _, rfl⟩ := List.mem_map.1 hu
  rfl

theorem writerBytes_any (B g : Nat) (sv : Value) (l : List Bool) (w : World) (h : WriterAt w B g sv l) (hl : l.length ≤ 1000000) :
    Calls Try.prog 22 #[.pointer (some ⟨g, 0, none⟩)] w (GivesRow w 5 1 ((l.length + 7) / 8) ((pack l).map fun x : Nat => Value.int .u8 x)) := by
  have hc := h.2.1.cell 0
  simp at hc
  obtain ⟨A, c, rfl, _⟩ := own_form h.2.2
  have HS := Lib.hid (Seen.of_own h.2.2)
  clear h
  go_enter Try.func22, Try.ntmps22
  go_wp2_with (go_at_call 41; refine (clone_any A _ c _ _ _ HS.out (Nat.le_refl _) (bytes_oneCell _) (by omega)).mono ?_; rintro e w' ⟨v, rfl, hown, hbel⟩)
  go_ret
  exact ⟨_, rfl, hown, hbel⟩
end Go.Proofs.Ytnnpiblnjflceaa
