/-
  The calls whose answers the document fixes: fixed answers true, and changes nothing that was there. Conditions: none.
-/
import Derived.Test.YthlgceeldnhhbaaX
import Derived.Lib.SlBytesConst
namespace Go.Proofs.Ythlgceeldnhhbaa
open Go.RowKit
set_option maxRecDepth 100000

theorem exp1 : expT 10 [⟨97, 0, 0⟩, ⟨0, 5, 1⟩] [] = (0, [97, 97, 97, 97, 97, 97]) := by decide
theorem exp2 : expT 10 [⟨0, 5, 1⟩] [] = (13, []) := by decide
theorem find1 : findT [97, 98, 99, 97, 98, 99] 3 = ⟨0, 3, 3⟩ := by decide

theorem seen_cells (w : World) (t : TypeId) (fr : Nat × Nat) (size n : Nat) (xs : List Value) (h : xs.length = n * size) : Seen (w.alloc (.cells xs.toArray t fr)) (w.heap.size + 1) size (some ⟨w.heap.size, 0, none⟩) n n xs := by
  refine ⟨h, Nat.le_refl _, .inr ⟨_, rfl, fun _ => ⟨rfl, by simp, fun j x hx => ?_⟩⟩⟩
  simp only [Nat.zero_add]
  rw [cell_of_row _ w.heap.size j xs.toArray t fr (heap_alloc_new w _)]
  simpa using hx

theorem tok2 (w : World) : Calls Try.prog 8 #[.slice (some ⟨w.heap.size, 0, none⟩) 2 2, .int .i64 10] (w.alloc (.cells #[.int .u8 97, .int .i64 0, .int .i64 0, .int .u8 0, .int .i64 5, .int .i64 1] 29)) fun e w' =>
    ∃ v, e = .returned (.tuple #[v, .int .i64 0]) ∧ w'.ownsRow (w.heap.size + 1) 5 1 v 6 (bx [97, 97, 97, 97, 97, 97]) ∧ Below w.heap.size w w' := by
  have hs := seen_cells w 29 (0, 0) 3 2 [.int .u8 97, .int .i64 0, .int .i64 0, .int .u8 0, .int .i64 5, .int .i64 1] rfl
  refine (expand_any (some ⟨w.heap.size, 0, none⟩) 2 2 (w.heap.size + 1) [⟨97, 0, 0⟩, ⟨0, 5, 1⟩] (by omega) 10 (by omega) (by omega) _ hs (by simp)).mono ?_
  have hB : Below w.heap.size w (w.alloc (.cells #[.int .u8 97, .int .i64 0, .int .i64 0, .int .u8 0, .int .i64 5, .int .i64 1] 29)) := (Below.refl _ _).alloc (Nat.le_refl _) _
  rintro e w' (⟨o, v, h1, h2, h3, h4⟩ | ⟨er, h0, _, h1, _⟩)
  · rw [exp1] at h1
    injection h1 with _ h1
    subst h1
    exact ⟨v, h2, by simpa using h3, hB.trans (h4.mono (by simp))⟩
  · rw [exp1] at h1
    injection h1 with h1 _
    exact absurd h1.symm h0

theorem tok1 (w : World) : Calls Try.prog 8 #[.slice (some ⟨w.heap.size, 0, none⟩) 1 1, .int .i64 10] (w.alloc (.cells #[.int .u8 0, .int .i64 5, .int .i64 1] 29)) fun e w' =>
    e = .returned (.tuple #[.slice none 0 0, .int .i64 13]) ∧ Below w.heap.size w w' := by
  have hs := seen_cells w 29 (0, 0) 3 1 [.int .u8 0, .int .i64 5, .int .i64 1] rfl
  refine (expand_any (some ⟨w.heap.size, 0, none⟩) 1 1 (w.heap.size + 1) [⟨0, 5, 1⟩] (by omega) 10 (by omega) (by omega) _ hs (by simp)).mono ?_
  have hB : Below w.heap.size w (w.alloc (.cells #[.int .u8 0, .int .i64 5, .int .i64 1] 29)) := (Below.refl _ _).alloc (Nat.le_refl _) _
  rintro e w' (⟨o, v, h1, _⟩ | ⟨er, h0, _, h1, h2, h4⟩)
  · rw [exp2] at h1
    injection h1 with h1 _
    exact absurd h1 (by omega)
  · rw [exp2] at h1
    injection h1 with h1 _
    subst h1
    exact ⟨h2, hB.trans (h4.mono (by simp))⟩

theorem fnd (w : World) : Calls Try.prog 12 #[.slice (some ⟨w.heap.size, 0, none⟩) 6 6, .int .i64 3] (w.alloc (.cells #[.int .u8 97, .int .u8 98, .int .u8 99, .int .u8 97, .int .u8 98, .int .u8 99] 5 (6, 7))) fun e w' =>
    e = .returned (.agg #[.int .u8 0, .int .i64 3, .int .i64 3]) ∧ Below w.heap.size w w' := by
  have hs := seen_cells w 5 (6, 7) 1 6 (bx [97, 98, 99, 97, 98, 99]) rfl
  refine (find_any (some ⟨w.heap.size, 0, none⟩) 6 6 (w.heap.size + 1) [97, 98, 99, 97, 98, 99] rfl (by omega) 3 _ hs (by simp)).mono ?_
  rintro e w' ⟨h1, h2⟩
  rw [find1] at h1
  exact ⟨h1, ((Below.refl _ _).alloc (Nat.le_refl _) _).trans (h2.mono (by simp))⟩

theorem tks (w : World) : Calls Try.prog 14 #[.slice (some ⟨w.heap.size, 0, none⟩) 2 2] (w.alloc (.cells #[.int .u8 97, .int .u8 98] 5 (2, 3))) fun e w' =>
    ∃ A c, e = .returned (.slice A 2 c) ∧ Below w.heap.size w w' := by
  have hs := seen_cells w 5 (2, 3) 1 2 (bx [97, 98]) rfl
  refine (tokens_any (some ⟨w.heap.size, 0, none⟩) 2 2 [97, 98] rfl (by omega) (by simp) _ (hs.more (by simp))).mono ?_
  rintro e w' ⟨l, v, rfl, h2, h3, _, h5⟩
  have := expT_two 2 l [] [97, 98] h3 (by simp)
  have hl : l.length = 2 := by simpa using this
  rw [hl] at h2
  obtain ⟨A, c, rfl, _⟩ := own_form h2
  exact ⟨A, c, rfl, ((Below.refl _ _).alloc (Nat.le_refl _) _).trans (h5.mono (by simp))⟩

set_option maxHeartbeats 1000000 in
theorem fixed_any (w : World) : Calls Try.prog 7 #[] w (Gives w (.bool true)) := by
  have C1 := Lib.hid tok2
  have C2 := Lib.hid tok1
  have C3 := Lib.hid fnd
  have C4 := Lib.hid tks
  have hst : strOf [97, 97, 97, 97, 97, 97] = ⟨#[97, 97, 97, 97, 97, 97]⟩ := rfl
  go_enter Try.func7, Try.ntmps7
  go_wp2_with fail
  refine (C1.out _).mono ?_; rintro e w1 ⟨v, rfl, hown1, hb1⟩
  obtain ⟨A1, c1, rfl, _, hs1⟩ := own_seen hown1
  have B1 := Lib.hid hb1; have S1 := Lib.hid hs1
  clear hown1 hb1 hs1
  go_wp2_with fail
  refine (C2.out _).mono ?_; rintro e w2 ⟨rfl, hb2⟩
  have cv : (convert 24 9 (.slice A1 6 c1)).run Try.prog w2 = .ok (.string ⟨#[97, 97, 97, 97, 97, 97]⟩) w2 := by rw [← hst]; exact conv_seen (S1.out.below hb2)
  have B2 := Lib.hid (B1.out.trans (hb2.mono B1.out.size))
  have cb : (convert 24 24 (.slice (some ⟨w2.heap.size, 0, none⟩) 6 6)).run Try.prog (w2.alloc (.cells #[.int .u8 97, .int .u8 98, .int .u8 99, .int .u8 97, .int .u8 98, .int .u8 99] 5)) = .ok (.slice (some ⟨w2.heap.size, 0, none⟩) 6 6) (w2.alloc (.cells #[.int .u8 97, .int .u8 98, .int .u8 99, .int .u8 97, .int .u8 98, .int .u8 99] 5 (6, 7))) := Lib.run_convert_bytes_const w2 24 5 _ 6 6 Try.underlying24 Try.underlying5
  clear hb2 hst
  go_wp2_with fail
  refine (C3.out _).mono ?_; rintro e w3 ⟨rfl, hb3⟩
  have B3 := Lib.hid (B2.out.trans (hb3.mono B2.out.size))
  have cd : (convert 24 24 (.slice (some ⟨w3.heap.size, 0, none⟩) 2 2)).run Try.prog (w3.alloc (.cells #[.int .u8 97, .int .u8 98] 5)) = .ok (.slice (some ⟨w3.heap.size, 0, none⟩) 2 2) (w3.alloc (.cells #[.int .u8 97, .int .u8 98] 5 (2, 3))) := Lib.run_convert_bytes_const w3 24 5 _ 2 2 Try.underlying24 Try.underlying5
  clear hb3 cb
  go_wp2_with fail
  refine (C4.out _).mono ?_; rintro e w4 ⟨A4, c4, rfl, hb4⟩
  have B4 := Lib.hid (B3.out.trans (hb4.mono B3.out.size))
  clear hb4 cd
  go_wp2_with fail
  go_ret
  exact ⟨rfl, B4.out⟩
end Go.Proofs.Ythlgceeldnhhbaa
