/-
  What the program's pairs and members are worth. Conditions: a pool in memory, of at most a hundred thousand constants.
-/
import Derived.Test.YtmojclbejmnikaaPD
namespace Go.Proofs.Ytmojclbejmnikaa
open Go Go.RowKit
set_option maxRecDepth 100000

set_option maxHeartbeats 8000000 in
theorem vPair_any (l : List Raw) (A : Option Addr) (n c B : Nat) (i j : Int) (hn : l.length = n) (hs : n ≤ 100000) (w : World) (hA : Seen w B 5 A n c (rv l)) (hB : B ≤ w.heap.size) :
    Calls Try.prog 85 #[.agg #[.int .i64 i, .int .i64 j], .slice A n c] w (ValRes w ⟨0, ⟨#[]⟩, 0, ⟨#[]⟩, opT (txM l i), opT (txM l j)⟩ ((txM l i).isSome && (txM l j).isSome)) := by
  obtain ⟨w2, hw2⟩ : ∃ W, (w.alloc (.cells #[.int .i64 i, .int .i64 j] 87)).alloc (.cells #[.int .i64 0, .string ⟨#[]⟩, .int .u64 0, .string ⟨#[]⟩, .string ⟨#[]⟩, .string ⟨#[]⟩] 41) = W := ⟨_, rfl⟩
  obtain ⟨g, hg⟩ : ∃ g, w.heap.size = g := ⟨_, rfl⟩
  have B2 : Hid (Below w.heap.size w w2) := Lib.hid (hw2 ▸ ((Below.refl w.heap.size w).alloc (Nat.le_refl _) _).alloc (by simp) _)
  have W1 : Hid (Whole w2 g 87 #[.int .i64 i, .int .i64 j]) := Lib.hid (by rw [← hw2, ← hg]; exact (Whole.new w 87 #[.int .i64 i, .int .i64 j]).alloc _)
  have c0 : w2.cell? ⟨g, 0, none⟩ = some (.int .i64 i) := W1.out.cell 0
  have W2 : Hid (Whole w2 (g + 1) 41 (valA v0)) := Lib.hid (by
    have := Whole.new (w.alloc (.cells #[.int .i64 i, .int .i64 j] 87)) 41 (valA v0)
    rw [World.size_alloc] at this; rw [← hw2, ← hg]; exact this)
  have AT := Lib.hid (fun (i : Int) (W : World) (hW : Below w.heap.size w W) => text_any l A n c B i hn hs W (hA.below (hW.mono hB)))
  have ATi := Lib.hid (AT.out i w2 B2.out)
  have ATj := Lib.hid (AT.out j)
  generalize opT (txM l i) = T at ATi ⊢
  generalize (txM l i).isSome = b at ATi ⊢
  generalize opT (txM l j) = T2 at ATj ⊢
  generalize (txM l j).isSome = b2 at ATj ⊢
  have H := Lib.hid (And.intro hn (And.intro hs hA))
  clear hn hs hA AT
  go_enter Try.func85, Try.ntmps85
  go_wp2_with fail
  refine ATi.out.mono ?_
  rintro e w3 ⟨rfl, hB3⟩
  have W3 := Lib.hid (W2.out.bel hB3)
  have W31 := Lib.hid (W1.out.bel hB3)
  have B3 := Lib.hid (B2.out.trans (hB3.mono B2.out.size))
  have ATk := Lib.hid (ATj.out w3 B3.out)
  have c1 : w3.cell? ⟨g, 1, none⟩ = some (.int .i64 j) := W31.out.cell 1
  clear c0 hB3 hw2
  go_wp2_with fail
  refine ATk.out.mono ?_
  rintro e w4 ⟨rfl, hB4⟩
  have W4 := Lib.hid (W3.out.bel hB4)
  have B4 := Lib.hid (B3.out.trans (hB4.mono B3.out.size))
  clear c1 hB4
  cases b
  · go_wp2_with (refine wpList_store_row rfl 41 (.tmp 4) (.tmp 26) rfl (g + 1) (valA ⟨0, ⟨#[]⟩, 0, ⟨#[]⟩, T, T2⟩) rfl rfl 41 (valA v0) W4.out rfl rfl (val_one _) ?_)
    refine bodyPost_ret (results_val (p := 4) (u := 5) rfl _ _ (g + 1) ⟨0, ⟨#[]⟩, 0, ⟨#[]⟩, T, T2⟩ rfl (W4.out.setRow _)) rfl ?_
    exact ⟨rfl, below_setRow B4.out (by omega) _⟩
  · go_wp2_with (refine wpList_store_row rfl 41 (.tmp 4) (.tmp 26) rfl (g + 1) (valA ⟨0, ⟨#[]⟩, 0, ⟨#[]⟩, T, T2⟩) rfl rfl 41 (valA v0) W4.out rfl rfl (val_one _) ?_)
    refine bodyPost_ret (results_val (p := 4) (u := 5) rfl _ _ (g + 1) ⟨0, ⟨#[]⟩, 0, ⟨#[]⟩, T, T2⟩ rfl (W4.out.setRow _)) rfl ?_
    exact ⟨by simp, below_setRow B4.out (by omega) _⟩
end Go.Proofs.Ytmojclbejmnikaa
