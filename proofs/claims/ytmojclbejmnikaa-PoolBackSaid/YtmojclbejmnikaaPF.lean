/-
  What the program's members are worth. Conditions: a pool in memory, of at most a hundred thousand constants.
-/
import Derived.Test.YtmojclbejmnikaaPE
namespace Go.Proofs.Ytmojclbejmnikaa
open Go Go.RowKit
set_option maxRecDepth 100000

def memV (l : List Raw) (i j : Int) : Val × Bool := match clM l i, prM l j with
  | some ca, some p => (⟨0, ⟨#[]⟩, 0, opT (txM l ca), opT (txM l p.1), opT (txM l p.2)⟩, (txM l ca).isSome && ((txM l p.1).isSome && (txM l p.2).isSome))
  | _, _ => (v0, false)

set_option maxHeartbeats 16000000 in
theorem vMem_any (l : List Raw) (A : Option Addr) (n c B : Nat) (i j : Int) (hn : l.length = n) (hs : n ≤ 100000) (w : World) (hA : Seen w B 5 A n c (rv l)) (hB : B ≤ w.heap.size) :
    Calls Try.prog 87 #[.agg #[.int .i64 i, .int .i64 j], .slice A n c] w (ValRes w (memV l i j).1 (memV l i j).2) := by
  obtain ⟨w2, hw2⟩ : ∃ W, (w.alloc (.cells #[.int .i64 i, .int .i64 j] 89)).alloc (.cells #[.int .i64 0, .string ⟨#[]⟩, .int .u64 0, .string ⟨#[]⟩, .string ⟨#[]⟩, .string ⟨#[]⟩] 41) = W := ⟨_, rfl⟩
  obtain ⟨g, hg⟩ : ∃ g, w.heap.size = g := ⟨_, rfl⟩
  have B2 : Hid (Below w.heap.size w w2) := Lib.hid (hw2 ▸ ((Below.refl w.heap.size w).alloc (Nat.le_refl _) _).alloc (by simp) _)
  have W1 : Hid (Whole w2 g 89 #[.int .i64 i, .int .i64 j]) := Lib.hid (by rw [← hw2, ← hg]; exact (Whole.new w 89 #[.int .i64 i, .int .i64 j]).alloc _)
  have c0 : w2.cell? ⟨g, 0, none⟩ = some (.int .i64 i) := W1.out.cell 0
  have W2 : Hid (Whole w2 (g + 1) 41 (valA v0)) := Lib.hid (by
    have := Whole.new (w.alloc (.cells #[.int .i64 i, .int .i64 j] 89)) 41 (valA v0)
    rw [World.size_alloc] at this; rw [← hw2, ← hg]; exact this)
  have AT := Lib.hid (fun (i : Int) (W : World) (hW : Below w.heap.size w W) => at_any l A n c B i hn hs W (hA.below (hW.mono hB)))
  have VO := Lib.hid (fun (i : Int) (W : World) (hW : Below w.heap.size w W) => vOf_any l A n c B i hn hs W (hA.below (hW.mono hB)) (Nat.le_trans hB hW.size))
  have VP := Lib.hid (fun (i j : Int) (W : World) (hW : Below w.heap.size w W) => vPair_any l A n c B i j hn hs W (hA.below (hW.mono hB)) (Nat.le_trans hB hW.size))
  have ATi := Lib.hid (AT.out i w2 B2.out)
  have ATj := Lib.hid (AT.out j)
  have hV1 := fun w => as84 l i w
  have hV2 := fun w => as87 l j w
  generalize atV l i = V1 at ATi hV1
  generalize atV l j = V2 at ATj hV2
  obtain ⟨R, hR⟩ : ∃ R, memV l i j = R := ⟨_, rfl⟩
  rw [hR]
  unfold memV at hR
  have H := Lib.hid (And.intro hn (And.intro hs hA))
  clear hn hs hA AT
  cases hc : clM l i with
  | none =>
    rw [hc] at hR hV1
    simp only at hR
    subst hR
    simp only [Option.getD_none, Option.isSome_none] at hV1
    obtain ⟨z1, hz1⟩ : ∃ z : Int, (0 : Int) = z := ⟨0, rfl⟩
    rw [hz1] at hV1
    generalize (prM l j).getD (0, 0) = p at hV2
    generalize (prM l j).isSome = b at hV2
    obtain ⟨p1, p2⟩ := p
    simp only at hV2
    have HZ := Lib.hid hz1
    clear hc VO VP hz1
    go_enter Try.func87, Try.ntmps87
    go_wp2_with fail
    refine ATi.out.mono ?_
    rintro e w3 ⟨rfl, hB3⟩
    have W3 := Lib.hid (W2.out.bel hB3)
    have W31 := Lib.hid (W1.out.bel hB3)
    have B3 := Lib.hid (B2.out.trans (hB3.mono B2.out.size))
    clear c0 hB3 hw2
    obtain ⟨w4, hw4⟩ : ∃ W, w3.alloc (.cells #[.int .i64 z1] 84) = W := ⟨_, rfl⟩
    have W4 : Hid (Whole w4 (g + 1) 41 (valA v0)) := Lib.hid (hw4 ▸ W3.out.alloc _)
    have W41 : Hid (Whole w4 g 89 #[.int .i64 i, .int .i64 j]) := Lib.hid (hw4 ▸ W31.out.alloc _)
    have B4 : Hid (Below w.heap.size w w4) := Lib.hid (hw4 ▸ B3.out.alloc B3.out.size _)
    have c1 : w4.cell? ⟨g, 1, none⟩ = some (.int .i64 j) := W41.out.cell 1
    have ATk := Lib.hid (ATj.out w4 B4.out)
    go_wp2_with fail
    refine ATk.out.mono ?_
    rintro e w5 ⟨rfl, hB5⟩
    have W5 := Lib.hid (W4.out.bel hB5)
    have B5 := Lib.hid (B4.out.trans (hB5.mono B4.out.size))
    clear c1 hB5
    have W6 : Hid (Whole (w5.alloc (.cells #[.int .i64 p1, .int .i64 p2] 87)) (g + 1) 41 (valA v0)) := Lib.hid (W5.out.alloc _)
    go_wp2_with (refine wpList_store_row rfl 41 (.tmp 4) (.tmp 34) rfl (g + 1) (valA v0) rfl rfl 41 (valA v0) W6.out rfl rfl (val_one _) ?_)
    refine bodyPost_ret (results_val (p := 4) (u := 5) rfl _ _ (g + 1) v0 rfl (W6.out.setRow _)) rfl ?_
    exact ⟨rfl, below_setRow (B5.out.alloc B5.out.size _) (by omega) _⟩
  | some ca =>
    rw [hc] at hR hV1
    simp only [Option.getD_some, Option.isSome_some] at hV1
    cases hp : prM l j with
    | none =>
      rw [hp] at hR hV2
      simp only at hR
      subst hR
      simp only [Option.getD_none, Option.isSome_none] at hV2
      obtain ⟨z1, hz1⟩ : ∃ z : Int, (0 : Int) = z := ⟨0, rfl⟩
      rw [hz1] at hV2
      have HZ := Lib.hid hz1
      clear hc hp VO VP hz1
      go_enter Try.func87, Try.ntmps87
      go_wp2_with fail
      refine ATi.out.mono ?_
      rintro e w3 ⟨rfl, hB3⟩
      have W3 := Lib.hid (W2.out.bel hB3)
      have W31 := Lib.hid (W1.out.bel hB3)
      have B3 := Lib.hid (B2.out.trans (hB3.mono B2.out.size))
      clear c0 hB3 hw2
      obtain ⟨w4, hw4⟩ : ∃ W, w3.alloc (.cells #[.int .i64 ca] 84) = W := ⟨_, rfl⟩
      obtain ⟨g3, hg3⟩ : ∃ k, w3.heap.size = k := ⟨_, rfl⟩
      have W4 : Hid (Whole w4 (g + 1) 41 (valA v0)) := Lib.hid (hw4 ▸ W3.out.alloc _)
      have W41 : Hid (Whole w4 g 89 #[.int .i64 i, .int .i64 j]) := Lib.hid (hw4 ▸ W31.out.alloc _)
      have W42 : Hid (Whole w4 g3 84 #[.int .i64 ca]) := Lib.hid (hw4 ▸ hg3 ▸ Whole.new w3 84 _)
      have B4 : Hid (Below w.heap.size w w4) := Lib.hid (hw4 ▸ B3.out.alloc B3.out.size _)
      have c1 : w4.cell? ⟨g, 1, none⟩ = some (.int .i64 j) := W41.out.cell 1
      have ATk := Lib.hid (ATj.out w4 B4.out)
      go_wp2_with fail
      refine ATk.out.mono ?_
      rintro e w5 ⟨rfl, hB5⟩
      have W5 := Lib.hid (W4.out.bel hB5)
      have W52 := Lib.hid (W42.out.bel hB5)
      have B5 := Lib.hid (B4.out.trans (hB5.mono B4.out.size))
      clear c1 hB5
      have W6 : Hid (Whole (w5.alloc (.cells #[.int .i64 z1, .int .i64 z1] 87)) (g + 1) 41 (valA v0)) := Lib.hid (W5.out.alloc _)
      go_wp2_with (refine wpList_store_row rfl 41 (.tmp 4) (.tmp 34) rfl (g + 1) (valA v0) rfl rfl 41 (valA v0) W6.out rfl rfl (val_one _) ?_)
      refine bodyPost_ret (results_val (p := 4) (u := 5) rfl _ _ (g + 1) v0 rfl (W6.out.setRow _)) rfl ?_
      exact ⟨rfl, below_setRow (B5.out.alloc B5.out.size _) (by omega) _⟩
    | some p =>
      obtain ⟨p1, p2⟩ := p
      rw [hp] at hR hV2
      simp only at hR
      simp only [Option.getD_some, Option.isSome_some] at hV2
      have VOc := Lib.hid (VO.out ca)
      have VPp := Lib.hid (VP.out p1 p2)
      generalize opT (txM l ca) = T at VOc hR
      generalize (txM l ca).isSome = b at VOc hR
      generalize opT (txM l p1) = T1 at VPp hR
      generalize opT (txM l p2) = T2 at VPp hR
      generalize ((txM l p1).isSome && (txM l p2).isSome) = b2 at VPp hR
      subst hR
      simp only
      clear hc hp VO VP
      go_enter Try.func87, Try.ntmps87
      go_wp2_with fail
      refine ATi.out.mono ?_
      rintro e w3 ⟨rfl, hB3⟩
      have W3 := Lib.hid (W2.out.bel hB3)
      have W31 := Lib.hid (W1.out.bel hB3)
      have B3 := Lib.hid (B2.out.trans (hB3.mono B2.out.size))
      clear c0 hB3 hw2
      obtain ⟨w4, hw4⟩ : ∃ W, w3.alloc (.cells #[.int .i64 ca] 84) = W := ⟨_, rfl⟩
      obtain ⟨g3, hg3⟩ : ∃ k, w3.heap.size = k := ⟨_, rfl⟩
      have W4 : Hid (Whole w4 (g + 1) 41 (valA v0)) := Lib.hid (hw4 ▸ W3.out.alloc _)
      have W41 : Hid (Whole w4 g 89 #[.int .i64 i, .int .i64 j]) := Lib.hid (hw4 ▸ W31.out.alloc _)
      have W42 : Hid (Whole w4 g3 84 #[.int .i64 ca]) := Lib.hid (hw4 ▸ hg3 ▸ Whole.new w3 84 _)
      have B4 : Hid (Below w.heap.size w w4) := Lib.hid (hw4 ▸ B3.out.alloc B3.out.size _)
      have c1 : w4.cell? ⟨g, 1, none⟩ = some (.int .i64 j) := W41.out.cell 1
      have ATk := Lib.hid (ATj.out w4 B4.out)
      go_wp2_with fail
      refine ATk.out.mono ?_
      rintro e w5 ⟨rfl, hB5⟩
      have W5 := Lib.hid (W4.out.bel hB5)
      have W52 := Lib.hid (W42.out.bel hB5)
      have B5 := Lib.hid (B4.out.trans (hB5.mono B4.out.size))
      clear c1 hB5
      obtain ⟨w6, hw6⟩ : ∃ W, w5.alloc (.cells #[.int .i64 p1, .int .i64 p2] 87) = W := ⟨_, rfl⟩
      obtain ⟨g5, hg5⟩ : ∃ k, w5.heap.size = k := ⟨_, rfl⟩
      have W6 : Hid (Whole w6 (g + 1) 41 (valA v0)) := Lib.hid (hw6 ▸ W5.out.alloc _)
      have W62 : Hid (Whole w6 g3 84 #[.int .i64 ca]) := Lib.hid (hw6 ▸ W52.out.alloc _)
      have W63 : Hid (Whole w6 g5 87 #[.int .i64 p1, .int .i64 p2]) := Lib.hid (hw6 ▸ hg5 ▸ Whole.new w5 87 _)
      have B6 : Hid (Below w.heap.size w w6) := Lib.hid (hw6 ▸ B5.out.alloc B5.out.size _)
      have c2 : w6.cell? ⟨g3, 0, none⟩ = some (.int .i64 ca) := W62.out.cell 0
      have VOd := Lib.hid (VOc.out w6 B6.out)
      go_wp2_with fail
      refine VOd.out.mono ?_
      rintro e w7 ⟨he, hB7⟩
      replace he : e = .returned (.tuple #[.agg #[.int .i64 0, .string T, .int .u64 0, .string ⟨#[]⟩, .string ⟨#[]⟩, .string ⟨#[]⟩], .bool b]) := he
      subst he
      obtain ⟨w8, hw8⟩ : ∃ W, (w7.alloc (.cells #[.int .i64 0, .string ⟨#[]⟩, .int .u64 0, .string ⟨#[]⟩, .string ⟨#[]⟩, .string ⟨#[]⟩] 41)).setRow w7.heap.size (valA ⟨0, T, 0, ⟨#[]⟩, ⟨#[]⟩, ⟨#[]⟩⟩) = W := ⟨_, rfl⟩
      have hw8' : w7.alloc (.cells (valA ⟨0, T, 0, ⟨#[]⟩, ⟨#[]⟩, ⟨#[]⟩⟩) 41) = w8 := by rw [← hw8]; exact (World.setRow_alloc_new w7 _ _ _).symm
      have Z7 := Lib.hid (Whole.new w7 41 #[.int .i64 0, .string ⟨#[]⟩, .int .u64 0, .string ⟨#[]⟩, .string ⟨#[]⟩, .string ⟨#[]⟩])
      obtain ⟨g7, hg7⟩ : ∃ k, w7.heap.size = k := ⟨_, rfl⟩
      rw [hg7] at hw8 Z7
      have W8 : Hid (Whole w8 (g + 1) 41 (valA v0)) := Lib.hid (hw8' ▸ (W6.out.bel hB7).alloc _)
      have W83 : Hid (Whole w8 g5 87 #[.int .i64 p1, .int .i64 p2]) := Lib.hid (hw8' ▸ (W63.out.bel hB7).alloc _)
      have W84 : Hid (Whole w8 g7 41 (valA ⟨0, T, 0, ⟨#[]⟩, ⟨#[]⟩, ⟨#[]⟩⟩)) := Lib.hid (hw8' ▸ hg7 ▸ Whole.new w7 41 _)
      have B7 := Lib.hid (B6.out.trans (hB7.mono B6.out.size))
      have B8 : Hid (Below w.heap.size w w8) := Lib.hid (hw8' ▸ B7.out.alloc B7.out.size _)
      have c3 : w8.cell? ⟨g5, 0, none⟩ = some (.int .i64 p1) := W83.out.cell 0
      have c4 : w8.cell? ⟨g5, 1, none⟩ = some (.int .i64 p2) := W83.out.cell 1
      have VPd := Lib.hid (VPp.out w8 B8.out)
      clear c2 hB7 hw8'
      go_wp2_with (refine wpList_store_row rfl 41 (.tmp 10) (.tmp 40) rfl g7 (valA ⟨0, T, 0, ⟨#[]⟩, ⟨#[]⟩, ⟨#[]⟩⟩) rfl rfl 41 (valA v0) Z7.out rfl rfl (val_one _) ?_)
      refine VPd.out.mono ?_
      rintro e w9 ⟨he, hB9⟩
      replace he : e = .returned (.tuple #[.agg #[.int .i64 0, .string ⟨#[]⟩, .int .u64 0, .string ⟨#[]⟩, .string T1, .string T2], .bool b2]) := he
      subst he
      obtain ⟨w10, hw10⟩ : ∃ W, (w9.alloc (.cells #[.int .i64 0, .string ⟨#[]⟩, .int .u64 0, .string ⟨#[]⟩, .string ⟨#[]⟩, .string ⟨#[]⟩] 41)).setRow w9.heap.size (valA ⟨0, ⟨#[]⟩, 0, ⟨#[]⟩, T1, T2⟩) = W := ⟨_, rfl⟩
      have hw10' : w9.alloc (.cells (valA ⟨0, ⟨#[]⟩, 0, ⟨#[]⟩, T1, T2⟩) 41) = w10 := by rw [← hw10]; exact (World.setRow_alloc_new w9 _ _ _).symm
      have Z9 := Lib.hid (Whole.new w9 41 #[.int .i64 0, .string ⟨#[]⟩, .int .u64 0, .string ⟨#[]⟩, .string ⟨#[]⟩, .string ⟨#[]⟩])
      obtain ⟨g9, hg9⟩ : ∃ k, w9.heap.size = k := ⟨_, rfl⟩
      rw [hg9] at hw10 Z9
      have W10 : Hid (Whole w10 (g + 1) 41 (valA v0)) := Lib.hid (hw10' ▸ (W8.out.bel hB9).alloc _)
      have W104 : Hid (Whole w10 g7 41 (valA ⟨0, T, 0, ⟨#[]⟩, ⟨#[]⟩, ⟨#[]⟩⟩)) := Lib.hid (hw10' ▸ (W84.out.bel hB9).alloc _)
      have W105 : Hid (Whole w10 g9 41 (valA ⟨0, ⟨#[]⟩, 0, ⟨#[]⟩, T1, T2⟩)) := Lib.hid (hw10' ▸ hg9 ▸ Whole.new w9 41 _)
      have B9 := Lib.hid (B8.out.trans (hB9.mono B8.out.size))
      have B10 : Hid (Below w.heap.size w w10) := Lib.hid (hw10' ▸ B9.out.alloc B9.out.size _)
      have k1 : w10.cell? ⟨g7, 1, none⟩ = some (.string T) := W104.out.cell 1
      have k2 : w10.cell? ⟨g9, 3, none⟩ = some (.string ⟨#[]⟩) := W105.out.cell 3
      have k3 := W105.out.frozen 3
      have hl : Hid (w.heap.size ≤ g9) := Lib.hid (hg9 ▸ B9.out.size)
      have hne : Hid (g + 1 ≠ g9) := Lib.hid (fun e => by have := (W8.out.bel hB9).lt; omega)
      have W11 : Hid (Whole (w10.setCell ⟨g9, 3, none⟩ (.string T)) g9 41 (valA ⟨0, ⟨#[]⟩, 0, T, T1, T2⟩)) := Lib.hid (W105.out.put 3 (.string T))
      have W11r : Hid (Whole (w10.setCell ⟨g9, 3, none⟩ (.string T)) (g + 1) 41 (valA v0)) := Lib.hid (W10.out.far (p := ⟨g9, 3, none⟩) hne.out _)
      have B11 := Lib.hid (B10.out.setCell (p := ⟨g9, 3, none⟩) hl.out (.string T))
      clear c3 c4 hB9 hw10'
      cases b
      · go_wp2_with (first | (refine wpList_store_row rfl 41 (.tmp 11) (.tmp 46) rfl g9 (valA ⟨0, ⟨#[]⟩, 0, ⟨#[]⟩, T1, T2⟩) rfl rfl 41 (valA v0) Z9.out rfl rfl (val_one _) ?_) | (refine wpList_load_row rfl 41 (.tmp 11) rfl g9 rfl 41 (valA ⟨0, ⟨#[]⟩, 0, T, T1, T2⟩) (0, 0) _ W11.out Try.underlying41 rfl rfl ?_) | (refine wpList_store_row rfl 41 (.tmp 4) (.tmp 51) rfl (g + 1) (valA ⟨0, ⟨#[]⟩, 0, T, T1, T2⟩) rfl rfl 41 (valA v0) W11r.out rfl rfl (val_one _) ?_))
        refine bodyPost_ret (results_val (p := 4) (u := 5) rfl _ _ (g + 1) ⟨0, ⟨#[]⟩, 0, T, T1, T2⟩ rfl (W11r.out.setRow _)) rfl ?_
        exact ⟨rfl, below_setRow B11.out (by omega) _⟩
      · go_wp2_with (first | (refine wpList_store_row rfl 41 (.tmp 11) (.tmp 46) rfl g9 (valA ⟨0, ⟨#[]⟩, 0, ⟨#[]⟩, T1, T2⟩) rfl rfl 41 (valA v0) Z9.out rfl rfl (val_one _) ?_) | (refine wpList_load_row rfl 41 (.tmp 11) rfl g9 rfl 41 (valA ⟨0, ⟨#[]⟩, 0, T, T1, T2⟩) (0, 0) _ W11.out Try.underlying41 rfl rfl ?_) | (refine wpList_store_row rfl 41 (.tmp 4) (.tmp 51) rfl (g + 1) (valA ⟨0, ⟨#[]⟩, 0, T, T1, T2⟩) rfl rfl 41 (valA v0) W11r.out rfl rfl (val_one _) ?_))
        refine bodyPost_ret (results_val (p := 4) (u := 5) rfl _ _ (g + 1) ⟨0, ⟨#[]⟩, 0, T, T1, T2⟩ rfl (W11r.out.setRow _)) rfl ?_
        exact ⟨by simp, below_setRow B11.out (by omega) _⟩
end Go.Proofs.Ytmojclbejmnikaa
