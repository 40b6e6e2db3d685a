/-
  The calls whose answers the document fixes. No conditions.
-/
import Derived.Test.YtmojclbejmnikaaPT
namespace Go.Proofs.Ytmojclbejmnikaa
open Go Go.RowKit
set_option maxRecDepth 100000

theorem b5_byte : ∀ x ∈ B5, x < 256 := by decide
theorem b5_len : B5.length = 18 := rfl
theorem eqv_self (v : Val) (w : World) : (binOp .eql 41 (.agg (valA v)) (.agg (valA v))).run Try.prog w = .ok (.bool true) w := by
  have := eqlV v v w
  rw [(eqVB_iff v v).2 rfl] at this
  exact this
theorem Seen.front {w : World} {B n c m : Nat} {A : Option Addr} {l : List Raw} (h : Seen w B 5 A n c (rv l)) (hm : m ≤ n) (hn : l.length = n) : Seen w B 5 A m c (rv (l.take m)) := by
  obtain ⟨h1, h2, h3⟩ := h
  have e : rv (l.take m) = (rv l).take (m * 5) := by
    have : rv l = rv (l.take m) ++ rv (l.drop m) := by rw [← rv_app, List.take_append_drop]
    have hL : (rv (l.take m)).length = m * 5 := by rw [rv_length, List.length_take]; omega
    rw [this, ← hL, List.take_left]
  refine ⟨by rw [rv_length, List.length_take]; omega, by omega, ?_⟩
  rcases h3 with ⟨rfl, rfl⟩ | ⟨a, rfl, h3⟩
  · exact .inl ⟨rfl, by omega⟩
  · refine .inr ⟨a, rfl, fun hx => ?_⟩
    rw [e] at hx ⊢
    obtain ⟨g1, g2, g3⟩ := h3 (by intro e2; rw [e2] at hx; simp at hx)
    refine ⟨g1, g2, fun j u hu => g3 j u ?_⟩
    rw [List.getElem?_take] at hu
    split at hu
    · exact hu
    · cases hu

def lit5 : Array Value := #[.int .i64 0, .string ⟨#[]⟩, .int .u64 0, .int .i64 0, .int .i64 0, .int .i64 1, .string ⟨#[97]⟩, .int .u64 0, .int .i64 0, .int .i64 0, .int .i64 7, .string ⟨#[]⟩, .int .u64 0, .int .i64 1, .int .i64 0, .int .i64 5, .string ⟨#[]⟩, .int .u64 7, .int .i64 0, .int .i64 0, .int .i64 0, .string ⟨#[]⟩, .int .u64 0, .int .i64 0, .int .i64 0]
theorem seen5 (w : World) : Seen (w.alloc (.cells lit5 47)) (w.heap.size + 1) 5 (some ⟨w.heap.size, 0, none⟩) 5 5 (rv L5) := by
  refine ⟨rfl, Nat.le_refl _, .inr ⟨_, rfl, fun _ => ⟨rfl, Nat.lt_succ_self _, fun j u hu => ?_⟩⟩⟩
  have hW := Whole.new w 47 lit5
  show _ = some u
  simp only [Nat.zero_add]
  rw [hW.cell j, ← hu, show lit5 = (rv L5).toArray from rfl, List.getElem?_toArray]

set_option maxHeartbeats 16000000 in
theorem fixed_any (w : World) : Calls Try.prog 6 #[] w (Gives w (.bool true)) := by
  obtain ⟨w1, hw1⟩ : ∃ W, w.alloc (.cells #[.int .i64 0, .string ⟨#[]⟩, .int .u64 0, .int .i64 0, .int .i64 0, .int .i64 1, .string ⟨#[97]⟩, .int .u64 0, .int .i64 0, .int .i64 0, .int .i64 7, .string ⟨#[]⟩, .int .u64 0, .int .i64 1, .int .i64 0, .int .i64 5, .string ⟨#[]⟩, .int .u64 7, .int .i64 0, .int .i64 0, .int .i64 0, .string ⟨#[]⟩, .int .u64 0, .int .i64 0, .int .i64 0] 47) = W := ⟨_, rfl⟩
  obtain ⟨g, hg⟩ : ∃ g, w.heap.size = g := ⟨_, rfl⟩
  have S1 : Hid (Seen w1 (g + 1) 5 (some ⟨g, 0, none⟩) 5 5 (rv L5)) := Lib.hid (hw1 ▸ hg ▸ seen5 w)
  have B1 : Hid (Below g w w1) := Lib.hid (hw1 ▸ (Below.refl _ _).alloc (by omega) _)
  have hs1 : Hid (g + 1 ≤ w1.heap.size) := Lib.hid (by rw [← hw1, World.size_alloc]; omega)
  have V1 := Lib.hid (value_any L5 (some ⟨g, 0, none⟩) 5 5 (g + 1) 2 [] none 0 0 rfl (by decide) rfl (by decide) w1 S1.out (seen_nil _ _) hs1.out)
  rw [fv1] at V1
  go_enter Try.func6, Try.ntmps6
  go_wp2_with fail
  refine V1.out.mono ?_
  rintro e w2 ⟨he, hb2⟩
  replace he : e = .returned (.tuple #[.agg #[.int .i64 7, .string ⟨#[97]⟩, .int .u64 0, .string ⟨#[]⟩, .string ⟨#[]⟩, .string ⟨#[]⟩], .int .i64 0]) := he
  subst he
  have S2 := Lib.hid (S1.out.below (hb2.mono hs1.out))
  have B2 := Lib.hid (B1.out.trans (hb2.mono (by have := hs1.out; omega)))
  have hs2 : Hid (g + 1 ≤ w2.heap.size) := Lib.hid (Nat.le_trans hs1.out hb2.size)
  obtain ⟨w3, hw3⟩ : ∃ W, (w2.alloc (.cells #[.int .i64 0, .string ⟨#[]⟩, .int .u64 0, .string ⟨#[]⟩, .string ⟨#[]⟩, .string ⟨#[]⟩] 41)).setRow w2.heap.size (valA vx) = W := ⟨_, rfl⟩
  have hw3' : w2.alloc (.cells (valA vx) 41) = w3 := by rw [← hw3]; exact (World.setRow_alloc_new w2 _ _ _).symm
  have Zw2 := Lib.hid (Whole.new w2 41 #[.int .i64 0, .string ⟨#[]⟩, .int .u64 0, .string ⟨#[]⟩, .string ⟨#[]⟩, .string ⟨#[]⟩])
  obtain ⟨g3, hg3⟩ : ∃ q, w2.heap.size = q := ⟨_, rfl⟩
  rw [hg3] at hw3 Zw2
  have b3 : Below w2.heap.size w2 w3 := hw3' ▸ (Below.refl _ _).alloc (Nat.le_refl _) _
  have S3 := Lib.hid (S2.out.below (b3.mono hs2.out))
  have B3 := Lib.hid (B2.out.trans (b3.mono (by have := hs2.out; omega)))
  have hs3 : Hid (g + 1 ≤ w3.heap.size) := Lib.hid (Nat.le_trans hs2.out b3.size)
  have X3 : Hid (Whole w3 g3 41 (valA vx)) := Lib.hid (hw3' ▸ hg3 ▸ Whole.new w2 41 _)
  have V3 := Lib.hid (value_any L5 (some ⟨g, 0, none⟩) 5 5 (g + 1) 4 [] none 0 0 rfl (by decide) rfl (by decide) w3 S3.out (seen_nil _ _) hs3.out)
  rw [fv2] at V3
  clear hb2 b3 hw3'
  go_wp2_with (refine wpList_store_row rfl 41 (.tmp 2) (.tmp 19) rfl g3 (valA vx) rfl rfl 41 (valA v0) Zw2.out rfl rfl (val_one _) ?_)
  refine V3.out.mono ?_
  rintro e w4 ⟨he, hb4⟩
  replace he : e = .returned (.tuple #[.agg #[.int .i64 0, .string ⟨#[]⟩, .int .u64 0, .string ⟨#[]⟩, .string ⟨#[]⟩, .string ⟨#[]⟩], .int .i64 5]) := he
  subst he
  have S4 := Lib.hid (S3.out.below (hb4.mono hs3.out))
  have B4 := Lib.hid (B3.out.trans (hb4.mono (by have := hs3.out; omega)))
  have hs4 : Hid (g + 1 ≤ w4.heap.size) := Lib.hid (Nat.le_trans hs3.out hb4.size)
  have X4 := Lib.hid (X3.out.bel hb4)
  obtain ⟨w5, hw5⟩ : ∃ W, (w4.alloc (.cells #[.int .i64 0, .string ⟨#[]⟩, .int .u64 0, .string ⟨#[]⟩, .string ⟨#[]⟩, .string ⟨#[]⟩] 41)).setRow w4.heap.size (valA v0) = W := ⟨_, rfl⟩
  have hw5' : w4.alloc (.cells (valA v0) 41) = w5 := by rw [← hw5]; exact (World.setRow_alloc_new w4 _ _ _).symm
  have Zw4 := Lib.hid (Whole.new w4 41 #[.int .i64 0, .string ⟨#[]⟩, .int .u64 0, .string ⟨#[]⟩, .string ⟨#[]⟩, .string ⟨#[]⟩])
  obtain ⟨g5, hg5⟩ : ∃ q, w4.heap.size = q := ⟨_, rfl⟩
  rw [hg5] at hw5 Zw4
  have b5 : Below w4.heap.size w4 w5 := hw5' ▸ (Below.refl _ _).alloc (Nat.le_refl _) _
  have S5 := Lib.hid (S4.out.below (b5.mono hs4.out))
  have BB5 := Lib.hid (B4.out.trans (b5.mono (by have := hs4.out; omega)))
  have hs5 : Hid (g + 1 ≤ w5.heap.size) := Lib.hid (Nat.le_trans hs4.out b5.size)
  have X5 := Lib.hid (X4.out.bel b5)
  have b6 : Below w5.heap.size w5 (w5.alloc (.cells #[.int .i64 8] 3)) := (Below.refl _ _).alloc (Nat.le_refl _) _
  have S6 := Lib.hid (S5.out.below (b6.mono hs5.out))
  have B6 := Lib.hid (BB5.out.trans (b6.mono (by have := hs5.out; omega)))
  have hs6 : Hid (g + 1 ≤ (w5.alloc (.cells #[.int .i64 8] 3)).heap.size) := Lib.hid (Nat.le_trans hs5.out b6.size)
  have X6 := Lib.hid (X5.out.bel b6)
  have V6 := Lib.hid (value_any L5 (some ⟨g, 0, none⟩) 5 5 (w5.heap.size + 1) 2 [8] (some ⟨w5.heap.size, 0, none⟩) 1 1 rfl (by decide) rfl (by decide) (w5.alloc (.cells #[.int .i64 8] 3)) (S6.out.more (by have := hs5.out; omega)) (seen_lit w5 3 (iv [8])) (by rw [World.size_alloc]; omega))
  rw [fv3] at V6
  clear hb4 b5 b6 hw5'
  go_wp2_with (refine wpList_store_row rfl 41 (.tmp 4) (.tmp 24) rfl g5 (valA v0) rfl rfl 41 (valA v0) Zw4.out rfl rfl (val_one _) ?_)
  refine V6.out.mono ?_
  rintro e w7 ⟨he, hb7⟩
  replace he : e = .returned (.tuple #[.agg #[.int .i64 0, .string ⟨#[]⟩, .int .u64 0, .string ⟨#[]⟩, .string ⟨#[]⟩, .string ⟨#[]⟩], .int .i64 9]) := he
  subst he
  have S7 := Lib.hid (S6.out.below (hb7.mono hs6.out))
  have B7 := Lib.hid (B6.out.trans (hb7.mono (by have := hs6.out; omega)))
  have hs7 : Hid (g + 1 ≤ w7.heap.size) := Lib.hid (Nat.le_trans hs6.out hb7.size)
  have X7 := Lib.hid (X6.out.bel hb7)
  obtain ⟨w8, hw8⟩ : ∃ W, (w7.alloc (.cells #[.int .i64 0, .string ⟨#[]⟩, .int .u64 0, .string ⟨#[]⟩, .string ⟨#[]⟩, .string ⟨#[]⟩] 41)).setRow w7.heap.size (valA v0) = W := ⟨_, rfl⟩
  have hw8' : w7.alloc (.cells (valA v0) 41) = w8 := by rw [← hw8]; exact (World.setRow_alloc_new w7 _ _ _).symm
  have Zw7 := Lib.hid (Whole.new w7 41 #[.int .i64 0, .string ⟨#[]⟩, .int .u64 0, .string ⟨#[]⟩, .string ⟨#[]⟩, .string ⟨#[]⟩])
  obtain ⟨g8, hg8⟩ : ∃ q, w7.heap.size = q := ⟨_, rfl⟩
  rw [hg8] at hw8 Zw7
  have b8 : Below w7.heap.size w7 w8 := hw8' ▸ (Below.refl _ _).alloc (Nat.le_refl _) _
  have S8 := Lib.hid (S7.out.below (b8.mono hs7.out))
  have B8 := Lib.hid (B7.out.trans (b8.mono (by have := hs7.out; omega)))
  have hs8 : Hid (g + 1 ≤ w8.heap.size) := Lib.hid (Nat.le_trans hs7.out b8.size)
  have X8 := Lib.hid (X7.out.bel b8)
  have BY := Lib.hid (pbytes_any L5 (some ⟨g, 0, none⟩) 5 5 (g + 1) rfl (by decide) (by decide) w8 S8.out hs8.out)
  rw [fb5, show B5.length = 18 from rfl] at BY
  clear hb7 b8 hw8'
  go_wp2_with (refine wpList_store_row rfl 41 (.tmp 6) (.tmp 30) rfl g8 (valA v0) rfl rfl 41 (valA v0) Zw7.out rfl rfl (val_one _) ?_)
  refine BY.out.mono ?_
  rintro e w9 ⟨A9, c9, rfl, hc9, o9, hb9⟩
  have S9 := Lib.hid (S8.out.below (hb9.mono hs8.out))
  have B9 := Lib.hid (B8.out.trans (hb9.mono (by have := hs8.out; omega)))
  have hs9 : Hid (g + 1 ≤ w9.heap.size) := Lib.hid (Nat.le_trans hs8.out hb9.size)
  have X9 := Lib.hid (X8.out.bel hb9)
  have NC := Lib.hid (newC_any A9 c9 w9.heap.size B5 w9 (GivesB.seen o9) (Nat.le_refl _) (by decide))
  clear hb9 o9
  go_wp2_with fail
  refine NC.out.mono ?_
  rintro e w10 ⟨gc, sv, rfl, C10, hb10⟩
  have S10 := Lib.hid (S9.out.below (hb10.mono hs9.out))
  have B10 := Lib.hid (B9.out.trans (hb10.mono (by have := hs9.out; omega)))
  have hs10 : Hid (g + 1 ≤ w10.heap.size) := Lib.hid (Nat.le_trans hs9.out hb10.size)
  have X10 := Lib.hid (X9.out.bel hb10)
  have hgc : Hid (w9.heap.size ≤ gc) := Lib.hid C10.1
  have RD := Lib.hid (pread_any w9.heap.size gc sv B5 w10 C10 (by decide) b5_byte)
  rw [fr] at RD
  clear C10 hb10
  go_wp2_with fail
  refine RD.out.mono ?_
  rintro e w11 ⟨v11, rfl, C11, O11, _, hl11⟩
  have o11 := hl11 L5 rfl
  obtain ⟨A11, c11, rfl, _⟩ := own_form o11
  have S11 := Lib.hid (S10.out.only O11 hs10.out (fun k hk e => by have := hgc.out; have := hs9.out; omega))
  have B11 := Lib.hid (B10.out.trans (O11.below (by have := hs10.out; omega) (fun k e => by have := hgc.out; have := hs9.out; omega)))
  have hs11 : Hid (g + 1 ≤ w11.heap.size) := Lib.hid (Nat.le_trans hs10.out O11.size)
  have X11 := Lib.hid (X10.out.only O11 (fun e => by have := X9.out.lt; have := hgc.out; omega))
  have CC11 := Lib.hid C11
  have b12 : Below w11.heap.size w11 (w11.alloc (.cells #[.int .i64 0, .string ⟨#[]⟩, .int .u64 0, .int .i64 0, .int .i64 0] 47)) := (Below.refl _ _).alloc (Nat.le_refl _) _
  have S12 := Lib.hid (S11.out.below (b12.mono hs11.out))
  have B12 := Lib.hid (B11.out.trans (b12.mono (by have := hs11.out; omega)))
  have hs12 := Lib.hid (Nat.le_trans hs11.out b12.size)
  have X12 := Lib.hid (X11.out.bel b12)
  have C12 := Lib.hid (CC11.out.only (Only.of_below b12 Nob) (fun _ _ h => h))
  have BZ := Lib.hid (pbytes_any [zr0] (some ⟨w11.heap.size, 0, none⟩) 1 1 (w11.heap.size + 1) rfl (by decide) (by decide) (w11.alloc (.cells #[.int .i64 0, .string ⟨#[]⟩, .int .u64 0, .int .i64 0, .int .i64 0] 47)) (seen_raw w11 zr0) (by rw [World.size_alloc]; omega))
  rw [fb1] at BZ
  clear C11 O11 o11 hl11 b12
  go_wp2_with fail
  refine BZ.out.mono ?_
  rintro e w13 ⟨A13, c13, rfl, _, o13, hb13⟩
  have S13 := Lib.hid (S12.out.below (hb13.mono hs12.out))
  have B13 := Lib.hid (B12.out.trans (hb13.mono (by have := hs12.out; omega)))
  have hs13 := Lib.hid (Nat.le_trans hs12.out hb13.size)
  have X13 := Lib.hid (X12.out.bel hb13)
  have C13 := Lib.hid (C12.out.only (Only.of_below hb13 Nob) (fun _ _ h => h))
  have CV : (convert 22 9 (.slice A13 2 c13)).run Try.prog w13 = .ok (.string (strOf [0, 1])) w13 := conv_seen (bs := [0, 1]) (GivesB.seen o13)
  have t1 : ((strOf [0, 1]).toList == [0, 1]) = true := by rw [ByteArray.toList_eq]; decide
  have x0 : w13.cell? ⟨g3, 0, none⟩ = some (.int .i64 7) := X13.out.cell 0
  have x1 : w13.cell? ⟨g3, 1, none⟩ = some (.string ⟨#[97]⟩) := X13.out.cell 1
  have x2 : w13.cell? ⟨g3, 2, none⟩ = some (.int .u64 0) := X13.out.cell 2
  have x3 : w13.cell? ⟨g3, 3, none⟩ = some (.string ⟨#[]⟩) := X13.out.cell 3
  have x4 : w13.cell? ⟨g3, 4, none⟩ = some (.string ⟨#[]⟩) := X13.out.cell 4
  have x5 : w13.cell? ⟨g3, 5, none⟩ = some (.string ⟨#[]⟩) := X13.out.cell 5
  have EV : ∀ W, (binOp .eql 41 (.agg #[.int .i64 7, .string ⟨#[97]⟩, .int .u64 0, .string ⟨#[]⟩, .string ⟨#[]⟩, .string ⟨#[]⟩]) (.agg #[.int .i64 7, .string ⟨#[97]⟩, .int .u64 0, .string ⟨#[]⟩, .string ⟨#[]⟩, .string ⟨#[]⟩])).run Try.prog W = .ok (.bool true) W := fun W => eqv_self vx W
  have EN := Lib.hid (endC_any w9.heap.size gc sv B5 18 0 w13 C13.out (by decide) (by decide))
  rw [show endErr B5 18 0 = 0 by decide] at EN
  generalize strOf [0, 1] = T at CV t1
  clear hb13 o13
  go_wp2_with fail
  refine EN.out.mono ?_
  rintro e w14 ⟨rfl, _, O14⟩
  have S14 := Lib.hid (S13.out.only O14 hs13.out (fun k hk e => by have := hgc.out; have := hs9.out; omega))
  have B14 := Lib.hid (B13.out.trans (O14.below (by have := hs13.out; omega) (fun k e => by have := hgc.out; have := hs9.out; omega)))
  have hs14 := Lib.hid (Nat.le_trans hs13.out O14.size)
  have H14 := Lib.hid (pholds_any L5 (some ⟨g, 0, none⟩) 5 5 (g + 1) rfl (by decide) w14 S14.out hs14.out)
  rw [fh5] at H14
  clear O14 x0 x1 x2 x3 x4 x5 CV t1
  go_wp2_with fail
  refine H14.out.mono ?_
  rintro e w15 ⟨rfl, hb15⟩
  have S15 := Lib.hid (S14.out.below (hb15.mono hs14.out))
  have B15 := Lib.hid (B14.out.trans (hb15.mono (by have := hs14.out; omega)))
  have hs15 := Lib.hid (Nat.le_trans hs14.out hb15.size)
  have H15 := Lib.hid (pholds_any L4 (some ⟨g, 0, none⟩) 4 5 (g + 1) rfl (by decide) w15 (S15.out.front (m := 4) (by decide) rfl) hs15.out)
  rw [fh4] at H15
  clear hb15
  go_wp2_with fail
  refine H15.out.mono ?_
  rintro e w16 ⟨rfl, hb16⟩
  have B16 := Lib.hid (B15.out.trans (hb16.mono (by have := hs15.out; omega)))
  clear hb16
  go_wp2_with fail
  go_ret
  exact ⟨rfl, by rw [hg]; exact B16.out⟩
end Go.Proofs.Ytmojclbejmnikaa
