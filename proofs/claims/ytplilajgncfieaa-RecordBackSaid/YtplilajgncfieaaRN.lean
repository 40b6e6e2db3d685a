/-
  The first check of every statement on layer 12, called fixed, answers true. Conditions: none.
-/
import Derived.Test.YtplilajgncfieaaRM
import Derived.Test.YtplilajgncfieaaRE
import Derived.Lib.SlBytesConst
namespace Go.Proofs.Ytplilajgncfieaa
open Go.RowKit
set_option maxRecDepth 100000

theorem seen_mark (w : World) (t : TypeId) (xs : List Value) (fr : Nat × Nat) : Seen (w.alloc (.cells xs.toArray t fr)) (w.heap.size + 1) 1 (some ⟨w.heap.size, 0, none⟩) xs.length xs.length xs := by
  refine ⟨by simp, Nat.le_refl _, .inr ⟨_, rfl, fun _ => ⟨rfl, by simp, fun j x hx => ?_⟩⟩⟩
  rw [cell_of_row _ w.heap.size (0 + j) xs.toArray t fr (heap_alloc_new w _)]
  simpa using hx
theorem CursorAt.apart {w w' : World} {B g : Nat} {sv : Value} {bs : List Nat} {a : Nat} {err : Int} (h : CursorAt w B g sv bs a err) {g2 : Nat} (ho : Only (fun k => k = g2) w w') (hne : g ≠ g2) {cs : Array Value} (hW : Whole w g2 59 cs) : CursorAt w' B g sv bs a err :=
  ⟨h.1, h.2.1.only ho hne, own_only h.2.2 ho (fun k hk => own_ne_whole h.2.2 hW (by decide) k hk)⟩
theorem endL_lt (a b c : Int) : ∀ x ∈ endL a b c, x < 256 := by
  intro x hx
  simp only [endL, List.mem_append] at hx
  rcases hx with ((h | h) | h) | h <;> exact putL_lt _ _ x h
theorem sharedL_lt (r : Rec) (b : Bool) : ∀ x ∈ sharedL r b, x < 256 := by
  intro x hx
  simp only [sharedL, List.mem_append] at hx
  rcases hx with (h | h) | h <;> exact putL_lt _ _ x h
theorem localL_lt (r : Rec) (b : Bool) : ∀ x ∈ localL r b, x < 256 := by
  intro x hx
  simp only [localL, List.mem_append] at hx
  rcases hx with ((h | h) | h) | h
  · exact putL_lt _ _ x h
  · exact putL_lt _ _ x h
  · exact sharedL_lt _ _ x h
  · exact strL_lt _ x h
theorem end234 : endL 2 3 4 = [80, 75, 5, 6, 0, 0, 0, 0, 2, 0, 2, 0, 3, 0, 0, 0, 4, 0, 0, 0, 0, 0] := by decide +kernel
theorem end234_is : EndIs (endL 2 3 4) 0 0 101010256 0 0 2 2 3 4 0 22 0 := ⟨by rw [end234]; decide +kernel, by rw [end234]; decide⟩
def pk57 : List Nat := [80, 75, 5, 7, 97, 97, 97, 97, 97, 97, 97, 97, 97, 97, 97, 97, 97, 97, 97, 97, 97, 97, 97, 97, 97, 97]
theorem pk57_is : EndIs pk57 0 0 117787472 24929 24929 24929 24929 1633771873 1633771873 24929 22 0 := ⟨by decide +kernel, by decide⟩
def ra : Rec := ⟨8, 0, 0, 0, 0, 3, ⟨#[97]⟩, 0⟩
theorem loc_a : localL ra true = [80, 75, 3, 4, 20, 0, 8, 0, 8, 0, 0, 0, 0, 0, 0, 0, 0, 0, 0, 0, 0, 0, 0, 0, 0, 0, 1, 0, 0, 0, 97] := by decide +kernel
theorem loc_is : LocIs (localL ra true) 0 0 67324752 20 8 8 0 0 0 0 0 1 0 30 0 := ⟨by rw [loc_a]; decide +kernel, by decide, by decide, by decide, by decide, by decide, by rw [loc_a]; decide⟩
theorem loc_res : nxt (localL ra true) 30 (errP ((67324752 : Int) == 67324752) (locR 20 8 8 0 0 0 0) 0) 1 true = ([97], 31, 0) := by rw [loc_a]; decide +kernel

set_option maxHeartbeats 4000000 in
theorem fixed_yes (w : World) : Calls Try.prog 6 #[] w fun e w' => e = .returned (.bool true) ∧ Below w.heap.size w w' := by
  have L1 := Lib.hid (endL_lt 2 3 4)
  have n1 : (endL 2 3 4).length = 22 := by rw [end234]; rfl
  have E1 := Lib.hid (fun B g sv W hW => readEnd_is B g sv (endL 2 3 4) 0 0 end234_is W hW (by omega) (by omega) L1.out)
  rw [show endE 101010256 0 0 2 2 0 0 = 0 by decide, show endV 2 3 4 0 = .tuple #[.int .i64 2, .int .i64 3, .int .i64 4] by simp [endV]] at E1
  have E2 := Lib.hid (fun B g sv W hW => readEnd_is B g sv pk57 0 0 pk57_is W hW (by decide) (by decide) (by decide))
  rw [show endE 117787472 24929 24929 24929 24929 24929 0 = 14 by decide, show endV 24929 1633771873 1633771873 14 = .tuple #[.int .i64 0, .int .i64 0, .int .i64 0] by simp [endV]] at E2
  have n3 : (localL ra true).length = 31 := by rw [loc_a]; rfl
  have E3 := Lib.hid (fun B g sv W hW => readLocal_is B g sv (localL ra true) 0 0 loc_is W hW (by omega) (by omega) (localL_lt ra true))
  rw [loc_res, recRes_of] at E3
  have hR : recOf ([97], 31, 0) 8 0 0 0 0 0 0 = ⟨8, 0, 0, 0, 0, 0, ⟨#[97]⟩, 0⟩ := rfl
  have hF : flOf ([97], 31, 0) 8 = true := by decide
  rw [hR, hF] at E3
  have V := Lib.hid (fun a b c W => end_any a b c W)
  have N1 := Lib.hid (fun A c W (hs : Seen W W.heap.size 1 A 22 c (bv (endL 2 3 4))) => by
    have h := newC_any A c W.heap.size (endL 2 3 4) W (by rw [n1]; exact hs) (Nat.le_refl _) (by omega)
    rw [n1] at h
    exact h)
  have N2 : Hid (∀ W, Calls Try.prog 15 #[.slice (some ⟨W.heap.size, 0, none⟩) 26 26] (W.alloc (.cells (bv pk57).toArray 5 (26, 27))) (NewC W pk57)) := Lib.hid (fun W => by
    refine (newC_any (some ⟨W.heap.size, 0, none⟩) 26 (W.heap.size + 1) pk57 (W.alloc (.cells (bv pk57).toArray 5 (26, 27))) (seen_mark W 5 (bv pk57) (26, 27)) (by simp) (by decide)).mono ?_
    rintro e w' ⟨g, sv, rfl, h1, h2⟩
    have hb : Below W.heap.size W (W.alloc (.cells (bv pk57).toArray 5 (26, 27))) := (Below.refl _ _).alloc (Nat.le_refl _) _
    exact ⟨g, sv, rfl, ⟨Nat.le_trans hb.size h1.1, h1.2.1, own_base h1.2.2 hb.size⟩, bel_after hb (Nat.le_refl _) h2⟩)
  have N3 := Lib.hid (fun A c W (hs : Seen W W.heap.size 1 A 31 c (bv (localL ra true))) => by
    have h := newC_any A c W.heap.size (localL ra true) W (by rw [n3]; exact hs) (Nat.le_refl _) (by omega)
    rw [n3] at h
    exact h)
  have LA := Lib.hid (fun W => local_any 8 0 0 0 0 3 ⟨#[97]⟩ 0 ⟨by decide, by decide, by decide⟩ (by decide) true W)
  have hz : (30 + (ByteArray.mk #[97]).size) = 31 := rfl
  rw [hz] at LA
  have BA := Lib.hid (fun W => behind_any 8 0 0 0 0 0 ⟨#[97]⟩ 0 ⟨by decide, by decide, by decide⟩ W)
  have X1 := Lib.hid (fun B g sv W (hW : CursorAt W B g sv (endL 2 3 4) 22 0) => endC_any B g sv (endL 2 3 4) 22 0 W hW (by omega) (by omega))
  rw [show endErr (endL 2 3 4) 22 0 = 0 by unfold endErr; simp [n1]] at X1
  have X2 := Lib.hid (fun B g sv bs a e W hW => errC_any B g sv bs a e W hW)
  clear L1 n1 n3 hR hF hz
  go_enter Try.func6, Try.ntmps6
  go_wp2_with fail
  refine (V.out 2 3 4 w).mono ?_
  rintro e w1 ⟨v1, rfl, ho1, hb1⟩
  obtain ⟨A1, k1, rfl, _, hs1⟩ := own_seen ho1
  have S1 := Lib.hid hs1; have B1 := Lib.hid hb1
  clear ho1 hs1 hb1
  go_wp2_with fail
  refine (N1.out A1 k1 w1 S1.out).mono ?_
  rintro e w2 ⟨g1, sv1, rfl, hc2, hb2⟩
  have C2 := Lib.hid hc2; have B2 := Lib.hid (bel_after B1.out (Nat.le_refl _) hb2)
  have hg1 : w.heap.size ≤ g1 := Nat.le_trans B1.out.size hc2.1
  clear hc2 hb2 S1 N1 B1
  go_wp2_with fail
  refine (E1.out _ g1 sv1 w2 C2.out).mono ?_
  rintro e w3 ⟨rfl, hc3, ho3⟩
  have C3 := Lib.hid hc3; have B3 : Hid (Below w.heap.size w w3) := Lib.hid (B2.out.trans (ho3.below B2.out.size (fun k hk => by omega)))
  clear hc3 ho3 C2 B2 E1
  simp only at C3
  have cv : (convert 29 29 (.slice (some ⟨w3.heap.size, 0, none⟩) 26 26)).run Try.prog (w3.alloc (.cells (List.toArray (Value.int IntKind.u8 80 :: Value.int IntKind.u8 75 :: Value.int IntKind.u8 5 :: Value.int IntKind.u8 7 :: Value.int IntKind.u8 97 :: Value.int IntKind.u8 97 :: Value.int IntKind.u8 97 :: Value.int IntKind.u8 97 :: Value.int IntKind.u8 97 :: Value.int IntKind.u8 97 :: Value.int IntKind.u8 97 :: Value.int IntKind.u8 97 :: Value.int IntKind.u8 97 :: Value.int IntKind.u8 97 :: Value.int IntKind.u8 97 :: Value.int IntKind.u8 97 :: Value.int IntKind.u8 97 :: Value.int IntKind.u8 97 :: Value.int IntKind.u8 97 :: Value.int IntKind.u8 97 :: Value.int IntKind.u8 97 :: Value.int IntKind.u8 97 :: Value.int IntKind.u8 97 :: Value.int IntKind.u8 97 :: Value.int IntKind.u8 97 :: Value.int IntKind.u8 97 :: [])) 5)) = .ok (.slice (some ⟨w3.heap.size, 0, none⟩) 26 26) (w3.alloc (.cells (List.toArray (Value.int IntKind.u8 80 :: Value.int IntKind.u8 75 :: Value.int IntKind.u8 5 :: Value.int IntKind.u8 7 :: Value.int IntKind.u8 97 :: Value.int IntKind.u8 97 :: Value.int IntKind.u8 97 :: Value.int IntKind.u8 97 :: Value.int IntKind.u8 97 :: Value.int IntKind.u8 97 :: Value.int IntKind.u8 97 :: Value.int IntKind.u8 97 :: Value.int IntKind.u8 97 :: Value.int IntKind.u8 97 :: Value.int IntKind.u8 97 :: Value.int IntKind.u8 97 :: Value.int IntKind.u8 97 :: Value.int IntKind.u8 97 :: Value.int IntKind.u8 97 :: Value.int IntKind.u8 97 :: Value.int IntKind.u8 97 :: Value.int IntKind.u8 97 :: Value.int IntKind.u8 97 :: Value.int IntKind.u8 97 :: Value.int IntKind.u8 97 :: Value.int IntKind.u8 97 :: [])) 5 (26, 27))) := Lib.run_convert_bytes_const w3 29 5 _ 26 26 Try.underlying29 Try.underlying5
  go_wp2_with fail
  clear cv
  refine (N2.out w3).mono ?_
  rintro e w4 ⟨g2, sv2, rfl, hc4, hb4⟩
  have C4 := Lib.hid hc4; have B4 := Lib.hid (B3.out.trans (hb4.mono B3.out.size)); have C14 := Lib.hid (C3.out.bel hb4)
  have h12 : g1 ≠ g2 := by have h1 := C3.out.2.1.lt; have h2 := hc4.1; omega
  have hg2 : w.heap.size ≤ g2 := Nat.le_trans B3.out.size hc4.1
  clear hc4 hb4 C3 B3 N2
  go_wp2_with fail
  refine (E2.out _ g2 sv2 w4 C4.out).mono ?_
  rintro e w5 ⟨rfl, hc5, ho5⟩
  have C5 := Lib.hid hc5; have B5 : Hid (Below w.heap.size w w5) := Lib.hid (B4.out.trans (ho5.below B4.out.size (fun k hk => by omega)))
  have C15 := Lib.hid (C14.out.apart ho5 h12 C4.out.2.1)
  clear hc5 ho5 C4 B4 C14 E2
  simp only at C5
  go_wp2_with fail
  refine (LA.out w5).mono ?_
  rintro e w6 ⟨v6, rfl, ho6, hb6⟩
  obtain ⟨A6, k6, rfl, _, hs6⟩ := own_seen ho6
  have S6 := Lib.hid hs6; have B6 := Lib.hid (B5.out.trans (hb6.mono B5.out.size)); have C6 := Lib.hid (C5.out.bel hb6); have C16 := Lib.hid (C15.out.bel hb6)
  clear ho6 hs6 hb6 C5 B5 C15 LA
  go_wp2_with fail
  refine (N3.out A6 k6 w6 S6.out).mono ?_
  rintro e w7 ⟨g3, sv3, rfl, hc7, hb7⟩
  have C37 := Lib.hid hc7; have B7 := Lib.hid (bel_after B6.out (Nat.le_refl _) hb7); have C27 := Lib.hid (C6.out.bel hb7); have C17 := Lib.hid (C16.out.bel hb7)
  have h13 : g1 ≠ g3 := by have h1 := C16.out.2.1.lt; have h2 := hc7.1; omega
  have h23 : g2 ≠ g3 := by have h1 := C6.out.2.1.lt; have h2 := hc7.1; omega
  have hg3 : w.heap.size ≤ g3 := Nat.le_trans B6.out.size hc7.1
  clear hc7 hb7 S6 N3 B6 C6 C16
  go_wp2_with fail
  refine (E3.out _ g3 sv3 w7 C37.out).mono ?_
  rintro e w8 ⟨rfl, hc8, ho8⟩
  have B8 : Hid (Below w.heap.size w w8) := Lib.hid (B7.out.trans (ho8.below B7.out.size (fun k hk => by omega)))
  have C28 := Lib.hid (C27.out.apart ho8 h23 C37.out.2.1); have C18 := Lib.hid (C17.out.apart ho8 h13 C37.out.2.1)
  clear hc8 ho8 C37 B7 C27 C17 E3
  have NW := Lib.hid (Whole.new w8 27 (recC rec0))
  have R9 : Hid (RecAt ((w8.alloc (.cells (recC rec0) 27)).setRow w8.heap.size (recC ⟨8, 0, 0, 0, 0, 0, ⟨#[97]⟩, 0⟩)) w8.heap.size ⟨8, 0, 0, 0, 0, 0, ⟨#[97]⟩, 0⟩) := Lib.hid (NW.out.setRow _)
  have NB := Lib.hid (below_setRow ((Below.refl w8.heap.size w8).alloc (Nat.le_refl _) (.cells (recC rec0) 27)) (g := w8.heap.size) (recC ⟨8, 0, 0, 0, 0, 0, ⟨#[97]⟩, 0⟩) (Nat.le_refl _))
  go_upto_region 6 with (refine wpList_store_row rfl 27 (.tmp 6) (.tmp 26) rfl w8.heap.size (recC ⟨8, 0, 0, 0, 0, 0, ⟨#[97]⟩, 0⟩) rfl rfl 27 (recC rec0) NW.out (rec_size _) rfl (rec_one _) ?_)
  have B9 := Lib.hid (bel_after B8.out (Nat.le_refl _) NB.out); have C29 := Lib.hid (C28.out.bel NB.out); have C19 := Lib.hid (C18.out.bel NB.out)
  simp only [recC, rec0] at B9 C29 C19 R9 ⊢
  obtain ⟨g6, hg6⟩ : ∃ g, w8.heap.size = g := ⟨_, rfl⟩
  rw [hg6] at B9 C29 C19 R9 ⊢
  clear NW NB B8 C28 C18 hg6
  generalize (w8.alloc _).setRow g6 _ = w9 at *
  try simp only [Act.put]
  go_wp2_with fail
  refine (V.out 0 0 0 w9).mono ?_
  rintro e w10 ⟨v10, rfl, ho10, hb10⟩
  obtain ⟨A10, k10, rfl, _, _⟩ := own_seen ho10
  have B10 := Lib.hid (bel_after B9.out (Nat.le_refl _) hb10); have C210 := Lib.hid (C29.out.bel hb10); have C110 := Lib.hid (C19.out.bel hb10); have R10 := Lib.hid (RecAt.bel R9.out hb10)
  clear ho10 hb10 B9 C29 C19 R9 V
  go_wp2_with fail
  refine (X1.out _ g1 sv1 w10 C110.out).mono ?_
  rintro e w11 ⟨rfl, hc11, ho11⟩
  have B11 : Hid (Below w.heap.size w w11) := Lib.hid (B10.out.trans (ho11.below B10.out.size (fun k hk => by omega)))
  have C211 := Lib.hid (C210.out.apart ho11 (Ne.symm h12) C110.out.2.1)
  have h6 : g6 ≠ g1 := Whole.ne R10.out C110.out.2.1 (by decide)
  have R11 : Hid (RecAt w11 g6 ⟨8, 0, 0, 0, 0, 0, ⟨#[97]⟩, 0⟩) := Lib.hid (Whole.only R10.out ho11 h6)
  clear hc11 ho11 C110 B10 C210 R10 X1
  go_wp2_with fail
  refine (X2.out _ g2 sv2 _ _ _ w11 C211.out).mono ?_
  rintro e _ ⟨rfl, rfl⟩
  obtain ⟨c0, cd, ck, c3, c4, c5, c6, c7⟩ := RecAt.cells R11.out
  simp only at c0 cd ck c3 c4 c5 c6 c7
  go_wp2_with fail
  refine (BA.out w11).mono ?_
  rintro e w12 ⟨v12, rfl, ho12, hb12⟩
  obtain ⟨A12, k12, rfl, _, _⟩ := own_seen ho12
  have B12 := Lib.hid (bel_after B11.out (Nat.le_refl _) hb12)
  clear ho12 hb12 c0 cd ck c3 c4 c5 c6 c7
  go_wp2_with fail
  go_ret
  exact ⟨rfl, B12.out⟩
end Go.Proofs.Ytplilajgncfieaa
