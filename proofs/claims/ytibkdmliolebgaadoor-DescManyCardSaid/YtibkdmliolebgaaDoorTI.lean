/-
  The program's cutter, and what it gives. Conditions: texts of at most a hundred thousand bytes.
-/
import Derived.Test.YtibkdmliolebgaaDoorTH
namespace Go.Proofs.YtibkdmliolebgaaDoor
open Go Go.RowKit
set_option maxRecDepth 100000

/-- What cutter gives. -/
def MakesCut (w : World) (s : ByteArray) (e : Ending) (w' : World) : Prop :=
  ∃ b, e = .returned (.func (.func 45) #[] #[.pointer (some ⟨b, 0, none⟩)]) ∧ Whole w' b 9 #[.string s] ∧ w.heap.size ≤ b ∧ Below w.heap.size w w'
theorem cutter_any (s : ByteArray) (w : World) : Calls Tryd.prog 34 #[.string s] w (MakesCut w s) := by
  have H1 := Lib.hid (Whole.new w 9 #[.string s])
  go_enter Tryd.func34, Tryd.ntmps34
  go_wp2
  go_ret
  exact ⟨w.heap.size, rfl, H1.out, Nat.le_refl _, (Below.refl _ _).alloc (Nat.le_refl _) _⟩

/-- What a call of it tells, and leaves. -/
def Cuts (w : World) (b : Nat) (r : List UInt8) (e : Ending) (w' : World) : Prop :=
  e = .returned (.tuple #[.string (tx (r.take (fsM r))), .string (tx (r.drop (fsM r)))]) ∧ Whole w' b 9 #[.string (tx (r.drop (fsM r)))] ∧ Only (fun k => k = b) w w'
set_option maxHeartbeats 4000000 in
theorem cut1_any (r : List UInt8) (hs : r.length ≤ 100000) (b : Nat) (w : World) (hb : Whole w b 9 #[.string (tx r)]) : Calls Tryd.prog 45 #[.pointer (some ⟨b, 0, none⟩)] w (Cuts w b r) := by
  obtain ⟨n, hn⟩ : ∃ n, r.length = n := ⟨_, rfl⟩
  have hts : (tx r).size = n := by rw [tx_size, hn]
  have C1 := Lib.hid (fun W => fsize_any r hs W)
  unfold Cuts
  have hle := fs_le r
  obtain ⟨f, hf⟩ : ∃ f, fsM r = f := ⟨_, rfl⟩
  rw [hf] at C1 hle ⊢
  have c1 := tx_cut r 0 f
  rw [List.drop_zero] at c1
  have c2 := tx_cut r f n
  rw [List.take_of_length_le (by omega)] at c2
  rw [hn] at hle
  have i0 : (0 : Int) ≤ (f : Int) := by omega
  have i1 : (f : Int) ≤ (n : Int) := by omega
  clear hf hn
  generalize tx (r.take f) = s1 at *
  generalize tx (r.drop f) = s2 at *
  generalize tx r = s at *
  have hc := hb.cell 0
  simp only [List.getElem?_toArray, List.getElem?_cons_zero] at hc
  have HB := Lib.hid hb
  clear hb
  go_enter Tryd.func45, Tryd.ntmps45
  go_wp2_with (go_at_call 31; refine (C1.out _).mono ?_; rintro e w1 ⟨rfl, b1⟩; have hb1 := HB.out.only (Only.of_below b1 Nob) (fun h => h); have d1 := hb1.cell 0; have d2 := hb1.frozen 0; simp only [List.getElem?_toArray, List.getElem?_cons_zero] at d1; have HB1 := Lib.hid (And.intro hb1 b1); clear hb1 b1)
  obtain ⟨hb1, b1⟩ := HB1.out
  have HW2 := Lib.hid (And.intro (hb1.put 0 (.string s2)) ((Only.of_below b1 (fun k => k = b)).setCell (p := ⟨b, 0, none⟩) (.inl rfl) (.string s2)))
  have d3 : (w1.setCell { block := b, off := 0 } (Value.string s2)).cell? ⟨b, 0, none⟩ = some (.string s2) := HW2.out.1.cell 0
  clear hb1 b1 d1 d2 hc
  generalize w1.setCell { block := b, off := 0 } (Value.string s2) = w2 at *
  have d4 : ∀ k, (w2.drewN k).cell? ⟨b, 0, none⟩ = some (.string s2) := fun _ => d3
  have d5 : World.cell? { heap := w2.heap, tape := w2.tape, drawn := w2.drawn + 1, os := w2.os, output := w2.output } ⟨b, 0, none⟩ = some (.string s2) := d3
  refine wp_region_still_lit (by kernel_rfl) (by kernel_rfl) ?_
  repeat still_step
  refine wpStill_nil ?_
  go_wp2_with fail
  go_ret2
  exact ⟨rfl, HW2.out.1, HW2.out.2.drew⟩
end Go.Proofs.YtibkdmliolebgaaDoor
