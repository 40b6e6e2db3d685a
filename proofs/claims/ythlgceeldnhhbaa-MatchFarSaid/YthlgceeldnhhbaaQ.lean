/-
  The contract of newest: a place of the chain, or none. Conditions: the chains stand as told (ChAt), their things are where they should be (Kx.Good).
-/
import Derived.Test.YthlgceeldnhhbaaN
namespace Go.Proofs.Ythlgceeldnhhbaa
open Go.RowKit
set_option maxRecDepth 100000

/-- A place below h, or none. -/
def Newest (h : Nat) (w : World) (e : Ending) (w' : World) : Prop := ∃ p : Int, -1 ≤ p ∧ p < h ∧ e = .returned (.int .i64 p) ∧ Below w.heap.size w w'

theorem newest_no {k : Kx} (G : k.Good) (h a : Nat) (ha : k.n < a + 3) (ha2 : a ≤ 200000) (w : World) (H : ChAt k w h) :
    Calls Try.prog 23 #[.pointer (some ⟨k.C, 0, none⟩), .int .i64 a] w (Newest h w) := by
  have C1 := Lib.hid (beginning_no G h a ha ha2 w H)
  go_enter Try.func23, Try.ntmps23
  go_wp2_with fail
  refine (C1.out).mono ?_; rintro e w1 ⟨rfl, hb1⟩; have B1 := Lib.hid hb1; clear hb1
  go_wp2_with fail
  go_ret
  exact ⟨-1, by omega, by omega, rfl, B1.out.alloc B1.out.size _⟩

set_option maxHeartbeats 1000000 in
theorem newest_yes {k : Kx} (G : k.Good) (h a : Nat) (ha : a + 3 ≤ k.n) (w : World) (H : ChAt k w h) :
    Calls Try.prog 23 #[.pointer (some ⟨k.C, 0, none⟩), .int .i64 a] w (Newest h w) := by
  have C1 := Lib.hid (beginning_yes G h a ha w H)
  obtain ⟨kl, hkl⟩ := key_at G.bytes a
  have HKL := Lib.hid hkl
  unfold three at C1 HKL hkl
  obtain ⟨y0, e0⟩ : ∃ y, k.bs.getD a 0 = y := ⟨_, rfl⟩
  obtain ⟨y1, e1⟩ : ∃ y, k.bs.getD (a + 1) 0 = y := ⟨_, rfl⟩
  obtain ⟨y2, e2⟩ : ∃ y, k.bs.getD (a + 2) 0 = y := ⟨_, rfl⟩
  rw [e0, e1, e2] at C1 HKL
  clear e0 e1 e2 hkl
  have HH := Lib.hid H; clear H
  go_enter Try.func23, Try.ntmps23
  go_wp2_with fail
  refine (C1.out).mono ?_; rintro e w1 ⟨rfl, hb1⟩
  have hC1 := HH.out.below hb1
  have hW := Whole.new w1 50 #[.int .u8 y0, .int .u8 y1, .int .u8 y2]
  have hC2 := hC1.alloc (.cells #[.int .u8 y0, .int .u8 y1, .int .u8 y2] 50)
  have hB2 := hb1.alloc hb1.size (.cells #[.int .u8 y0, .int .u8 y1, .int .u8 y2] 50)
  have c1 := hC2.c1
  have v0 : (w1.alloc (.cells #[.int .u8 y0, .int .u8 y1, .int .u8 y2] 50)).cell? ⟨w1.heap.size, 0, none⟩ = some (.int .u8 y0) := hW.cell 0
  have v1 : (w1.alloc (.cells #[.int .u8 y0, .int .u8 y1, .int .u8 y2] 50)).cell? ⟨w1.heap.size, 1, none⟩ = some (.int .u8 y1) := hW.cell 1
  have v2 : (w1.alloc (.cells #[.int .u8 y0, .int .u8 y1, .int .u8 y2] 50)).cell? ⟨w1.heap.size, 2, none⟩ = some (.int .u8 y2) := hW.cell 2
  have hlk := hC2.mp.drew.look HKL.out
  have HB2 := Lib.hid (below_drew hB2)
  clear hb1 hC1 hW hC2 hB2 HH
  obtain ⟨g1, hg1⟩ : ∃ g, w1.heap.size = g := ⟨_, rfl⟩
  go_wp2_with fail
  rw [hg1] at v0 v1 v2
  generalize w1.alloc (.cells #[.int .u8 y0, .int .u8 y1, .int .u8 y2] 50) = W at *
  clear hg1 C1 HKL G ha
  rcases hlk with hlk | ⟨p, hp, hlk⟩
  · have hlk' : (Instr.lookup 46 (.map (some k.M)) (.agg #[.int .u8 y0, .int .u8 y1, .int .u8 y2]) true).run Try.prog { W with drawn := W.drawn + 1 } = .ok (.tuple #[.int .i64 0, .bool false]) { W with drawn := W.drawn + 1 } := hlk
    refine wp_region_still_lit (by kernel_rfl) (by kernel_rfl) ?_
    repeat still_step
    refine wpStill_nil ?_
    go_wp2_with fail
    go_ret
    exact ⟨-1, by omega, by omega, rfl, HB2.out⟩
  · have hlk' : (Instr.lookup 46 (.map (some k.M)) (.agg #[.int .u8 y0, .int .u8 y1, .int .u8 y2]) true).run Try.prog { W with drawn := W.drawn + 1 } = .ok (.tuple #[.int .i64 p, .bool true]) { W with drawn := W.drawn + 1 } := hlk
    refine wp_region_still_lit (by kernel_rfl) (by kernel_rfl) ?_
    repeat still_step
    refine wpStill_nil ?_
    go_wp2_with fail
    go_ret
    exact ⟨p, by omega, by omega, rfl, HB2.out⟩

theorem newest_any {k : Kx} (G : k.Good) (h a : Nat) (ha2 : a ≤ 200000) (w : World) (H : ChAt k w h) :
    Calls Try.prog 23 #[.pointer (some ⟨k.C, 0, none⟩), .int .i64 a] w (Newest h w) := by
  by_cases ha : a + 3 ≤ k.n
  · exact newest_yes G h a ha w H
  · exact newest_no G h a (by omega) ha2 w H
end Go.Proofs.Ythlgceeldnhhbaa
