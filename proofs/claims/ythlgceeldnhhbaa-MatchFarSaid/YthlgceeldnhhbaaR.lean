/-
  The contract of drop: a place that is too far back is forgotten. Conditions: the chains stand as told (ChAt), their things are where they should be (Kx.Good).
-/
import Derived.Test.YthlgceeldnhhbaaQ
namespace Go.Proofs.Ythlgceeldnhhbaa
open Go.RowKit
set_option maxRecDepth 100000

/-- The chains stand; only the map's and the row's blocks have changed. -/
def Kept (k : Kx) (h : Nat) (w : World) (e : Ending) (w' : World) : Prop := e = .returned (.tuple #[]) ∧ ChAt k w' h ∧ Only (fun i => i = k.M ∨ i = k.g) w w'

theorem drop_no {k : Kx} (h : Nat) (x : Int) (hx : x < 0) (w : World) (H : ChAt k w h) : Calls Try.prog 25 #[.pointer (some ⟨k.C, 0, none⟩), .int .i64 x] w (Kept k h w) := by
  have HH := Lib.hid H; clear H
  go_enter Try.func25, Try.ntmps25
  go_wp2_with fail
  refine bodyPost_ret (results_none rfl _ _ _) rfl ?_
  exact ⟨rfl, HH.out, Only.refl _ _⟩

theorem ChAt.map {k : Kx} {w w' : World} {h h' : Nat} (G : k.Good) (H : ChAt k w h) (hh : h ≤ h') (hm : MapAt w' k.M h') (ho : Only (fun i => i = k.M) w w') : ChAt k w' h' := by
  obtain ⟨zs, h1, h2, h3⟩ := H.ah
  exact ⟨H.ch.only ho (fun e => H.mp.ne H.ch e.symm), hm, ⟨zs, h1, fun z hz => by have := h2 z hz; omega, h3.only ho (fun e => H.mp.ne h3 e.symm)⟩, H.seen.only ho H.size (fun i hi e => by have := G.M; omega), Nat.le_trans H.size ho.size⟩

set_option maxHeartbeats 1000000 in
theorem drop_yes {k : Kx} (G : k.Good) (h a : Nat) (ha : a + 3 ≤ k.n) (w : World) (H : ChAt k w h) : Calls Try.prog 25 #[.pointer (some ⟨k.C, 0, none⟩), .int .i64 a] w (Kept k h w) := by
  have C1 := Lib.hid (beginning_yes G h a ha w H)
  obtain ⟨kl, hkl⟩ := key_at G.bytes a
  have HKL := Lib.hid hkl
  have HG := Lib.hid G
  unfold three at C1 HKL hkl
  obtain ⟨y0, e0⟩ : ∃ y, k.bs.getD a 0 = y := ⟨_, rfl⟩
  obtain ⟨y1, e1⟩ : ∃ y, k.bs.getD (a + 1) 0 = y := ⟨_, rfl⟩
  obtain ⟨y2, e2⟩ : ∃ y, k.bs.getD (a + 2) 0 = y := ⟨_, rfl⟩
  rw [e0, e1, e2] at C1 HKL
  clear e0 e1 e2 hkl G
  have HH := Lib.hid H; clear H
  have da : decide ((a : Int) < 0) = false := decide_eq_false (by omega)
  go_enter Try.func25, Try.ntmps25
  go_wp2_with fail
  refine (C1.out).mono ?_; rintro e w1 ⟨rfl, hb1⟩
  have hC1 := HH.out.below hb1
  have hW := Whole.new w1 50 #[.int .u8 y0, .int .u8 y1, .int .u8 y2]
  have hC2 := hC1.alloc (.cells #[.int .u8 y0, .int .u8 y1, .int .u8 y2] 50)
  have hB2 := hb1.alloc hb1.size (.cells #[.int .u8 y0, .int .u8 y1, .int .u8 y2] 50)
  have c1 := hC2.c1
  have v0 : (w1.alloc (.cells #[.int .u8 y0, .int .u8 y1, .int .u8 y2] 50)).cell? ⟨w1.heap.size, 0, none⟩ = some (.int .u8 y0) := hW.cell 0
  have v1 : (w1.alloc (.cells #[.int .u8 y0, .int .u8 y1, .int .u8 y2] 50)).cell? ⟨w1.heap.size, 1, none⟩ = some (.int .u8 y1) := hW.cell 1
  have v2 : (w1.alloc (.cells #[.int .u8 y0, .int .u8 y1, .int .u8 y2] 50)).cell? ⟨w1.heap.size, 2, none⟩ = some (.int .u8 y2) := hW.cell 2
  obtain ⟨p, hp, hlk⟩ := hC2.mp.drew.lookup HKL.out
  have HC2 := Lib.hid hC2
  have HB2 := Lib.hid hB2
  clear hb1 hC1 hW hC2 hB2 HH
  obtain ⟨g1, hg1⟩ : ∃ g, w1.heap.size = g := ⟨_, rfl⟩
  go_wp2_with fail
  rw [hg1] at v0 v1 v2
  generalize w1.alloc (.cells #[.int .u8 y0, .int .u8 y1, .int .u8 y2] 50) = W at *
  clear hg1 C1
  have hlk' : (Instr.lookup 46 (.map (some k.M)) (.agg #[.int .u8 y0, .int .u8 y1, .int .u8 y2]) false).run Try.prog { W with drawn := W.drawn + 1 } = .ok (.int .i64 p) { W with drawn := W.drawn + 1 } := hlk
  by_cases hpa : p = a
  · subst hpa
    refine wp_region_still_lit (by kernel_rfl) (by kernel_rfl) ?_
    repeat still_step
    refine wpStill_nil ?_
    have c1d : ({ W with drawn := W.drawn + 1 } : World).cell? ⟨k.C, 1, none⟩ = some (.map (some k.M)) := c1
    have v0d : ({ W with drawn := W.drawn + 1 } : World).cell? ⟨g1, 0, none⟩ = some (.int .u8 y0) := v0
    have v1d : ({ W with drawn := W.drawn + 1 } : World).cell? ⟨g1, 1, none⟩ = some (.int .u8 y1) := v1
    have v2d : ({ W with drawn := W.drawn + 1 } : World).cell? ⟨g1, 2, none⟩ = some (.int .u8 y2) := v2
    have HC3 : Hid (ChAt k ({ W with drawn := W.drawn + 1 } : World) h) := Lib.hid (HC2.out.drewN 1)
    have HB3 : Hid (Below w.heap.size w ({ W with drawn := W.drawn + 1 } : World)) := Lib.hid (below_drew HB2.out)
    generalize ({ W with drawn := W.drawn + 1 } : World) = W2 at c1d v0d v1d v2d HC3 HB3 ⊢
    clear hlk hlk' HC2 HB2 v0 v1 v2 c1
    obtain ⟨w3, hdel, hm3, ho3⟩ := HC3.out.mp.drew.drop HKL.out 0
    have HM3 := Lib.hid hm3; have HO3 := Lib.hid ho3
    clear hm3 ho3
    go_wp2_with fail
    refine wp_region_still_tail 5 (by kernel_rfl) (by kernel_rfl) ?_
    simp only [List.take_succ_cons, List.take_zero, List.drop_succ_cons, List.drop_zero]
    repeat still_step
    refine wpStill_nil ?_
    have hdel' : (Builtin.delete_ #[46, 50] 0 #[.map (some k.M), .agg #[.int .u8 y0, .int .u8 y1, .int .u8 y2]]).run Try.prog { W2 with drawn := W2.drawn + 1 } = .ok (.tuple #[]) w3 := hdel
    go_wp2_with fail
    go_end0
    refine ⟨rfl, ?_, ?_⟩
    · exact ChAt.map HG.out (HC3.out.drewN 1) (Nat.le_refl _) HM3.out HO3.out
    · exact (((Only.of_below HB3.out _).drewN 1).trans (HO3.out.mono (fun i _ hi => .inl hi)))
  · have dp : ((p : Int) == a) = false := by simp; omega
    have dp' : (p == a) = false := by simpa using hpa
    refine wp_region_still_lit (by kernel_rfl) (by kernel_rfl) ?_
    repeat still_step
    refine wpStill_nil ?_
    go_wp2_with fail
    go_end0
    exact ⟨rfl, HC2.out.drewN 1, (Only.of_below HB2.out _).drewN 1⟩
end Go.Proofs.Ythlgceeldnhhbaa
