/-
  Chains of places: where they stand in memory; the contract of beginning. Conditions: the chains stand as told (ChAt), their things are where they should be (Kx.Good).
-/
import Derived.Test.YthlgceeldnhhbaaK
import Derived.Laws.ResultCell
namespace Go.Proofs.Ythlgceeldnhhbaa
open Go.RowKit
set_option maxRecDepth 100000

/-- Where chains have their things: the bytes below block B, the chains' own block, the map's, the row's. -/
structure Kx where
  A : Option Addr
  n : Nat
  c : Nat
  B : Nat
  bs : List Nat
  C : Nat
  M : Nat
  g : Nat
  L : Nat
structure Kx.Good (k : Kx) : Prop where
  len : k.bs.length = k.n
  long : k.n ≤ 100000
  bytes : ∀ x ∈ k.bs, x < 256
  L : k.L = min k.n 32768
  C : k.B ≤ k.C
  M : k.B ≤ k.M
  g : k.B ≤ k.g

abbrev iz (zs : List Int) : List Value := zs.map fun z => Value.int .i64 z

structure ChAt (k : Kx) (w : World) (h : Nat) : Prop where
  ch : Whole w k.C 49 #[.slice k.A k.n k.c, .map (some k.M), .slice (some ⟨k.g, 0, none⟩) k.L k.L]
  mp : MapAt w k.M h
  ah : ∃ zs : List Int, zs.length = k.L ∧ (∀ z ∈ zs, -1 ≤ z ∧ (z < h ∨ z = 0)) ∧ Whole w k.g 3 (iz zs).toArray
  seen : Seen w k.B 1 k.A k.n k.c (bx k.bs)
  size : k.B ≤ w.heap.size

section
variable {k : Kx} {w w' : World} {h : Nat} {S : Nat → Prop}
theorem ChAt.c0 (H : ChAt k w h) : w.cell? ⟨k.C, 0, none⟩ = some (.slice k.A k.n k.c) := H.ch.cell 0
theorem ChAt.c1 (H : ChAt k w h) : w.cell? ⟨k.C, 1, none⟩ = some (.map (some k.M)) := H.ch.cell 1
theorem ChAt.c2 (H : ChAt k w h) : w.cell? ⟨k.C, 2, none⟩ = some (.slice (some ⟨k.g, 0, none⟩) k.L k.L) := H.ch.cell 2
theorem ChAt.only (H : ChAt k w h) (ho : Only S w w') (hC : ¬ S k.C) (hM : ¬ S k.M) (hg : ¬ S k.g) (hB : ∀ i, i < k.B → ¬ S i) : ChAt k w' h := by
  obtain ⟨zs, h1, h2, h3⟩ := H.ah
  exact ⟨H.ch.only ho hC, H.mp.only ho hM, ⟨zs, h1, h2, h3.only ho hg⟩, H.seen.only ho H.size hB, Nat.le_trans H.size ho.size⟩
theorem ChAt.below (H : ChAt k w h) (hb : Below w.heap.size w w') : ChAt k w' h := H.only (Only.of_below hb Nob) (fun h => h) (fun h => h) (fun h => h) (fun _ _ h => h)
theorem ChAt.drewN (H : ChAt k w h) (n : Nat) : ChAt k (w.drewN n) h := ⟨H.ch, H.mp, H.ah, H.seen, H.size⟩
theorem ChAt.alloc (H : ChAt k w h) (o : Obj) : ChAt k (w.alloc o) h := H.below ((Below.refl _ _).alloc (Nat.le_refl _) _)
end

/-- A place's first three bytes. -/
def three (bs : List Nat) (a : Nat) : Value := .agg #[.int .u8 (bs.getD a 0 : Nat), .int .u8 (bs.getD (a + 1) 0 : Nat), .int .u8 (bs.getD (a + 2) 0 : Nat)]
theorem getD_lt {bs : List Nat} (h : ∀ x ∈ bs, x < 256) (a : Nat) : bs.getD a 0 < 256 := by
  by_cases hl : a < bs.length
  · rw [List.getD, List.getElem?_eq_getElem hl]; exact h _ (List.getElem_mem hl)
  · rw [List.getD, List.getElem?_eq_none (by omega)]; simp
theorem key_at {bs : List Nat} (h : ∀ x ∈ bs, x < 256) (a : Nat) : ∃ kl, keyOf Try.prog 50 (three bs a) = some kl := key_three (getD_lt h _) (getD_lt h _) (getD_lt h _)

theorem below_drew {B : Nat} {u w : World} (h : Below B u w) : Below B u w.drew := ⟨h.os, h.tape, h.output, h.size, h.block⟩
theorem arr_size : (Try.prog.info? 50).map (·.size) = some 3 := by kernel_rfl

theorem results_arr {fn : Func} (h : fn.results = #[.cell 4 50, .tmp 5]) (tmps : Array Value) (w : World) (g : Nat) (x0 x1 x2 : Value) (b : Value) (hp : tmps.getD 4 undef = .pointer (some ⟨g, 0, none⟩)) (hb : tmps.getD 5 undef = b) (hg : Whole w g 50 #[x0, x1, x2]) :
    (results fn tmps).run Try.prog w = .ok (.tuple #[.agg #[x0, x1, x2], b]) w := by
  rw [results_cell_tmp h, hp, hb]
  simp [asAddr, Result.andThen]
  rw [run_loadVar_row w g 50 50 #[x0, x1, x2] (0, 0) _ hg Try.underlying50 rfl arr_size]

theorem beginning_no {k : Kx} (G : k.Good) (h a : Nat) (ha : k.n < a + 3) (ha2 : a ≤ 200000) (w : World) (H : ChAt k w h) :
    Calls Try.prog 24 #[.pointer (some ⟨k.C, 0, none⟩), .int .i64 a] w (Gives w (.tuple #[.agg #[.int .u8 0, .int .u8 0, .int .u8 0], .bool false])) := by
  have c0 := H.c0
  have hn := G.long
  have W0 : Hid (Whole (w.alloc (.cells #[.int .u8 0, .int .u8 0, .int .u8 0] 50)) w.heap.size 50 #[.int .u8 0, .int .u8 0, .int .u8 0]) := Lib.hid (Whole.new w 50 _)
  have BD : Hid (Below w.heap.size w (w.alloc (.cells #[.int .u8 0, .int .u8 0, .int .u8 0] 50))) := Lib.hid ((Below.refl _ _).alloc (Nat.le_refl _) _)
  have hlt : k.C < w.heap.size := H.ch.lt
  have hne : w.heap.size ≠ k.C := by omega
  have d0 : decide ((k.n : Int) - a < 3) = true := decide_eq_true (by omega)
  obtain ⟨A, n, c, B, bs, C, M, g, L⟩ := k
  simp only at c0 hn d0 hne ha ⊢
  clear H G
  go_enter Try.func24, Try.ntmps24
  go_wp2_with fail
  exact bodyPost_ret (results_arr rfl _ _ w.heap.size _ _ _ _ rfl rfl W0.out) rfl ⟨rfl, BD.out⟩

theorem beginning_yes {k : Kx} (G : k.Good) (h a : Nat) (ha : a + 3 ≤ k.n) (w : World) (H : ChAt k w h) :
    Calls Try.prog 24 #[.pointer (some ⟨k.C, 0, none⟩), .int .i64 a] w (Gives w (.tuple #[three k.bs a, .bool true])) := by
  have c0 := H.c0
  have hn := G.long
  have W0 : Hid (Whole (w.alloc (.cells #[.int .u8 0, .int .u8 0, .int .u8 0] 50)) w.heap.size 50 #[.int .u8 0, .int .u8 0, .int .u8 0]) := Lib.hid (Whole.new w 50 _)
  have BD : Hid (Below w.heap.size w (w.alloc (.cells #[.int .u8 0, .int .u8 0, .int .u8 0] 50))) := Lib.hid ((Below.refl _ _).alloc (Nat.le_refl _) _)
  have hlt : k.C < w.heap.size := H.ch.lt
  have hne : w.heap.size ≠ k.C := by omega
  have d0 : decide ((k.n : Int) - a < 3) = false := decide_eq_false (by omega)
  obtain ⟨b, o, hA, hbB, hcell⟩ := H.seen.bytes G.len (by omega)
  have x0 := hcell a (by omega)
  have x1 := hcell (a + 1) (by omega)
  have x2 := hcell (a + 2) (by omega)
  have hbw : b < w.heap.size := by have := H.size; omega
  have hne2 : w.heap.size ≠ b := by omega
  unfold three
  obtain ⟨y0, e0⟩ : ∃ y, k.bs.getD a 0 = y := ⟨_, rfl⟩
  obtain ⟨y1, e1⟩ : ∃ y, k.bs.getD (a + 1) 0 = y := ⟨_, rfl⟩
  obtain ⟨y2, e2⟩ : ∃ y, k.bs.getD (a + 2) 0 = y := ⟨_, rfl⟩
  rw [e0] at x0 ⊢
  rw [e1] at x1 ⊢
  rw [e2] at x2 ⊢
  obtain ⟨A, n, c, B, bs, C, M, g, L⟩ := k
  simp only at c0 hn d0 hne ha hA ⊢
  subst hA
  clear H G hcell e0 e1 e2
  have a0 : (0 : Int) ≤ a := by omega
  have a1 : (0 : Int) ≤ (a : Int) + 1 := by omega
  have a2 : (0 : Int) ≤ (a : Int) + 2 := by omega
  have l0 : (a : Int) < n := by omega
  have l1 : (a : Int) + 1 < n := by omega
  have l2 : (a : Int) + 2 < n := by omega
  have w1 : IntKind.i64.wrap ((a : Int) + 1) = (a : Int) + 1 := IntWalk.i64_in _ (by omega)
  have w2 : IntKind.i64.wrap ((a : Int) + 2) = (a : Int) + 2 := IntWalk.i64_in _ (by omega)
  have t1 : ((a : Int) + 1).toNat = a + 1 := by omega
  have t2 : ((a : Int) + 2).toNat = a + 2 := by omega
  go_enter Try.func24, Try.ntmps24
  go_wp2_with fail
  have hW1 : Hid (Whole (w.alloc (.cells #[.int .u8 0, .int .u8 0, .int .u8 0] 50)).drew w.heap.size 50 #[.int .u8 0, .int .u8 0, .int .u8 0] ∧ Below w.heap.size w (w.alloc (.cells #[.int .u8 0, .int .u8 0, .int .u8 0] 50)).drew) := Lib.hid ⟨Whole.drew W0.out, below_drew BD.out⟩
  have k0 : (w.alloc (.cells #[.int .u8 0, .int .u8 0, .int .u8 0] 50)).cell? ⟨C, 0, none⟩ = some (.slice (some ⟨b, o, none⟩) n c) := (BD.out.cell (p := ⟨C, 0, none⟩) hlt).trans c0
  have z0 : (w.alloc (.cells #[.int .u8 0, .int .u8 0, .int .u8 0] 50)).cell? ⟨b, o + a, none⟩ = some (.int .u8 y0) := (BD.out.cell (p := ⟨b, o + a, none⟩) hbw).trans x0
  have z1 : (w.alloc (.cells #[.int .u8 0, .int .u8 0, .int .u8 0] 50)).cell? ⟨b, o + (a + 1), none⟩ = some (.int .u8 y1) := (BD.out.cell (p := ⟨b, o + (a + 1), none⟩) hbw).trans x1
  have z2 : (w.alloc (.cells #[.int .u8 0, .int .u8 0, .int .u8 0] 50)).cell? ⟨b, o + (a + 2), none⟩ = some (.int .u8 y2) := (BD.out.cell (p := ⟨b, o + (a + 2), none⟩) hbw).trans x2
  have v0 : (w.alloc (.cells #[.int .u8 0, .int .u8 0, .int .u8 0] 50)).cell? ⟨w.heap.size, 0, none⟩ = some (.int .u8 0) := W0.out.cell 0
  have v1 : (w.alloc (.cells #[.int .u8 0, .int .u8 0, .int .u8 0] 50)).cell? ⟨w.heap.size, 1, none⟩ = some (.int .u8 0) := W0.out.cell 1
  have v2 : (w.alloc (.cells #[.int .u8 0, .int .u8 0, .int .u8 0] 50)).cell? ⟨w.heap.size, 2, none⟩ = some (.int .u8 0) := W0.out.cell 2
  have q0 := W0.out.frozen 0
  have q1 := W0.out.frozen 1
  have q2 := W0.out.frozen 2
  generalize w.alloc (.cells #[.int .u8 0, .int .u8 0, .int .u8 0] 50) = W at *
  refine wp_region_still_tail 23 (by kernel_rfl) (by kernel_rfl) ?_
  simp only [List.take_succ_cons, List.take_zero, List.drop_succ_cons, List.drop_zero]
  repeat still_step
  refine wpStill_nil ?_
  go_wp2_with fail
  exact bodyPost_ret (results_arr rfl _ _ w.heap.size _ _ _ _ rfl rfl (hW1.out.1.put3 _ _ _)) rfl ⟨rfl, below_put3 hW1.out.2 (by omega) _ _ _⟩
end Go.Proofs.Ythlgceeldnhhbaa
