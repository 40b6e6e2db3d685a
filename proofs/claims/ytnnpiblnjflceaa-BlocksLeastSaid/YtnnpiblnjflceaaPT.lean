/-
  Contracts of firstPart and distancePart. Conditions: the token is right.
-/
import Derived.Test.YtnnpiblnjflceaaTC
namespace Go.Proofs.Ytnnpiblnjflceaa
open Go.RowKit
set_option maxRecDepth 100000

theorem Whole.put3 {w : World} {g : Nat} {t : TypeId} {a b c : Value} (h : Whole w g t #[a, b, c]) (x y z : Value) : Whole (((w.setCell ⟨g, 0, none⟩ x).setCell ⟨g, 1, none⟩ y).setCell ⟨g, 2, none⟩ z) g t #[x, y, z] := ((h.put 0 x).put 1 y).put 2 z
theorem part_size : (Try.prog.info? 77).map (·.size) = some 3 := by kernel_rfl

theorem below_put3 {B : Nat} {u w : World} (h : Below B u w) {g : Nat} (hg : B ≤ g) (a b c : Value) : Below B u (((w.setCell ⟨g, 0, none⟩ a).setCell ⟨g, 1, none⟩ b).setCell ⟨g, 2, none⟩ c) :=
  ((h.setCell (p := ⟨g, 0, none⟩) hg a).setCell (p := ⟨g, 1, none⟩) hg b).setCell (p := ⟨g, 2, none⟩) hg c

/-- A part's value. -/
def partV (s m k : Nat) : Value := .agg #[.int .i64 s, .int .i64 m, .int .i64 k]

theorem lsn_in (n : Nat) (h1 : 3 ≤ n) : 257 ≤ lsn n ∧ lsn n < 286 ∧ lenB (lsn n) ≤ n := by
  obtain ⟨q1, q2, q3, _⟩ := lsn_sign n h1
  exact ⟨q1, by omega, q3⟩
theorem dsn_in (n : Nat) (h1 : 1 ≤ n) : dsn n < 30 ∧ dstB (dsn n) ≤ n := by
  obtain ⟨q1, q2, q3, _⟩ := dsn_sign n h1
  exact ⟨by omega, q3⟩
theorem lsV_in (n : Nat) (h1 : 3 ≤ n) (h2 : n ≤ 258) : lsV n = .tuple #[.int .i64 (lsn n : Nat), .int .i64 ((n - lenB (lsn n) : Nat) : Int), .bool true] := by
  unfold lsV
  rw [if_neg (by omega)]
  simp
theorem dsV_in (n : Nat) (h1 : 1 ≤ n) (h2 : n ≤ 32768) : dsV n = .tuple #[.int .i64 (dsn n : Nat), .int .i64 ((n - dstB (dsn n) : Nat) : Int), .bool true] := by
  unfold dsV
  rw [if_neg (by omega)]
  simp

theorem distancePart_any (d : Nat) (h1 : 1 ≤ d) (h2 : d ≤ 32768) (w : World) : Calls Try.prog 54 #[.int .i64 d] w (Gives w (partV (dsn d) (d - dstB (dsn d)) (dstM (dsn d)))) := by
  have C1 := Lib.hid (fun W => distanceSign_any d W)
  rw [dsV_in d h1 h2] at C1
  obtain ⟨q1, q2⟩ := dsn_in d h1
  have C2 := Lib.hid (fun W => distance_least (dsn d) (Nat.zero_le _) (by omega) W)
  obtain ⟨s, hs⟩ : ∃ s, dsn d = s := ⟨_, rfl⟩
  rw [hs] at C1 C2 ⊢
  obtain ⟨x, hx⟩ : ∃ x, d - dstB s = x := ⟨_, rfl⟩
  rw [hx] at C1 ⊢
  obtain ⟨y, hy⟩ : ∃ y, dstM s = y := ⟨_, rfl⟩
  obtain ⟨b, hb⟩ : ∃ b, dstB s = b := ⟨_, rfl⟩
  rw [hy] at C2 ⊢
  rw [hb] at C2
  clear hs hx hy hb q1 q2
  have HB : Hid (Below w.heap.size w (w.alloc (.cells #[.int .i64 0, .int .i64 0, .int .i64 0] 77))) := Lib.hid ((Below.refl _ _).alloc (Nat.le_refl _) _)
  have HW : Hid (Whole (w.alloc (.cells #[.int .i64 0, .int .i64 0, .int .i64 0] 77)) w.heap.size 77 #[.int .i64 0, .int .i64 0, .int .i64 0]) := Lib.hid (Whole.new w 77 _)
  go_enter Try.func54, Try.ntmps54
  go_wp2_with fail
  generalize w.alloc (.cells #[.int .i64 0, .int .i64 0, .int .i64 0] 77) = W at *
  refine (C1.out _).mono ?_; rintro e w2 ⟨rfl, hb2⟩
  have hW2 := HW.out.only (Only.of_below hb2 Nob) (fun h => h)
  have q0 : w2.cell? ⟨w.heap.size, 0, none⟩ = some (.int .i64 0) := hW2.cell 0
  have q1 : w2.cell? ⟨w.heap.size, 1, none⟩ = some (.int .i64 0) := hW2.cell 1
  have q2 : w2.cell? ⟨w.heap.size, 2, none⟩ = some (.int .i64 0) := hW2.cell 2
  have f0 := hW2.frozen 0
  have f1 := hW2.frozen 1
  have f2 := hW2.frozen 2
  have HW2 := Lib.hid hW2
  have B2 := Lib.hid (HB.out.trans (hb2.mono HB.out.size))
  clear hb2 hW2
  go_wp2_with fail
  refine (C2.out _).mono ?_; rintro e w3 ⟨rfl, rfl⟩
  go_wp2_with fail
  refine bodyPost_ret (v := partV s x y) (results_cell_row (p := 2) (ty := 77) rfl _ _ w.heap.size 77 #[.int .i64 s, .int .i64 x, .int .i64 y] (0, 0) _ rfl (HW2.out.put3 _ _ _) Try.underlying77 rfl part_size) rfl ⟨rfl, below_put3 B2.out (Nat.le_refl _) _ _ _⟩

/-- A token's first part. -/
def fpS (t : Tok) : Nat := if t.len = 0 then t.lit else lsn t.len.toNat
def fpM (t : Tok) : Nat := if t.len = 0 then 0 else t.len.toNat - lenB (lsn t.len.toNat)
def fpK (t : Tok) : Nat := if t.len = 0 then 0 else lenM (lsn t.len.toNat)

set_option maxHeartbeats 1000000 in
theorem firstPart_any (l : Nat) (hl : l < 256) (n d : Int) (hr : rightT ⟨l, n, d⟩ = true) (w : World) : Calls Try.prog 53 #[.agg #[.int .u8 l, .int .i64 n, .int .i64 d]] w (Gives w (partV (fpS ⟨l, n, d⟩) (fpM ⟨l, n, d⟩) (fpK ⟨l, n, d⟩))) := by
  have HB : Hid (Below w.heap.size w ((w.alloc (.cells #[.int .u8 l, .int .i64 n, .int .i64 d] 41)).alloc (.cells #[.int .i64 0, .int .i64 0, .int .i64 0] 77))) := Lib.hid (((Below.refl _ _).alloc (Nat.le_refl _) _).alloc (by simp) _)
  have hT : Whole ((w.alloc (.cells #[.int .u8 l, .int .i64 n, .int .i64 d] 41)).alloc (.cells #[.int .i64 0, .int .i64 0, .int .i64 0] 77)) w.heap.size 41 #[.int .u8 l, .int .i64 n, .int .i64 d] := (Whole.new w 41 _).alloc _
  have hW : Whole ((w.alloc (.cells #[.int .u8 l, .int .i64 n, .int .i64 d] 41)).alloc (.cells #[.int .i64 0, .int .i64 0, .int .i64 0] 77)) (w.heap.size + 1) 77 #[.int .i64 0, .int .i64 0, .int .i64 0] := by
    have := Whole.new (w.alloc (.cells #[.int .u8 l, .int .i64 n, .int .i64 d] 41)) 77 #[.int .i64 0, .int .i64 0, .int .i64 0]
    simpa using this
  have HT := Lib.hid hT; have HW := Lib.hid hW; clear hT hW
  by_cases h0 : n = 0
  · subst h0
    have e1 : fpS ⟨l, 0, d⟩ = l := if_pos rfl
    have e2 : fpM ⟨l, 0, d⟩ = 0 := if_pos rfl
    have e3 : fpK ⟨l, 0, d⟩ = 0 := if_pos rfl
    rw [e1, e2, e3]
    clear e1 e2 e3 hr
    have wl : IntKind.i64.wrap (l : Int) = l := IntWalk.i64_in _ (by omega)
    go_enter Try.func53, Try.ntmps53
    go_wp2_with fail
    have hWz : Whole ((w.alloc (.cells #[.int .u8 l, .int .i64 0, .int .i64 d] 41)).alloc (.cells #[.int .i64 l, .int .i64 0, .int .i64 0] 77)) (w.heap.size + 1) 77 #[.int .i64 l, .int .i64 0, .int .i64 0] := by
      have := Whole.new (w.alloc (.cells #[.int .u8 l, .int .i64 0, .int .i64 d] 41)) 77 #[.int .i64 l, .int .i64 0, .int .i64 0]
      simpa using this
    have hBz : Below w.heap.size w ((w.alloc (.cells #[.int .u8 l, .int .i64 0, .int .i64 d] 41)).alloc (.cells #[.int .i64 l, .int .i64 0, .int .i64 0] 77)) := ((Below.refl _ _).alloc (Nat.le_refl _) _).alloc (by simp) _
    exact bodyPost_ret (v := partV l 0 0) (results_cell_row (p := 2) (ty := 77) rfl _ _ (w.heap.size + 1) 77 #[.int .i64 l, .int .i64 0, .int .i64 0] (0, 0) _ rfl hWz Try.underlying77 rfl part_size) rfl ⟨rfl, hBz⟩
  · obtain ⟨h00, hn1, hn2, hd1, hd2⟩ := rightT_copy hr h0
    simp only at hn1 hn2
    obtain ⟨N, rfl⟩ := Int.eq_ofNat_of_zero_le (show 0 ≤ n by omega)
    have e1 : fpS ⟨l, N, d⟩ = lsn N := by unfold fpS; rw [if_neg h0, Int.toNat_natCast]
    have e2 : fpM ⟨l, N, d⟩ = N - lenB (lsn N) := by unfold fpM; rw [if_neg h0, Int.toNat_natCast]
    have e3 : fpK ⟨l, N, d⟩ = lenM (lsn N) := by unfold fpK; rw [if_neg h0, Int.toNat_natCast]
    rw [e1, e2, e3]
    have dn : ((N : Int) == 0) = false := by simpa using h0
    have dn' : (N == 0) = false := by simp; omega
    have C1 := Lib.hid (fun W => lengthSign_any N W)
    rw [lsV_in N (by omega) (by omega)] at C1
    obtain ⟨q1, q2, q3⟩ := lsn_in N (by omega)
    have C2 := Lib.hid (fun W => length_least (lsn N) q1 q2 W)
    obtain ⟨s, hs⟩ : ∃ s, lsn N = s := ⟨_, rfl⟩
    rw [hs] at C1 C2 ⊢
    obtain ⟨x, hx⟩ : ∃ x, N - lenB s = x := ⟨_, rfl⟩
    rw [hx] at C1 ⊢
    obtain ⟨y, hy⟩ : ∃ y, lenM s = y := ⟨_, rfl⟩
    obtain ⟨b, hb⟩ : ∃ b, lenB s = b := ⟨_, rfl⟩
    rw [hy] at C2 ⊢
    rw [hb] at C2
    clear hs hx hy hb q1 q2 q3 e1 e2 e3 h00 hn1 hn2 hd1 hd2 hr h0
    go_enter Try.func53, Try.ntmps53
    go_wp2_with fail
    generalize (w.alloc (.cells #[.int .u8 l, .int .i64 N, .int .i64 d] 41)).alloc (.cells #[.int .i64 0, .int .i64 0, .int .i64 0] 77) = W at *
    refine (C1.out _).mono ?_; rintro e w2 ⟨rfl, hb2⟩
    have hW2 := HW.out.only (Only.of_below hb2 Nob) (fun h => h)
    have q0 : w2.cell? ⟨w.heap.size + 1, 0, none⟩ = some (.int .i64 0) := hW2.cell 0
    have q1 : w2.cell? ⟨w.heap.size + 1, 1, none⟩ = some (.int .i64 0) := hW2.cell 1
    have q2 : w2.cell? ⟨w.heap.size + 1, 2, none⟩ = some (.int .i64 0) := hW2.cell 2
    have f0 := hW2.frozen 0
    have f1 := hW2.frozen 1
    have f2 := hW2.frozen 2
    have HW2 := Lib.hid hW2
    have B2 := Lib.hid (HB.out.trans (hb2.mono HB.out.size))
    clear hb2 hW2
    go_wp2_with fail
    refine (C2.out _).mono ?_; rintro e w3 ⟨rfl, rfl⟩
    go_wp2_with fail
    refine bodyPost_ret (v := partV s x y) (results_cell_row (p := 2) (ty := 77) rfl _ _ (w.heap.size + 1) 77 #[.int .i64 s, .int .i64 x, .int .i64 y] (0, 0) _ rfl (HW2.out.put3 _ _ _) Try.underlying77 rfl part_size) rfl ⟨rfl, below_put3 B2.out (by omega) _ _ _⟩
end Go.Proofs.Ytnnpiblnjflceaa
