/-
  Contracts of firstPart and distancePart. Conditions: the token is right.
  The contract of counted. Conditions: the slice of tokens is read as told (Seen), there are at most a thousand of them, their bytes are bytes.
-/
import Derived.Test.YtkjhefjjacokjaaGreatTF
import Derived.Test.YtkjhefjjacokjaaGreatG4
namespace Go.Proofs.YtkjhefjjacokjaaGreat
open Go.RowKit
set_option maxRecDepth 100000
theorem Whole.put3 {w : World} {g : Nat} {t : TypeId} {a b c : Value} (h : Whole w g t #[a, b, c]) (x y z : Value) : Whole (((w.setCell ⟨g, 0, none⟩ x).setCell ⟨g, 1, none⟩ y).setCell ⟨g, 2, none⟩ z) g t #[x, y, z] := ((h.put 0 x).put 1 y).put 2 z
theorem part_size : (Tryz.prog.info? 87).map (·.size) = some 3 := by kernel_rfl
theorem below_put3 {B : Nat} {u w : World} (h : Below B u w) {g : Nat} (hg : B ≤ g) (a b c : Value) : Below B u (((w.setCell ⟨g, 0, none⟩ a).setCell ⟨g, 1, none⟩ b).setCell ⟨g, 2, none⟩ c) :=
  ((h.setCell (p := ⟨g, 0, none⟩) hg a).setCell (p := ⟨g, 1, none⟩) hg b).setCell (p := ⟨g, 2, none⟩) hg c
/-- A part's value. -/
def partV (s m k : Nat) : Value := .agg #[.int .i64 s, .int .i64 m, .int .i64 k]
theorem lsn_in (n : Nat) (h1 : 3 ≤ n) : 257 ≤ lsn n ∧ lsn n < 286 ∧ lenB (lsn n) ≤ n := by
  obtain ⟨q1, q2, q3, _⟩ := lsn_sign n h1
  exact ⟨q1, by omega, q3⟩
theorem dsn_in (n : Nat) (h1 : 1 ≤ n) : dsn n < 30 ∧ dstB (dsn n) ≤ n := by
  obtain ⟨q1, q2, q3, _⟩ := dsn_sign n h1
  exact ⟨by omega, q3⟩
theorem lsV_in (n : Nat) (h1 : 3 ≤ n) (h2 : n ≤ 258) : lsV n = .tuple #[.int .i64 (lsn n : Nat), .int .i64 ((n - lenB (lsn n) : Nat) : Int), .bool true] := by
  unfold lsV
  rw [if_neg (by omega)]
  simp
theorem dsV_in (n : Nat) (h1 : 1 ≤ n) (h2 : n ≤ 32768) : dsV n = .tuple #[.int .i64 (dsn n : Nat), .int .i64 ((n - dstB (dsn n) : Nat) : Int), .bool true] := by
  unfold dsV
  rw [if_neg (by omega)]
  simp
theorem distancePart_any (d : Nat) (h1 : 1 ≤ d) (h2 : d ≤ 32768) (w : World) : Calls Tryz.prog 59 #[.int .i64 d] w (Gives w (partV (dsn d) (d - dstB (dsn d)) (dstM (dsn d)))) := by
  have C1 := Lib.hid (fun W => distanceSign_any d W)
  rw [dsV_in d h1 h2] at C1
  obtain ⟨q1, q2⟩ := dsn_in d h1
  have C2 := Lib.hid (fun W => distance_least (dsn d) (Nat.zero_le _) (by omega) W)
  obtain ⟨s, hs⟩ : ∃ s, dsn d = s := ⟨_, rfl⟩
  rw [hs] at C1 C2 ⊢
  obtain ⟨x, hx⟩ : ∃ x, d - dstB s = x := ⟨_, rfl⟩
  rw [hx] at C1 ⊢
  obtain ⟨y, hy⟩ : ∃ y, dstM s = y := ⟨_, rfl⟩
  obtain ⟨b, hb⟩ : ∃ b, dstB s = b := ⟨_, rfl⟩
  rw [hy] at C2 ⊢
  rw [hb] at C2
  clear hs hx hy hb q1 q2
  have HB : Hid (Below w.heap.size w (w.alloc (.cells #[.int .i64 0, .int .i64 0, .int .i64 0] 87))) := Lib.hid ((Below.refl _ _).alloc (Nat.le_refl _) _)
  have HW : Hid (Whole (w.alloc (.cells #[.int .i64 0, .int .i64 0, .int .i64 0] 87)) w.heap.size 87 #[.int .i64 0, .int .i64 0, .int .i64 0]) := Lib.hid (Whole.new w 87 _)
  go_enter Tryz.func59, Tryz.ntmps59
  go_wp2_with fail
  generalize w.alloc (.cells #[.int .i64 0, .int .i64 0, .int .i64 0] 87) = W at *
  refine (C1.out _).mono ?_; rintro e w2 ⟨rfl, hb2⟩
  have hW2 := HW.out.only (Only.of_below hb2 Nob) (fun h => h)
  have q0 : w2.cell? ⟨w.heap.size, 0, none⟩ = some (.int .i64 0) := hW2.cell 0
  have q1 : w2.cell? ⟨w.heap.size, 1, none⟩ = some (.int .i64 0) := hW2.cell 1
  have q2 : w2.cell? ⟨w.heap.size, 2, none⟩ = some (.int .i64 0) := hW2.cell 2
  have f0 := hW2.frozen 0
  have f1 := hW2.frozen 1
  have f2 := hW2.frozen 2
  have HW2 := Lib.hid hW2
  have B2 := Lib.hid (HB.out.trans (hb2.mono HB.out.size))
  clear hb2 hW2
  go_wp2_with fail
  refine (C2.out _).mono ?_; rintro e w3 ⟨rfl, rfl⟩
  go_wp2_with fail
  refine bodyPost_ret (v := partV s x y) (results_cell_row (p := 2) (ty := 87) rfl _ _ w.heap.size 87 #[.int .i64 s, .int .i64 x, .int .i64 y] (0, 0) _ rfl (HW2.out.put3 _ _ _) Tryz.underlying87 rfl part_size) rfl ⟨rfl, below_put3 B2.out (Nat.le_refl _) _ _ _⟩
/-- A token's first part. -/
def fpS (t : Tok) : Nat := if t.len = 0 then t.lit else lsn t.len.toNat
def fpM (t : Tok) : Nat := if t.len = 0 then 0 else t.len.toNat - lenB (lsn t.len.toNat)
def fpK (t : Tok) : Nat := if t.len = 0 then 0 else lenM (lsn t.len.toNat)
set_option maxHeartbeats 1000000 in
theorem firstPart_any (l : Nat) (hl : l < 256) (n d : Int) (hr : rightT ⟨l, n, d⟩ = true) (w : World) : Calls Tryz.prog 58 #[.agg #[.int .u8 l, .int .i64 n, .int .i64 d]] w (Gives w (partV (fpS ⟨l, n, d⟩) (fpM ⟨l, n, d⟩) (fpK ⟨l, n, d⟩))) := by
  have HB : Hid (Below w.heap.size w ((w.alloc (.cells #[.int .u8 l, .int .i64 n, .int .i64 d] 42)).alloc (.cells #[.int .i64 0, .int .i64 0, .int .i64 0] 87))) := Lib.hid (((Below.refl _ _).alloc (Nat.le_refl _) _).alloc (by simp) _)
  have hT : Whole ((w.alloc (.cells #[.int .u8 l, .int .i64 n, .int .i64 d] 42)).alloc (.cells #[.int .i64 0, .int .i64 0, .int .i64 0] 87)) w.heap.size 42 #[.int .u8 l, .int .i64 n, .int .i64 d] := (Whole.new w 42 _).alloc _
  have hW : Whole ((w.alloc (.cells #[.int .u8 l, .int .i64 n, .int .i64 d] 42)).alloc (.cells #[.int .i64 0, .int .i64 0, .int .i64 0] 87)) (w.heap.size + 1) 87 #[.int .i64 0, .int .i64 0, .int .i64 0] := by
    have := Whole.new (w.alloc (.cells #[.int .u8 l, .int .i64 n, .int .i64 d] 42)) 87 #[.int .i64 0, .int .i64 0, .int .i64 0]
    simpa using this
  have HT := Lib.hid hT; have HW := Lib.hid hW; clear hT hW
  by_cases h0 : n = 0
  · subst h0
    have e1 : fpS ⟨l, 0, d⟩ = l := if_pos rfl
    have e2 : fpM ⟨l, 0, d⟩ = 0 := if_pos rfl
    have e3 : fpK ⟨l, 0, d⟩ = 0 := if_pos rfl
    rw [e1, e2, e3]
    clear e1 e2 e3 hr
    have wl : IntKind.i64.wrap (l : Int) = l := IntWalk.i64_in _ (by omega)
    go_enter Tryz.func58, Tryz.ntmps58
    go_wp2_with fail
    have hWz : Whole ((w.alloc (.cells #[.int .u8 l, .int .i64 0, .int .i64 d] 42)).alloc (.cells #[.int .i64 l, .int .i64 0, .int .i64 0] 87)) (w.heap.size + 1) 87 #[.int .i64 l, .int .i64 0, .int .i64 0] := by
      have := Whole.new (w.alloc (.cells #[.int .u8 l, .int .i64 0, .int .i64 d] 42)) 87 #[.int .i64 l, .int .i64 0, .int .i64 0]
      simpa using this
    have hBz : Below w.heap.size w ((w.alloc (.cells #[.int .u8 l, .int .i64 0, .int .i64 d] 42)).alloc (.cells #[.int .i64 l, .int .i64 0, .int .i64 0] 87)) := ((Below.refl _ _).alloc (Nat.le_refl _) _).alloc (by simp) _
    exact bodyPost_ret (v := partV l 0 0) (results_cell_row (p := 2) (ty := 87) rfl _ _ (w.heap.size + 1) 87 #[.int .i64 l, .int .i64 0, .int .i64 0] (0, 0) _ rfl hWz Tryz.underlying87 rfl part_size) rfl ⟨rfl, hBz⟩
  · obtain ⟨h00, hn1, hn2, hd1, hd2⟩ := rightT_copy hr h0
    simp only at hn1 hn2
    obtain ⟨N, rfl⟩ := Int.eq_ofNat_of_zero_le (show 0 ≤ n by omega)
    have e1 : fpS ⟨l, N, d⟩ = lsn N := by unfold fpS; rw [if_neg h0, Int.toNat_natCast]
    have e2 : fpM ⟨l, N, d⟩ = N - lenB (lsn N) := by unfold fpM; rw [if_neg h0, Int.toNat_natCast]
    have e3 : fpK ⟨l, N, d⟩ = lenM (lsn N) := by unfold fpK; rw [if_neg h0, Int.toNat_natCast]
    rw [e1, e2, e3]
    have dn : ((N : Int) == 0) = false := by simpa using h0
    have dn' : (N == 0) = false := by simp; omega
    have C1 := Lib.hid (fun W => lengthSign_any N W)
    rw [lsV_in N (by omega) (by omega)] at C1
    obtain ⟨q1, q2, q3⟩ := lsn_in N (by omega)
    have C2 := Lib.hid (fun W => length_least (lsn N) q1 q2 W)
    obtain ⟨s, hs⟩ : ∃ s, lsn N = s := ⟨_, rfl⟩
    rw [hs] at C1 C2 ⊢
    obtain ⟨x, hx⟩ : ∃ x, N - lenB s = x := ⟨_, rfl⟩
    rw [hx] at C1 ⊢
    obtain ⟨y, hy⟩ : ∃ y, lenM s = y := ⟨_, rfl⟩
    obtain ⟨b, hb⟩ : ∃ b, lenB s = b := ⟨_, rfl⟩
    rw [hy] at C2 ⊢
    rw [hb] at C2
    clear hs hx hy hb q1 q2 q3 e1 e2 e3 h00 hn1 hn2 hd1 hd2 hr h0
    go_enter Tryz.func58, Tryz.ntmps58
    go_wp2_with fail
    generalize (w.alloc (.cells #[.int .u8 l, .int .i64 N, .int .i64 d] 42)).alloc (.cells #[.int .i64 0, .int .i64 0, .int .i64 0] 87) = W at *
    refine (C1.out _).mono ?_; rintro e w2 ⟨rfl, hb2⟩
    have hW2 := HW.out.only (Only.of_below hb2 Nob) (fun h => h)
    have q0 : w2.cell? ⟨w.heap.size + 1, 0, none⟩ = some (.int .i64 0) := hW2.cell 0
    have q1 : w2.cell? ⟨w.heap.size + 1, 1, none⟩ = some (.int .i64 0) := hW2.cell 1
    have q2 : w2.cell? ⟨w.heap.size + 1, 2, none⟩ = some (.int .i64 0) := hW2.cell 2
    have f0 := hW2.frozen 0
    have f1 := hW2.frozen 1
    have f2 := hW2.frozen 2
    have HW2 := Lib.hid hW2
    have B2 := Lib.hid (HB.out.trans (hb2.mono HB.out.size))
    clear hb2 hW2
    go_wp2_with fail
    refine (C2.out _).mono ?_; rintro e w3 ⟨rfl, rfl⟩
    go_wp2_with fail
    refine bodyPost_ret (v := partV s x y) (results_cell_row (p := 2) (ty := 87) rfl _ _ (w.heap.size + 1) 87 #[.int .i64 s, .int .i64 x, .int .i64 y] (0, 0) _ rfl (HW2.out.put3 _ _ _) Tryz.underlying87 rfl part_size) rfl ⟨rfl, below_put3 B2.out (by omega) _ _ _⟩
end Go.Proofs.YtkjhefjjacokjaaGreat

namespace Go.Proofs.YtkjhefjjacokjaaGreat
open Go.RowKit
set_option maxRecDepth 100000
/-- One place of a row is another one. -/
def putF (F : Nat → Int) (k : Nat) (v : Int) : Nat → Int := fun i => if i = k then v else F i
/-- A token more is counted. -/
def cnt1 (F : Nat → Int) (t : Tok) : Nat → Int := putF (putF F (fpS t) (F (fpS t) + 1)) 316 (F 316 + fpK t)
def cnt2 (F : Nat → Int) (d : Nat) : Nat → Int := putF (putF F (286 + dsn d) (F (286 + dsn d) + 1)) 316 (F 316 + dstM (dsn d))
def cntT (F : Nat → Int) (t : Tok) : Nat → Int := if t.len = 0 then cnt1 F t else cnt2 (cnt1 F t) t.dist.toNat
def cntL : List Tok → (Nat → Int) → Nat → Int
  | [], F => F
  | t :: l, F => cntL l (cntT F t)
theorem cntL_snoc (l : List Tok) (t : Tok) (F : Nat → Int) : cntL (l ++ [t]) F = cntT (cntL l F) t := by
  induction l generalizing F with
  | nil => rfl
  | cons u l ih => exact ih _
theorem fpS_lt {t : Tok} (hl : t.lit < 256) (hr : rightT t = true) : fpS t < 286 := by
  unfold fpS
  split
  · omega
  · rename_i h0
    obtain ⟨_, h1, h2, _, _⟩ := rightT_copy hr h0
    have := lsn_in t.len.toNat (by omega)
    omega
theorem fpK_le {t : Tok} (hr : rightT t = true) : fpK t ≤ 5 := by
  unfold fpK
  split
  · omega
  · rename_i h0
    obtain ⟨_, h1, h2, _, _⟩ := rightT_copy hr h0
    obtain ⟨q1, q2, q3⟩ := lsn_in t.len.toNat (by omega)
    obtain ⟨e, he⟩ := Nat.exists_eq_add_of_le q1
    rw [he]
    exact (lenB_max e (by omega)).2.1
theorem dsM_le {d : Nat} (h1 : 1 ≤ d) : dstM (dsn d) ≤ 13 := (dstB_max _ (dsn_in d h1).1).2.1
/-- Bounds of counts. -/
def CntOk (F : Nat → Int) (M : Int) : Prop := ∀ i, 0 ≤ F i ∧ F i ≤ M
theorem CntOk.put {F : Nat → Int} {M : Int} (h : CntOk F M) (k : Nat) (v : Int) (hv : 0 ≤ v ∧ v ≤ 18) : CntOk (putF F k (F k + v)) (M + 18) := by
  intro i
  unfold putF
  have hi := h i
  have hk := h k
  split <;> omega
theorem CntOk.mono {F : Nat → Int} {M N : Int} (h : CntOk F M) (hMN : M ≤ N) : CntOk F N := fun i => ⟨(h i).1, Int.le_trans (h i).2 hMN⟩
/-- What counted answers. -/
def CntRes (l : List Tok) (w : World) (e : Ending) (w' : World) : Prop :=
  (l.all rightT = true ∧ e = .returned (.tuple #[.agg (rz 317 (cntL l cnt0)), .bool true]) ∧ Below w.heap.size w w') ∨
  (l.all rightT = false ∧ e = .returned (.tuple #[.agg (rz 317 fun _ => 0), .bool false]) ∧ Below w.heap.size w w')
set_option maxHeartbeats 4000000 in
theorem tcounted_any (A : Option Addr) (n c B : Nat) (l : List Tok) (hb : ∀ t ∈ l, t.lit < 256) (hn : n ≤ 1000) (w : World) (hs : Seen w B 3 A n c (tvs l)) (hB : B ≤ w.heap.size) : Calls Tryz.prog 33 #[.slice A n c] w (CntRes l w) := by
  have hln : l.length = n := by have := hs.1; rw [tvs_length] at this; omega
  have HS := Lib.hid hs; clear hs
  have HLN := Lib.hid hln; clear hln
  have HBY := Lib.hid hb; clear hb
  have hzz : Hid (Tryz.zeroCells60 = rz 317 (fun _ => 0)) := Lib.hid (by rw [← rz_const]; kernel_rfl)
  have HI59 := Lib.hid (show (Tryz.prog.info? 60).map (·.size) = some Tryz.zeroCells60.size by rw [hzz.out, rz_size]; exact (zero_of_info row59).2)
  have HI59' := Lib.hid (fun F => show (Tryz.prog.info? 60).map (·.size) = some (rz 317 F).size by rw [rz_size]; exact (zero_of_info row59).2)
  have HN := heap_alloc_new (w.alloc (.cells Tryz.zeroCells60 60)) (.cells Tryz.zeroCells60 60)
  simp only [World.size_alloc] at HN
  have W1 : Whole (((w.alloc (.cells Tryz.zeroCells60 60)).alloc (.cells Tryz.zeroCells60 60)).setRow (w.heap.size + 1) Tryz.zeroCells60) (w.heap.size + 1) 60 Tryz.zeroCells60 := Whole.setRow (cs := Tryz.zeroCells60) (by simpa [Whole] using HN) _
  have W0 : Hid (Whole (((w.alloc (.cells Tryz.zeroCells60 60)).alloc (.cells Tryz.zeroCells60 60)).setRow (w.heap.size + 1) Tryz.zeroCells60) w.heap.size 60 Tryz.zeroCells60) := Lib.hid (((Whole.new w 60 _).alloc _).setRow_far _ (by omega))
  have hold : (((w.alloc (.cells Tryz.zeroCells60 60)).alloc (.cells Tryz.zeroCells60 60)).setRow (w.heap.size + 1) Tryz.zeroCells60).cell? ⟨w.heap.size + 1, 256, none⟩ = some (.int .i64 0) := (W1.cell 256).trans (by rw [hzz.out, rz_get _ _ _ (by omega)])
  have hfz := W1.frozen 256
  have W1h := Lib.hid W1; clear W1
  have H1 := Lib.hid HN; clear HN
  have B1 : Hid (Below w.heap.size w (((w.alloc (.cells Tryz.zeroCells60 60)).alloc (.cells Tryz.zeroCells60 60)).setRow (w.heap.size + 1) Tryz.zeroCells60)) := Lib.hid (below_setRow (((Below.refl _ _).alloc (Nat.le_refl _) _).alloc (by simp) _) _ (by omega))
  have hone : Hid (Tryz.zeroCells60.all (·.oneCell') = true) := Lib.hid (by rw [hzz.out]; exact rz_one _ _)
  go_enter Tryz.func33, Tryz.ntmps33
  go_wp2_with (refine wpList_store_row rfl 60 (.tmp 4) (.tmp 8) rfl (w.heap.size + 1) Tryz.zeroCells60 rfl rfl 60 Tryz.zeroCells60 H1.out HI59.out rfl hone.out ?_)
  clear hold hfz H1
  generalize ((w.alloc (.cells Tryz.zeroCells60 60)).alloc (.cells Tryz.zeroCells60 60)).setRow (w.heap.size + 1) Tryz.zeroCells60 = X at *
  have W2 : Hid (Whole (X.setCell ⟨w.heap.size + 1, 256, none⟩ (.int .i64 1)) (w.heap.size + 1) 60 (rz 317 cnt0)) := Lib.hid (by
    have h := W1h.out.put 256 (.int .i64 1)
    rw [hzz.out, rz_set] at h
    exact h)
  have W3 : Hid (Whole (X.setCell ⟨w.heap.size + 1, 256, none⟩ (.int .i64 1)) w.heap.size 60 Tryz.zeroCells60) := Lib.hid (W0.out.far (by simp) _)
  have B2 : Hid (Below w.heap.size w (X.setCell ⟨w.heap.size + 1, 256, none⟩ (.int .i64 1))) := Lib.hid (B1.out.setCell (by simp) _)
  clear W1h W0 B1
  generalize X.setCell ⟨w.heap.size + 1, 256, none⟩ (.int .i64 1) = Y at *
  have cnt0ok : CntOk cnt0 1 := fun i => by unfold cnt0; split <;> omega
  have HC0 := Lib.hid cnt0ok; clear cnt0ok
  go_loopw [6, 7, 13] (fun _ _ i wr => ∃ (k : Nat) (F : Nat → Int), k ≤ n ∧ i = .int .i64 k ∧ Hid (Whole wr (w.heap.size + 1) 60 (rz 317 F) ∧ Whole wr w.heap.size 60 Tryz.zeroCells60 ∧ F = cntL (l.take k) cnt0 ∧ (l.take k).all rightT = true ∧ CntOk F (1 + 72 * k) ∧ Below w.heap.size w wr)) (fun _ _ i _ => n - (intOf i).toNat)
  case atStart => exact ⟨0, cnt0, Nat.zero_le _, rfl, Lib.hid ⟨W2.out, W3.out, rfl, rfl, HC0.out.mono (by omega), B2.out⟩⟩
  case round =>
    obtain ⟨k, F, hk, rfl, h⟩ := hrel
    by_cases hlt : k < n
    · obtain ⟨hF, hR, eF, hall, hok, hbel⟩ := h.out
      obtain ⟨t, b, of', ht, rfl, hbB, c0, c1, c2⟩ := (HS.out.below (hbel.mono hB)).tok hlt
      have hbr : b < wr.heap.size := by have := hbel.size; omega
      have hne : wr.heap.size ≠ b := by omega
      obtain ⟨hkl, ht2⟩ := List.getElem?_eq_some_iff.1 ht
      have htk : l.take (k + 1) = l.take k ++ [t] := by rw [← ht2, List.take_append_getElem]
      have htl := HBY.out t (by rw [← ht2]; exact List.getElem_mem hkl)
      obtain ⟨tl, tn, td⟩ := t
      simp only at c0 c1 c2 htl
      have CR := Lib.hid (fun W => right_any tl tn td W)
      obtain ⟨R, hRt⟩ : ∃ R, rightT ⟨tl, tn, td⟩ = R := ⟨_, rfl⟩
      rw [hRt] at CR
      have HRT := Lib.hid hRt
      have HTK := Lib.hid htk
      have HMEM : Hid (⟨tl, tn, td⟩ ∈ l) := Lib.hid (by rw [← ht2]; exact List.getElem_mem hkl)
      have hB5 : Below wr.heap.size wr (wr.alloc (.cells #[.int .u8 tl, .int .i64 tn, .int .i64 td] 42)) := (Below.refl _ _).alloc (Nat.le_refl _) _
      have hT5 := Whole.new wr 42 #[.int .u8 tl, .int .i64 tn, .int .i64 td]
      have hk0 : (0 : Int) ≤ k := by omega
      have WF := Lib.hid (hF.only (Only.of_below hB5 Nob) (fun h => h)); have WR := Lib.hid (hR.only (Only.of_below hB5 Nob) (fun h => h))
      have BL := Lib.hid (hbel.trans (hB5.mono hbel.size)); have HALL := Lib.hid hall; have HEF := Lib.hid eF; have HOK := Lib.hid hok
      obtain ⟨g6, hg6⟩ : ∃ g6, wr.heap.size = g6 := ⟨_, rfl⟩
      have WT := Lib.hid hT5
      rw [hg6] at WT hbr hne
      clear hF hR eF hall hok hbel ht ht2 htk hB5 hT5 h hRt hkl
      cases R with
      | false =>
        go_wp2_with fail
        clear c0 c1 c2 hbr hne hg6
        generalize wr.alloc (.cells #[.int .u8 tl, .int .i64 tn, .int .i64 td] 42) = W5 at *
        refine (CR.out _).mono ?_
        rintro e w6 ⟨rfl, hb6⟩
        have WR6 := Lib.hid (WR.out.only (Only.of_below hb6 Nob) (fun h => h))
        have BL6 := Lib.hid (BL.out.trans (hb6.mono BL.out.size))
        clear hb6
        go_wp2_with (refine wpList_store_row rfl 60 (.tmp 2) (.tmp 20) rfl w.heap.size Tryz.zeroCells60 rfl rfl 60 Tryz.zeroCells60 WR6.out HI59.out rfl hone.out ?_)
        have hnall : l.all rightT = false := by
          rw [List.all_eq_false]
          exact ⟨_, HMEM.out, by rw [HRT.out]; simp⟩
        exact bodyPost_ret (v := .tuple #[.agg Tryz.zeroCells60, .bool false]) (results_row_tmp (p := 2) (u := 3) (ty := 60) rfl _ _ w.heap.size 60 Tryz.zeroCells60 (0, 0) _ rfl (WR6.out.setRow _) Tryz.underlying60 rfl HI59.out) rfl (.inr ⟨hnall, by rw [hzz.out], below_setRow BL6.out _ (Nat.le_refl _)⟩)
      | true =>
        have CFP := Lib.hid (fun W => firstPart_any tl htl tn td HRT.out W)
        have hs286 := fpS_lt (t := ⟨tl, tn, td⟩) htl HRT.out
        have hk5 := fpK_le (t := ⟨tl, tn, td⟩) HRT.out
        obtain ⟨s, hs⟩ : ∃ s, fpS ⟨tl, tn, td⟩ = s := ⟨_, rfl⟩
        obtain ⟨m, hm⟩ : ∃ m, fpM ⟨tl, tn, td⟩ = m := ⟨_, rfl⟩
        obtain ⟨q, hq⟩ : ∃ q, fpK ⟨tl, tn, td⟩ = q := ⟨_, rfl⟩
        rw [hs] at hs286
        rw [hq] at hk5
        rw [hs, hm, hq] at CFP
        unfold partV at CFP
        have HSS := Lib.hid hs; have HQQ := Lib.hid hq
        have hx := HOK.out s
        have ha := HOK.out 316
        obtain ⟨x, hxx⟩ : ∃ x, F s = x := ⟨_, rfl⟩
        obtain ⟨a, haa⟩ : ∃ a, F 316 = a := ⟨_, rfl⟩
        rw [hxx] at hx
        rw [haa] at ha
        have HXX := Lib.hid hxx; have HAA := Lib.hid haa
        clear hs hm hq hxx haa
        go_wp2_with fail
        clear c0 c1 c2 hbr hne hg6
        generalize wr.alloc (.cells #[.int .u8 tl, .int .i64 tn, .int .i64 td] 42) = W5 at *
        refine (CR.out _).mono ?_
        rintro e w6 ⟨rfl, hb6⟩
        have hT6 := WT.out.only (Only.of_below hb6 Nob) (fun h => h)
        have k0 : w6.cell? ⟨g6, 0, none⟩ = some (.int .u8 tl) := hT6.cell 0
        have k1 : w6.cell? ⟨g6, 1, none⟩ = some (.int .i64 tn) := hT6.cell 1
        have k2 : w6.cell? ⟨g6, 2, none⟩ = some (.int .i64 td) := hT6.cell 2
        have WT6 := Lib.hid hT6
        have WF6 := Lib.hid (WF.out.only (Only.of_below hb6 Nob) (fun h => h))
        have WR6 := Lib.hid (WR.out.only (Only.of_below hb6 Nob) (fun h => h))
        have BL6 := Lib.hid (BL.out.trans (hb6.mono BL.out.size))
        clear hb6 hT6
        go_wp2_with fail
        refine (CFP.out _).mono ?_
        rintro e w7 ⟨rfl, hb7⟩
        have WT7 := Lib.hid ((WT6.out.only (Only.of_below hb7 Nob) (fun h => h)).alloc (.cells #[.int .i64 s, .int .i64 m, .int .i64 q] 87))
        have WF7 := Lib.hid ((WF6.out.only (Only.of_below hb7 Nob) (fun h => h)).alloc (.cells #[.int .i64 s, .int .i64 m, .int .i64 q] 87))
        have WR7 := Lib.hid ((WR6.out.only (Only.of_below hb7 Nob) (fun h => h)).alloc (.cells #[.int .i64 s, .int .i64 m, .int .i64 q] 87))
        have BL7 := Lib.hid ((BL6.out.trans (hb7.mono BL6.out.size)).alloc (Nat.le_trans BL6.out.size hb7.size) (.cells #[.int .i64 s, .int .i64 m, .int .i64 q] 87))
        have WP7 := Lib.hid (Whole.new w7 87 #[.int .i64 s, .int .i64 m, .int .i64 q])
        have HSZ7' : Hid (w.heap.size ≤ w7.heap.size) := Lib.hid (Nat.le_trans BL6.out.size hb7.size)
        clear hb7 k0 k1 k2
        obtain ⟨g7, hg7⟩ : ∃ g7, w7.heap.size = g7 := ⟨_, rfl⟩
        rw [hg7] at WP7
        have HG7 := Lib.hid hg7
        have HSZ7 : Hid (w.heap.size ≤ w7.heap.size) := HSZ7'
        obtain ⟨W8, hW8⟩ : ∃ W8, w7.alloc (.cells #[.int .i64 s, .int .i64 m, .int .i64 q] 87) = W8 := ⟨_, rfl⟩
        rw [hW8] at WT7 WF7 WR7 BL7 WP7
        have WF9 : Hid (Whole (W8.setCell ⟨w.heap.size + 1, s, none⟩ (.int .i64 (x + 1))) (w.heap.size + 1) 60 (rz 317 (putF F s (x + 1)))) := Lib.hid (by
          have h := WF7.out.put s (.int .i64 (x + 1))
          rw [rz_set] at h
          exact h)
        have ne1 : w.heap.size + 1 ≠ g7 := WF7.out.ne WP7.out (by decide)
        have ne2 : w.heap.size + 1 ≠ g6 := WF7.out.ne WT7.out (by decide)
        have WP9 := WP7.out.far (p := ⟨w.heap.size + 1, s, none⟩) (fun e => ne1 e.symm) (.int .i64 (x + 1))
        have WT9 := WT7.out.far (p := ⟨w.heap.size + 1, s, none⟩) (fun e => ne2 e.symm) (.int .i64 (x + 1))
        have WF10 : Hid (Whole ((W8.setCell ⟨w.heap.size + 1, s, none⟩ (.int .i64 (x + 1))).setCell ⟨w.heap.size + 1, 316, none⟩ (.int .i64 (a + q))) (w.heap.size + 1) 60 (rz 317 (putF (putF F s (x + 1)) 316 (a + q)))) := Lib.hid (by
          have h := WF9.out.put 316 (.int .i64 (a + q))
          rw [rz_set] at h
          exact h)
        have WT10 := WT9.far (p := ⟨w.heap.size + 1, 316, none⟩) (fun e => ne2 e.symm) (.int .i64 (a + q))
        have WP10 := WP9.far (p := ⟨w.heap.size + 1, 316, none⟩) (fun e => ne1 e.symm) (.int .i64 (a + q))
        have y1 : W8.cell? ⟨w.heap.size + 1, s, none⟩ = some (.int .i64 x) := by rw [WF7.out.cell s, rz_get _ _ _ (by omega), HXX.out]
        have z1 := WF7.out.frozen s
        have y2 : (W8.setCell ⟨w.heap.size + 1, s, none⟩ (.int .i64 (x + 1))).cell? ⟨w.heap.size + 1, 316, none⟩ = some (.int .i64 a) := by
          rw [WF9.out.cell 316, rz_get _ _ _ (by omega)]
          unfold putF
          rw [if_neg (by omega), HAA.out]
        have z2 := WF9.out.frozen 316
        have y0 : W8.cell? ⟨g7, 0, none⟩ = some (.int .i64 s) := WP7.out.cell 0
        have y3 : (W8.setCell ⟨w.heap.size + 1, s, none⟩ (.int .i64 (x + 1))).cell? ⟨g7, 2, none⟩ = some (.int .i64 q) := WP9.cell 2
        have y4 : ((W8.setCell ⟨w.heap.size + 1, s, none⟩ (.int .i64 (x + 1))).setCell ⟨w.heap.size + 1, 316, none⟩ (.int .i64 (a + q))).cell? ⟨g6, 1, none⟩ = some (.int .i64 tn) := WT10.cell 1
        have y5 : ((W8.setCell ⟨w.heap.size + 1, s, none⟩ (.int .i64 (x + 1))).setCell ⟨w.heap.size + 1, 316, none⟩ (.int .i64 (a + q))).cell? ⟨g6, 2, none⟩ = some (.int .i64 td) := WT10.cell 2
        have HWT10 := Lib.hid WT10; have HWP10 := Lib.hid WP10
        have s0 : (0 : Int) ≤ s := by omega
        have s1 : (s : Int) < 286 := by omega
        have BL10 : Hid (Below w.heap.size w ((W8.setCell ⟨w.heap.size + 1, s, none⟩ (.int .i64 (x + 1))).setCell ⟨w.heap.size + 1, 316, none⟩ (.int .i64 (a + q)))) := Lib.hid ((BL7.out.setCell (by simp) _).setCell (by simp) _)
        have WR10 : Hid (Whole ((W8.setCell ⟨w.heap.size + 1, s, none⟩ (.int .i64 (x + 1))).setCell ⟨w.heap.size + 1, 316, none⟩ (.int .i64 (a + q))) w.heap.size 60 Tryz.zeroCells60) := Lib.hid ((WR7.out.far (by simp) _).far (by simp) _)
        have E10 : Hid (cnt1 F ⟨tl, tn, td⟩ = putF (putF F s (x + 1)) 316 (a + q)) := Lib.hid (by unfold cnt1; rw [HSS.out, HQQ.out, HXX.out, HAA.out])
        have OK10 : Hid (CntOk (putF (putF F s (x + 1)) 316 (a + q)) (1 + 72 * k + 36)) := Lib.hid (by
          have h1 := HOK.out.put s 1 (by omega)
          rw [HXX.out] at h1
          have h2 := h1.put 316 q (by omega)
          have e : putF F s (x + 1) 316 = a := by unfold putF; rw [if_neg (by omega), HAA.out]
          rw [e] at h2
          exact h2.mono (by omega))
        have HW8 := Lib.hid hW8
        clear WP9 WT9 WF9 WT10 WP10 ne1 ne2 hs286
        by_cases hz : tn = 0
        · subst hz
          go_wp2_with fail
          go_roundw
          case rel => exact ⟨k + 1, putF (putF F s (x + 1)) 316 (a + q), by omega, by go_num, Lib.hid ⟨WF10.out, WR10.out, by rw [HTK.out, cntL_snoc, ← HEF.out, ← E10.out]; unfold cntT; rw [if_pos rfl], by rw [HTK.out, List.all_append, HALL.out]; simp [HRT.out], OK10.out.mono (by omega), BL10.out⟩⟩
          case measure => simp [intOf]; omega
        · obtain ⟨h00, hn1, hn2, hd1, hd2⟩ := rightT_copy HRT.out hz
          simp only at hn1 hd1 hd2
          obtain ⟨D, rfl⟩ := Int.eq_ofNat_of_zero_le (show 0 ≤ td by omega)
          have d0 : decide ((0 : Int) < tn) = true := decide_eq_true (by omega)
          have CDP := Lib.hid (fun W => distancePart_any D (by omega) (by omega) W)
          have hs30 := (dsn_in D (by omega)).1
          have hk13 := dsM_le (d := D) (by omega)
          obtain ⟨s2, hs2⟩ : ∃ s, dsn D = s := ⟨_, rfl⟩
          rw [hs2] at CDP hs30 hk13
          obtain ⟨m2, hm2⟩ : ∃ m, D - dstB s2 = m := ⟨_, rfl⟩
          obtain ⟨q2, hq2⟩ : ∃ q, dstM s2 = q := ⟨_, rfl⟩
          rw [hq2] at hk13
          rw [hm2, hq2] at CDP
          unfold partV at CDP
          obtain ⟨F2, hF2⟩ : ∃ F2, putF (putF F s (x + 1)) 316 (a + q) = F2 := ⟨_, rfl⟩
          rw [hF2] at WF10 E10 OK10
          have hx2 := OK10.out (286 + s2)
          have ha2 := OK10.out 316
          obtain ⟨x2, hxx2⟩ : ∃ x, F2 (286 + s2) = x := ⟨_, rfl⟩
          obtain ⟨a2, haa2⟩ : ∃ a, F2 316 = a := ⟨_, rfl⟩
          rw [hxx2] at hx2
          rw [haa2] at ha2
          have HX2 := Lib.hid hxx2; have HA2 := Lib.hid haa2; have HS2 := Lib.hid hs2; have HQ2 := Lib.hid hq2
          clear h00 hn1 hn2 hd1 hd2 hs2 hm2 hq2 hF2 hxx2 haa2
          go_wp2_with fail
          clear y0 y1 y2 y3 y4 y5 z1 z2
          generalize (W8.setCell ⟨w.heap.size + 1, s, none⟩ (.int .i64 (x + 1))).setCell ⟨w.heap.size + 1, 316, none⟩ (.int .i64 (a + q)) = W10 at *
          refine (CDP.out _).mono ?_
          rintro e w11 ⟨rfl, hb11⟩
          have WF11 := Lib.hid (WF10.out.only (Only.of_below hb11 Nob) (fun h => h))
          have WR11 := Lib.hid (WR10.out.only (Only.of_below hb11 Nob) (fun h => h))
          have hP := HWP10.out.only (Only.of_below hb11 Nob) (fun h => h)
          have BL11 := Lib.hid (BL10.out.trans (hb11.mono BL10.out.size))
          have ne1 : w.heap.size + 1 ≠ g7 := WF11.out.ne hP (by decide)
          have ne3 : w.heap.size ≠ g7 := WR11.out.ne hP (by decide)
          have r0 : w11.cell? ⟨g7, 0, none⟩ = some (.int .i64 s) := hP.cell 0
          have r1 : w11.cell? ⟨g7, 1, none⟩ = some (.int .i64 m) := hP.cell 1
          have r2 : w11.cell? ⟨g7, 2, none⟩ = some (.int .i64 q) := hP.cell 2
          have f0 := hP.frozen 0
          have f1 := hP.frozen 1
          have f2 := hP.frozen 2
          have hP12 := hP.put3 (.int .i64 s2) (.int .i64 m2) (.int .i64 q2)
          have hF12 := ((WF11.out.far (p := ⟨g7, 0, none⟩) ne1 (.int .i64 s2)).far (p := ⟨g7, 1, none⟩) ne1 (.int .i64 m2)).far (p := ⟨g7, 2, none⟩) ne1 (.int .i64 q2)
          have hR12 := ((WR11.out.far (p := ⟨g7, 0, none⟩) ne3 (.int .i64 s2)).far (p := ⟨g7, 1, none⟩) ne3 (.int .i64 m2)).far (p := ⟨g7, 2, none⟩) ne3 (.int .i64 q2)
          have hg7l : w.heap.size ≤ g7 := by have := HSZ7.out; rw [HG7.out] at this; exact this
          have hB12 := below_put3 BL11.out hg7l (.int .i64 s2) (.int .i64 m2) (.int .i64 q2)
          obtain ⟨W12, hW12⟩ : ∃ W12, (((w11.setCell ⟨g7, 0, none⟩ (.int .i64 s2)).setCell ⟨g7, 1, none⟩ (.int .i64 m2)).setCell ⟨g7, 2, none⟩ (.int .i64 q2)) = W12 := ⟨_, rfl⟩
          rw [hW12] at hP12 hF12 hR12 hB12
          have v0 : W12.cell? ⟨g7, 0, none⟩ = some (.int .i64 s2) := hP12.cell 0
          have v1 : W12.cell? ⟨w.heap.size + 1, 286 + s2, none⟩ = some (.int .i64 x2) := by rw [hF12.cell _, rz_get _ _ _ (by omega), HX2.out]
          have u1 := hF12.frozen (286 + s2)
          have hF13 : Whole (W12.setCell ⟨w.heap.size + 1, 286 + s2, none⟩ (.int .i64 (x2 + 1))) (w.heap.size + 1) 60 (rz 317 (putF F2 (286 + s2) (x2 + 1))) := by
            have h := hF12.put (286 + s2) (.int .i64 (x2 + 1))
            rw [rz_set] at h
            exact h
          have v2 : (W12.setCell ⟨w.heap.size + 1, 286 + s2, none⟩ (.int .i64 (x2 + 1))).cell? ⟨w.heap.size + 1, 316, none⟩ = some (.int .i64 a2) := by
            rw [hF13.cell 316, rz_get _ _ _ (by omega)]
            unfold putF
            rw [if_neg (by omega), HA2.out]
          have u2 := hF13.frozen 316
          have hP13 := hP12.far (p := ⟨w.heap.size + 1, 286 + s2, none⟩) (fun e => ne1 e.symm) (.int .i64 (x2 + 1))
          have v3 : (W12.setCell ⟨w.heap.size + 1, 286 + s2, none⟩ (.int .i64 (x2 + 1))).cell? ⟨g7, 2, none⟩ = some (.int .i64 q2) := hP13.cell 2
          have WF14 : Hid (Whole ((W12.setCell ⟨w.heap.size + 1, 286 + s2, none⟩ (.int .i64 (x2 + 1))).setCell ⟨w.heap.size + 1, 316, none⟩ (.int .i64 (a2 + q2))) (w.heap.size + 1) 60 (rz 317 (putF (putF F2 (286 + s2) (x2 + 1)) 316 (a2 + q2)))) := Lib.hid (by
            have h := hF13.put 316 (.int .i64 (a2 + q2))
            rw [rz_set] at h
            exact h)
          have BL14 : Hid (Below w.heap.size w ((W12.setCell ⟨w.heap.size + 1, 286 + s2, none⟩ (.int .i64 (x2 + 1))).setCell ⟨w.heap.size + 1, 316, none⟩ (.int .i64 (a2 + q2)))) := Lib.hid ((hB12.setCell (by simp) _).setCell (by simp) _)
          have WR14 : Hid (Whole ((W12.setCell ⟨w.heap.size + 1, 286 + s2, none⟩ (.int .i64 (x2 + 1))).setCell ⟨w.heap.size + 1, 316, none⟩ (.int .i64 (a2 + q2))) w.heap.size 60 Tryz.zeroCells60) := Lib.hid ((hR12.far (by simp) _).far (by simp) _)
          have E14 : Hid (cnt2 F2 D = putF (putF F2 (286 + s2) (x2 + 1)) 316 (a2 + q2)) := Lib.hid (by unfold cnt2; rw [HS2.out, HQ2.out, HX2.out, HA2.out])
          have OK14 : Hid (CntOk (putF (putF F2 (286 + s2) (x2 + 1)) 316 (a2 + q2)) (1 + 72 * (k + 1))) := Lib.hid (by
            have h1 := OK10.out.put (286 + s2) 1 (by omega)
            rw [HX2.out] at h1
            have h2 := h1.put 316 q2 (by omega)
            have e : putF F2 (286 + s2) (x2 + 1) 316 = a2 := by unfold putF; rw [if_neg (by omega), HA2.out]
            rw [e] at h2
            exact h2.mono (by omega))
          have t0 : (0 : Int) ≤ s2 := by omega
          have t1 : (s2 : Int) < 30 := by omega
          clear hP hP12 hF12 hR12 hB12 hF13 hP13 hb11 hs30 ne1 ne3 hg7l
          go_wp2_with fail
          go_roundw
          case rel => exact ⟨k + 1, putF (putF F2 (286 + s2) (x2 + 1)) 316 (a2 + q2), by omega, by go_num, Lib.hid ⟨WF14.out, WR14.out, by rw [HTK.out, cntL_snoc, ← HEF.out, ← E14.out, ← E10.out]; unfold cntT; rw [if_neg hz]; rfl, by rw [HTK.out, List.all_append, HALL.out]; simp [HRT.out], OK14.out, BL14.out⟩⟩
          case measure => simp [intOf]; omega
    · obtain rfl : k = n := by omega
      obtain ⟨hF, hR, eF, hall, hok, hbel⟩ := h.out
      have htk : l.take k = l := List.take_of_length_le (by rw [HLN.out]; exact Nat.le_refl _)
      rw [htk] at eF hall
      subst eF
      obtain ⟨C, hC⟩ : ∃ C, rz 317 (cntL l cnt0) = C := ⟨_, rfl⟩
      have hc1 : Hid (C.all (·.oneCell') = true) := Lib.hid (by rw [← hC]; exact rz_one _ _)
      have hcs : Hid (Tryz.zeroCells60.size = C.size) := Lib.hid (by rw [hzz.out, ← hC, rz_size, rz_size])
      have hci : Hid ((Tryz.prog.info? 60).map (·.size) = some C.size) := Lib.hid (by rw [← hC]; exact HI59'.out _)
      have HC := Lib.hid hC
      rw [hC] at hF
      have WF := Lib.hid hF; have WR := Lib.hid hR; have BL := Lib.hid hbel; have HALL := Lib.hid hall
      clear hF hR hall hok hbel hC h htk
      go_wp2_with (first
        | (refine wpList_load_row rfl 60 (.tmp 4) rfl (w.heap.size + 1) rfl 60 C (0, 0) _ WF.out Tryz.underlying60 rfl hci.out ?_)
        | (refine wpList_store_row rfl 60 (.tmp 2) (.tmp 58) rfl w.heap.size C rfl rfl 60 Tryz.zeroCells60 WR.out hci.out hcs.out hc1.out ?_))
      exact bodyPost_ret (v := .tuple #[.agg C, .bool true]) (results_row_tmp (p := 2) (u := 3) (ty := 60) rfl _ _ w.heap.size 60 C (0, 0) _ rfl (WR.out.setRow _) Tryz.underlying60 rfl hci.out) rfl (.inl ⟨HALL.out, by rw [HC.out], below_setRow BL.out _ (Nat.le_refl _)⟩)
end Go.Proofs.YtkjhefjjacokjaaGreat
