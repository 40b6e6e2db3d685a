/-
  Contracts of putPart, runsCounted. Conditions: each theorem names its own.
  Contracts of runsCounted, inOrder. Conditions: each run's sign is at most eighteen; nineteen lengths.
  The contract of putLengths: the header of a dynamic block. Conditions: the lengths are right, and as many as there may be.
  The walk of putLengths: the header of a dynamic block. Conditions: the lengths are right, and as many as there may be.
  Contracts of bits and write of a block, of tokens: a fixed one, a dynamic one. Conditions: each theorem names its own.
  The contract of write of a block, of tokens: a fixed one, a dynamic one. Conditions: each token has words.
  The contract of write of a dynamic block, of tokens. Conditions: each token has words.
  What a block costs is how many bits are written of it; which tokens have words. Conditions: each theorem names its own. Nothing is walked here.
  Tokens have words in a fixed block, and in a dynamic one; what is known of the lengths of a dynamic one. Conditions: tokens are right. Nothing is walked here.
  A block of tokens: how many bits it takes, what is written; a fixed one, a dynamic one. Conditions: tokens are right, at most a thousand.
-/
import Derived.Test.YtkjhefjjacokjaaGreatDC
import Derived.Test.YtkjhefjjacokjaaGreatRJ
import Derived.Test.YtkjhefjjacokjaaGreatCT
namespace Go.Proofs.YtkjhefjjacokjaaGreat
open Go.RowKit
set_option maxRecDepth 100000
theorem CodeOwn.tw {w w' : World} {lo g : Nat} {l : List Int} {n : Nat} (h : CodeOwn w lo g l n) (ho : Tw w w') : CodeOwn w' lo g l n :=
  h.only ho (by
    rintro k ⟨t, cs, hw, ht⟩ _
    refine ⟨t, cs, hw, ?_⟩
    rcases ht with rfl | rfl <;> decide)
set_option maxHeartbeats 1000000 in
/-- A sign's word, and what is added. -/
theorem putPart_any (B g : Nat) (sv : Value) (bits : List Bool) (hb : bits.length ≤ 900000) (lo gc n : Nat) (l : List Int) (hn : l.length = n) (hk : kindOf l ≠ 0) (s m k : Nat) (hs : s < n) (h0 : len l s ≠ 0) (hm : m < 4294967296) (hk32 : k ≤ 32)
    (w : World) (hw : WriterAt w B g sv bits) (hc : CodeOwn w lo gc l n) :
    Calls Tryz.prog 62 #[.pointer (some ⟨g, 0, none⟩), .pointer (some ⟨gc, 0, none⟩), .agg #[.int .i64 s, .int .i64 m, .int .i64 k]] w fun e w' => e = .returned (.tuple #[]) ∧ PutPost w B g sv (bits ++ wb l s ++ bitsOf m k) w' := by
  have hB0 : Below w.heap.size w (w.alloc (.cells #[.int .i64 s, .int .i64 m, .int .i64 k] 87)) := (Below.refl _ _).alloc (Nat.le_refl _) _
  have WB := Lib.hid (Whole.new w 87 #[.int .i64 s, .int .i64 m, .int .i64 k])
  have HW0 := Lib.hid (hw.below hB0)
  have HC0 := Lib.hid (hc.below hB0)
  have BB0 := Lib.hid hB0
  have hlen := len_le (right_ok hk) s
  have wm : IntKind.u32.wrap (m : Int) = m := by simp [IntKind.wrap, IntKind.signed, IntKind.bits]; omega
  have CP := Lib.hid (codePut_yes (w.alloc (.cells #[.int .i64 s, .int .i64 m, .int .i64 k] 87)).heap.size gc l n hn hk B g sv bits s (w.alloc (.cells #[.int .i64 s, .int .i64 m, .int .i64 k] 87)) HC0.out.seen HW0.out (by omega) hs h0)
  obtain ⟨gb, hgb⟩ : ∃ gb, w.heap.size = gb := ⟨_, rfl⟩
  rw [hgb] at WB
  clear hB0 hw hc
  go_enter Tryz.func62, Tryz.ntmps62
  go_wp2_with fail
  refine CP.out.mono ?_
  rintro e w1 ⟨rfl, hp⟩
  have TW1 := Tw.of_put HW0.out hp
  have hW1 := WB.out.tw TW1 (by decide) (by decide)
  obtain ⟨sv1, p1, p2, p3⟩ := hp
  have P1 := Lib.hid p1; have P2 := Lib.hid ((Only.of_below BB0.out (Foot g sv)).trans p2)
  have P3 : Hid (∀ k, sv1.ownBlock = some k → sv.ownBlock = some k ∨ w.heap.size ≤ k) := Lib.hid (fun k hk => (p3 k hk).imp id (fun h => Nat.le_trans BB0.out.size h))
  have q1 : w1.cell? ⟨gb, 1, none⟩ = some (.int .i64 m) := hW1.cell 1
  have q2 : w1.cell? ⟨gb, 2, none⟩ = some (.int .i64 k) := hW1.cell 2
  clear p1 p2 p3 TW1 hW1 CP
  go_wp2_with fail
  refine (put_yes m k B g sv1 _ hm hk32 w1 P1.out (by rw [List.length_append, wb_length]; omega)).mono ?_
  rintro e w2 ⟨rfl, hp⟩
  have PP := Lib.hid (PutPost.then P2.out P3.out hp); clear hp
  go_wp2_with fail
  go_end0
  exact ⟨rfl, PP.out⟩
/-- How often each sign of runs comes. -/
def rnC : List Rn → (Nat → Int) → Nat → Int
  | [], F => F
  | r :: l, F => rnC l (putF F r.sign.toNat (F r.sign.toNat + 1))
theorem rnC_snoc (l : List Rn) (r : Rn) (F : Nat → Int) : rnC (l ++ [r]) F = putF (rnC l F) r.sign.toNat (rnC l F r.sign.toNat + 1) := by
  induction l generalizing F with
  | nil => rfl
  | cons u l ih => exact ih _
theorem rnC_le (l : List Rn) (F : Nat → Int) (M : Int) (hF : ∀ i, 0 ≤ F i ∧ F i ≤ M) : ∀ i, 0 ≤ rnC l F i ∧ rnC l F i ≤ M + l.length := by
  induction l generalizing F M with
  | nil => intro i; have := hF i; simp [rnC]; omega
  | cons r l ih =>
    intro i
    have := ih (putF F r.sign.toNat (F r.sign.toNat + 1)) (M + 1) (by
      intro j
      have h1 := hF j; have h2 := hF r.sign.toNat
      unfold putF
      split <;> omega) i
    simp only [rnC, List.length_cons]
    omega
theorem Seen.rnP {w : World} {B n c : Nat} {A : Option Addr} {l : List Rn} (h : Seen w B 2 A n c (rvs l)) {k : Nat} (hk : k < n) : ∃ (t : Rn) (b o : Nat), l[k]? = some t ∧ A = some ⟨b, o, none⟩ ∧ b < B ∧ w.cell? ⟨b, o + k * 2, none⟩ = some (.int .i64 t.sign) ∧ w.cell? ⟨b, o + k * 2 + 1, none⟩ = some (.int .i64 t.more) := h.rn hk
/-- The order, as numbers. -/
def ordL : List Nat := [16, 17, 18, 0, 8, 7, 9, 6, 10, 5, 11, 4, 12, 3, 13, 2, 14, 1, 15]
def ordI (i : Nat) : Int := (ordL.getD i 0 : Nat)
theorem ordL_lt : ∀ i, i < 19 → ordL.getD i 0 < 19 := by decide
theorem rowz112 : (Tryz.prog.info? 139).map (fun i => (i.zero, i.size)) = some (some (.agg (Array.replicate 19 (.int .i64 0))), 19) := by kernel_rfl
theorem built112 : Tryz.prog.built 139 [] = some (Array.replicate 19 (.int .i64 0)) := by kernel_rfl
theorem zero112 (W : World) : (zeroValue 139).run Tryz.prog W = .ok (.agg (rz 19 fun _ => 0)) W := by rw [← rz_const]; exact (zero_of_info rowz112).1 W
theorem build112 (W : World) : (Instr.build 139 #[]).run Tryz.prog W = .ok (.agg (rz 19 fun _ => 0)) W := by rw [← rz_const]; exact run_build W 139 #[] _ built112
theorem info112 (f : Nat → Int) : (Tryz.prog.info? 139).map (·.size) = some (rz 19 f).size := by rw [rz_size]; exact (zero_of_info rowz112).2
theorem builtO : Tryz.prog.built 139 [(0, .int .i64 16), (1, .int .i64 17), (2, .int .i64 18), (3, .int .i64 0), (4, .int .i64 8), (5, .int .i64 7), (6, .int .i64 9), (7, .int .i64 6), (8, .int .i64 10), (9, .int .i64 5), (10, .int .i64 11), (11, .int .i64 4), (12, .int .i64 12), (13, .int .i64 3), (14, .int .i64 13), (15, .int .i64 2), (16, .int .i64 14), (17, .int .i64 1), (18, .int .i64 15)] = some (rz 19 ordI) := by kernel_rfl
theorem buildO (W : World) : (Instr.build 139 #[(0, .int .i64 16), (1, .int .i64 17), (2, .int .i64 18), (3, .int .i64 0), (4, .int .i64 8), (5, .int .i64 7), (6, .int .i64 9), (7, .int .i64 6), (8, .int .i64 10), (9, .int .i64 5), (10, .int .i64 11), (11, .int .i64 4), (12, .int .i64 12), (13, .int .i64 3), (14, .int .i64 13), (15, .int .i64 2), (16, .int .i64 14), (17, .int .i64 1), (18, .int .i64 15)]).run Tryz.prog W = .ok (.agg (rz 19 ordI)) W := run_build W 139 _ _ builtO
theorem order_any (w : World) : Calls Tryz.prog 100 #[] w fun e w' => e = .returned (.agg (rz 19 ordI)) ∧ Below w.heap.size w w' := by
  have hz := zero112
  have hb := buildO
  have HI := Lib.hid info112
  go_enter Tryz.func100, Tryz.ntmps100
  go_wp2_with (with_reducible refine wpList_store_row rfl 139 (.tmp 0) (.tmp 1) rfl w.heap.size (rz 19 ordI) rfl rfl 139 (rz 19 fun _ => 0) (heap_alloc_new w _) (HI.out _) (by rw [rz_size, rz_size]) (rz_one _ _) ?_)
  exact bodyPost_ret (v := .agg (rz 19 ordI)) (results_cell_row (p := 0) (ty := 139) rfl _ _ w.heap.size 139 (rz 19 ordI) (0, 0) _ rfl ((Whole.new w 139 _).setRow _) Tryz.underlying139 rfl (HI.out _)) rfl ⟨rfl, below_setRow ((Below.refl _ _).alloc (Nat.le_refl _) _) _ (Nat.le_refl _)⟩
/-- An array of nineteen, as a slice. -/
def GivesA19 (F : Nat → Int) (w : World) (e : Ending) (w' : World) : Prop :=
  ∃ g, e = .returned (.slice (some ⟨g, 0, none⟩) 19 19) ∧ Whole w' g 139 (rz 19 F) ∧ w.heap.size ≤ g ∧ Below w.heap.size w w'
theorem seen_arr {w : World} {g : Nat} {F : Nat → Int} (h : Whole w g 139 (rz 19 F)) : Seen w w.heap.size 1 (some ⟨g, 0, none⟩) 19 19 (iv ((List.range 19).map F)) := by
  refine ⟨by simp, Nat.le_refl _, .inr ⟨_, rfl, fun _ => ⟨rfl, h.lt, fun j u hu => ?_⟩⟩⟩
  show w.cell? ⟨g, 0 + j, none⟩ = some u
  have hj : j < 19 := by
    have := (List.getElem?_eq_some_iff.1 hu).1
    simpa using this
  rw [Nat.zero_add, h.cell j, rz_get _ _ _ hj, ← hu]
  simp [iv, hj]
end Go.Proofs.YtkjhefjjacokjaaGreat

namespace Go.Proofs.YtkjhefjjacokjaaGreat
open Go.RowKit
set_option maxRecDepth 100000
theorem arr_start (w : World) : Whole ((w.alloc (.cells (rz 19 fun _ => 0) 139)).setRow w.heap.size (rz 19 fun _ => 0)) w.heap.size 139 (rz 19 fun _ => 0) := (Whole.new w 139 _).setRow _
set_option maxHeartbeats 2000000 in
theorem runsCounted_any (A : Option Addr) (n c B : Nat) (l : List Rn) (hl : ∀ r ∈ l, 0 ≤ r.sign ∧ r.sign < 19) (hn : n ≤ 1000) (w : World) (hs : Seen w B 2 A n c (rvs l)) (hB : B ≤ w.heap.size) :
    Calls Tryz.prog 79 #[.slice A n c] w (GivesA19 (rnC l fun _ => 0) w) := by
  have hln : l.length = n := by have := hs.1; rw [rvs_length] at this; omega
  have hz := zero112
  have hb := build112
  have HI := Lib.hid info112
  have HS := Lib.hid hs; have HL := Lib.hid hl; have HLN := Lib.hid hln
  clear hs hl hln
  have WS := Lib.hid (arr_start w)
  have BS : Hid (Below w.heap.size w ((w.alloc (.cells (rz 19 fun _ => 0) 139)).setRow w.heap.size (rz 19 fun _ => 0))) := Lib.hid (below_setRow ((Below.refl _ _).alloc (Nat.le_refl _) _) _ (Nat.le_refl _))
  go_enter Tryz.func79, Tryz.ntmps79
  go_wp2_with (with_reducible refine wpList_store_row rfl 139 (.tmp 3) (.tmp 6) rfl w.heap.size (rz 19 fun _ => 0) rfl rfl 139 (rz 19 fun _ => 0) (heap_alloc_new w _) (HI.out _) rfl (rz_one _ _) ?_)
  go_loopw [9] (fun i wr => ∃ (k : Nat) (F : Nat → Int), k ≤ n ∧ i = .int .i64 k ∧ Hid (Whole wr w.heap.size 139 (rz 19 F) ∧ F = rnC (l.take k) (fun _ => 0) ∧ Below w.heap.size w wr)) (fun i _ => n - (intOf i).toNat)
  case atStart => exact ⟨0, _, Nat.zero_le _, rfl, Lib.hid ⟨WS.out, rfl, BS.out⟩⟩
  case round =>
    obtain ⟨k, F, hk, rfl, h⟩ := hrel
    obtain ⟨hW, hF, hbel⟩ := h.out
    by_cases hlt : k < n
    · obtain ⟨⟨s, m⟩, b, o, ht, rfl, hbB, c0, c1⟩ := (HS.out.below (hbel.mono hB)).rnP hlt
      obtain ⟨hkl, ht2⟩ := List.getElem?_eq_some_iff.1 ht
      have htk : l.take (k + 1) = l.take k ++ [⟨s, m⟩] := by rw [← ht2, List.take_append_getElem]
      have hsr := HL.out ⟨s, m⟩ (by rw [← ht2]; exact List.getElem_mem hkl)
      simp only at hsr c0 c1
      obtain ⟨s, rfl⟩ := Int.eq_ofNat_of_zero_le hsr.1
      have hs19 : s < 19 := by omega
      have hbr : b < wr.heap.size := by have := hbel.size; omega
      have hne : wr.heap.size ≠ b := by omega
      have hgw := hW.lt
      have hne2 : wr.heap.size ≠ w.heap.size := by omega
      have x0 := rnC_le (l.take k) (fun _ => 0) 0 (fun _ => ⟨Int.le_refl _, Int.le_refl _⟩) s
      rw [← hF] at x0
      have hlk : (l.take k).length ≤ 1000 := by rw [List.length_take]; omega
      obtain ⟨x, hx⟩ : ∃ x, F s = x := ⟨_, rfl⟩
      rw [hx] at x0
      have wx : IntKind.i64.wrap (x + 1) = x + 1 := IntWalk.i64_in _ (by omega)
      have hB5 : Below wr.heap.size wr (wr.alloc (.cells #[.int .i64 s, .int .i64 m] 118)) := (Below.refl _ _).alloc (Nat.le_refl _) _
      have hW5 := hW.only (Only.of_below hB5 Nob) (fun h => h)
      have y0 : (wr.alloc (.cells #[.int .i64 s, .int .i64 m] 118)).cell? ⟨w.heap.size, s, none⟩ = some (.int .i64 x) := (hW5.cell s).trans (by rw [rz_get _ _ _ hs19, hx])
      have z0 := hW5.frozen s
      have T5 := Lib.hid (Whole.new wr 118 #[.int .i64 s, .int .i64 m])
      have WF : Hid (Whole ((wr.setCell ⟨w.heap.size, s, none⟩ (.int .i64 (x + 1))).alloc (.cells #[.int .i64 s, .int .i64 m] 118)) w.heap.size 139 (rz 19 (putF F s (x + 1)))) := Lib.hid (by
        have h := hW.put s (.int .i64 (x + 1))
        rw [rz_set] at h
        exact h.alloc _)
      have BF : Hid (Below w.heap.size w ((wr.setCell ⟨w.heap.size, s, none⟩ (.int .i64 (x + 1))).alloc (.cells #[.int .i64 s, .int .i64 m] 118))) := Lib.hid ((hbel.setCell (by simp) _).alloc (by have := hbel.size; simp [World.setCell]; omega) _)
      have EF : Hid (putF F s (x + 1) = rnC (l.take (k + 1)) (fun _ => 0)) := Lib.hid (by rw [htk, rnC_snoc, ← hF, ← hx]; rfl)
      have hk0 : (0 : Int) ≤ k := by omega
      have s0 : (0 : Int) ≤ s := by omega
      have s1 : (s : Int) < 19 := by omega
      clear h hW hF hbel ht ht2 htk hkl hB5 hW5 hx
      go_wp2_with fail
      go_roundw
      case rel => exact ⟨k + 1, putF F s (x + 1), by omega, by go_num, Lib.hid ⟨WF.out, EF.out, BF.out⟩⟩
      case measure => simp [intOf]; omega
    · obtain rfl : k = n := by omega
      have WF := Lib.hid hW; have BF := Lib.hid hbel
      have EF : Hid (F = rnC l (fun _ => 0)) := Lib.hid (by rw [hF, List.take_of_length_le (by rw [HLN.out]; exact Nat.le_refl _)])
      clear hW hF hbel h
      go_wp2_with fail
      go_ret
      exact ⟨w.heap.size, rfl, by rw [← EF.out]; exact WF.out, Nat.le_refl _, BF.out⟩
theorem run_index112 (R : Array Value) (k : Nat) (v : Value) (hk : k < 19) (hv : R[k]? = some v) (W : World) : (Instr.index 139 (.agg R) (.int .i64 k)).run Tryz.prog W = .ok v W := by
  have h2 : (0 : Int) ≤ k ∧ (k : Int) < 19 := by omega
  simp [Instr.index, asIntOf, go_sem, run_underlying Tryz.underlying139, h2, Tryz.sizeOf3, Tryz.isAgg3, hv]
  omega
/-- Lengths of lengths, in the order in which they are told. -/
def inO (l : List Int) (i : Nat) : Int := l.getD (ordL.getD i 0) 0
set_option maxHeartbeats 2000000 in
theorem inOrderB_any (A : Option Addr) (c B : Nat) (l : List Int) (hn : l.length = 19) (w : World) (hs : Seen w B 1 A 19 c (iv l)) (hB : B ≤ w.heap.size) :
    Calls Tryz.prog 80 #[.slice A 19 c] w (GivesA19 (inO l) w) := by
  have hz := zero112
  have hb := build112
  have HI := Lib.hid info112
  have HS := Lib.hid hs; have HN := Lib.hid hn
  clear hs hn
  have WS := Lib.hid (arr_start w)
  have BS : Hid (Below w.heap.size w ((w.alloc (.cells (rz 19 fun _ => 0) 139)).setRow w.heap.size (rz 19 fun _ => 0))) := Lib.hid (below_setRow ((Below.refl _ _).alloc (Nat.le_refl _) _) _ (Nat.le_refl _))
  go_enter Tryz.func80, Tryz.ntmps80
  go_wp2_with (with_reducible refine wpList_store_row rfl 139 (.tmp 3) (.tmp 6) rfl w.heap.size (rz 19 fun _ => 0) rfl rfl 139 (rz 19 fun _ => 0) (heap_alloc_new w _) (HI.out _) rfl (rz_one _ _) ?_)
  refine (order_any _).mono ?_
  rintro e w1 ⟨rfl, hb1⟩
  have W1 := Lib.hid (WS.out.only (Only.of_below hb1 Nob) (fun h => h))
  have B1 := Lib.hid (BS.out.trans (hb1.mono BS.out.size))
  clear hb1 WS BS
  obtain ⟨R, hR⟩ : ∃ R, rz 19 ordI = R := ⟨_, rfl⟩
  have HG : Hid (∀ k, k < 19 → R[k]? = some (.int .i64 ((ordL.getD k 0 : Nat) : Int))) := Lib.hid (fun k hk => by rw [← hR, rz_get _ _ _ hk]; rfl)
  have hRs : R.size = 19 := by rw [← hR, rz_size]
  rw [hR]
  clear hR
  go_wp2_with fail
  go_loopw [8] (fun i wr => ∃ (k : Nat) (F : Nat → Int), k ≤ 19 ∧ i = .int .i64 k ∧ Hid (Whole wr w.heap.size 139 (rz 19 F) ∧ (∀ j, j < k → F j = inO l j) ∧ Below w.heap.size w wr)) (fun i _ => 19 - (intOf i).toNat)
  case atStart => exact ⟨0, _, Nat.zero_le _, rfl, Lib.hid ⟨W1.out, fun j hj => by omega, B1.out⟩⟩
  case round =>
    obtain ⟨k, F, hk, rfl, h⟩ := hrel
    obtain ⟨hW, hF, hbel⟩ := h.out
    by_cases hlt : k < 19
    · have rk := HG.out k hlt
      have q19 := ordL_lt k hlt
      obtain ⟨q, hq⟩ : ∃ q, ordL.getD k 0 = q := ⟨_, rfl⟩
      rw [hq] at rk q19
      have hix := fun W => run_index112 R k _ hlt rk W
      obtain ⟨b, o, rfl, hbB, c0⟩ := (HS.out.below (hbel.mono hB)).int HN.out q19
      obtain ⟨x, hx⟩ : ∃ x, l[q]'(by rw [HN.out]; exact q19) = x := ⟨_, rfl⟩
      rw [hx] at c0
      have hixx : inO l k = x := by
        have hql : q < l.length := by rw [HN.out]; exact q19
        unfold inO
        rw [hq, ← hx]
        simp only [List.getD]
        rw [List.getElem?_eq_getElem hql]; rfl
      have z0 := hW.frozen k
      have y0 : wr.cell? ⟨w.heap.size, k, none⟩ = some (.int .i64 (F k)) := (hW.cell k).trans (by rw [rz_get _ _ _ hlt])
      have WF : Hid (Whole (wr.setCell ⟨w.heap.size, k, none⟩ (.int .i64 x)) w.heap.size 139 (rz 19 (putF F k x))) := Lib.hid (by
        have h := hW.put k (.int .i64 x)
        rw [rz_set] at h
        exact h)
      have BF : Hid (Below w.heap.size w (wr.setCell ⟨w.heap.size, k, none⟩ (.int .i64 x))) := Lib.hid (hbel.setCell (by simp) _)
      have EF : Hid (∀ j, j < k + 1 → putF F k x j = inO l j) := Lib.hid (fun j hj => by
        unfold putF
        split
        · rename_i e; rw [e, hixx]
        · exact hF j (by omega))
      have hk0 : (0 : Int) ≤ k := by omega
      have q0 : (0 : Int) ≤ q := by omega
      have q1 : (q : Int) < 19 := by omega
      have k1 : (k : Int) < 19 := by omega
      clear h hW hF hbel hq hx hixx
      go_wp2_with fail
      go_roundw
      case rel => exact ⟨k + 1, putF F k x, by omega, by go_num, Lib.hid ⟨WF.out, EF.out, BF.out⟩⟩
      case measure => simp [intOf]; omega
    · obtain rfl : k = 19 := by omega
      have WF : Hid (Whole wr w.heap.size 139 (rz 19 (inO l))) := Lib.hid (by rw [← rz_ext 19 F (inO l) hF]; exact hW)
      have BF := Lib.hid hbel
      clear hW hF hbel h
      go_wp2_with fail
      go_ret
      exact ⟨w.heap.size, rfl, WF.out, Nat.le_refl _, BF.out⟩
end Go.Proofs.YtkjhefjjacokjaaGreat

namespace Go.Proofs.YtkjhefjjacokjaaGreat
open Go.RowKit
set_option maxRecDepth 100000
section
variable {w0 w w' : World} {B g : Nat} {sv : Value} {bits : List Bool}
theorem PutPost.start (h : WriterAt w B g sv bits) : PutPost w B g sv bits w := ⟨sv, h, Only.refl _ _, fun _ hk => .inl hk⟩
theorem PutPost.below (h : PutPost w0 B g sv bits w) (hb : Below w.heap.size w w') : PutPost w0 B g sv bits w' := by
  obtain ⟨s, h1, h2, h3⟩ := h
  exact ⟨s, h1.below hb, h2.trans (Only.of_below hb _), h3⟩
theorem PutPost.size (h : PutPost w0 B g sv bits w) : w0.heap.size ≤ w.heap.size := by
  obtain ⟨s, h1, h2, h3⟩ := h
  exact h2.size
theorem PutPost.put (h : PutPost w0 B g sv bits w) (v n : Nat) (hv : v < 4294967296) (hn : n ≤ 32) (hb : bits.length ≤ 1000000) :
    Calls Tryz.prog 23 #[.pointer (some ⟨g, 0, none⟩), .int .u32 v, .int .i64 n] w fun e w' => e = .returned (.tuple #[]) ∧ PutPost w0 B g sv (bits ++ bitsOf v n) w' ∧ Tw w w' := by
  obtain ⟨s, h1, h2, h3⟩ := h
  refine (put_yes v n B g s bits hv hn w h1 hb).mono ?_
  rintro e w1 ⟨rfl, hp⟩
  exact ⟨rfl, PutPost.then h2 h3 hp, Tw.of_put h1 hp⟩
theorem PutPost.part (h : PutPost w0 B g sv bits w) (hb : bits.length ≤ 900000) (lo gc n : Nat) (l : List Int) (hn : l.length = n) (hk : kindOf l ≠ 0) (s m k : Nat) (hs : s < n) (h0 : len l s ≠ 0) (hm : m < 4294967296) (hk32 : k ≤ 32) (hc : CodeOwn w lo gc l n) :
    Calls Tryz.prog 62 #[.pointer (some ⟨g, 0, none⟩), .pointer (some ⟨gc, 0, none⟩), .agg #[.int .i64 s, .int .i64 m, .int .i64 k]] w fun e w' => e = .returned (.tuple #[]) ∧ PutPost w0 B g sv (bits ++ (wb l s ++ bitsOf m k)) w' ∧ Tw w w' := by
  obtain ⟨sv1, h1, h2, h3⟩ := h
  refine (putPart_any B g sv1 bits hb lo gc n l hn hk s m k hs h0 hm hk32 w h1 hc).mono ?_
  rintro e w1 ⟨rfl, hp⟩
  rw [List.append_assoc] at hp
  exact ⟨rfl, PutPost.then h2 h3 hp, Tw.of_put h1 hp⟩
end

def ofRn (s d : List Int) : List Int := (List.range 19).map (rnC (ofL (s ++ d)) fun _ => 0)
def lenRn (s d : List Int) : List Int := bestL (ofRn s d) 7
def telN (s d : List Int) : Nat := trimN ((List.range 19).map (inO (lenRn s d))) 4 19
def telL (s d : List Int) : List Int := ((List.range 19).map (inO (lenRn s d))).take (telN s d)
def runB (l : List Int) (r : Rn) : List Bool := wb l r.sign.toNat ++ bitsOf r.more.toNat (bitsR r.sign).toNat
def hdrL (s d : List Int) : List Bool :=
  bitsOf (s.length - 257) 5 ++ (bitsOf (d.length - 1) 5 ++ (bitsOf (telN s d - 4) 4 ++ ((telL s d).flatMap (fun n => bitsOf n.toNat 3) ++ (ofL (s ++ d)).flatMap (runB (lenRn s d)))))
theorem expR_right : ∀ (l : List Rn) (o p : List Int), expR l o = (0, p) → ∀ r ∈ l, rightR r = true
  | [], _, _, _, r, hr => by cases hr
  | t :: l, o, p, h, r, hr => by
    by_cases hw : wrongR t o.length = 0
    · rw [expR_ok hw] at h
      rcases List.mem_cons.1 hr with rfl | hr
      · exact (wrongR_ok hw).1
      · exact expR_right l _ p h r hr
    · rw [expR_er hw] at h
      injection h with h _
      exact absurd h hw
theorem rnC_mono (l : List Rn) (F : Nat → Int) (i : Nat) : F i ≤ rnC l F i := by
  induction l generalizing F with
  | nil => exact Int.le_refl _
  | cons r l ih =>
    have := ih (putF F r.sign.toNat (F r.sign.toNat + 1))
    refine Int.le_trans ?_ this
    unfold putF
    split
    · rename_i e; rw [e]; omega
    · exact Int.le_refl _
theorem rnC_pos (l : List Rn) (F : Nat → Int) (hF : ∀ i, 0 ≤ F i) (r : Rn) (hr : r ∈ l) : 1 ≤ rnC l F r.sign.toNat := by
  induction l generalizing F with
  | nil => cases hr
  | cons t l ih =>
    have hF' : ∀ i, 0 ≤ putF F t.sign.toNat (F t.sign.toNat + 1) i := by
      intro i; have := hF i; have := hF t.sign.toNat; unfold putF; split <;> omega
    rcases List.mem_cons.1 hr with rfl | hr
    · have := rnC_mono l (putF F r.sign.toNat (F r.sign.toNat + 1)) r.sign.toNat
      have h2 : putF F r.sign.toNat (F r.sign.toNat + 1) r.sign.toNat = F r.sign.toNat + 1 := by unfold putF; rw [if_pos rfl]
      have := hF r.sign.toNat
      simp only [rnC]
      omega
    · exact ih _ hF' hr
/-- What is known of the lengths that a header tells. -/
structure HdrOk (s d : List Int) : Prop where
  s1 : 257 ≤ s.length
  s2 : s.length ≤ 286
  d1 : 1 ≤ d.length
  d2 : d.length ≤ 30
  ok : ∀ x ∈ s ++ d, 0 ≤ x ∧ x ≤ 15
theorem often_rn {s d : List Int} (hl : (ofL (s ++ d)).length ≤ 1000) : Often (ofRn s d) 19 7 := by
  refine ⟨by simp [ofRn], by omega, by omega, by omega, by omega, by omega, ?_⟩
  intro x hx
  obtain ⟨i, _, rfl⟩ := List.mem_map.1 hx
  have := rnC_le (ofL (s ++ d)) (fun _ => 0) 0 (fun _ => ⟨Int.le_refl _, Int.le_refl _⟩) i
  omega
theorem best_ok_kind {lo : List Int} {n L : Nat} (h : Often lo n L) : kindOf (bestL lo L) ≠ 0 := by
  obtain ⟨hn, h1, h2, hL1, hL, h2L, hx⟩ := h
  have hb := Often.any ⟨hn, h1, h2, hL1, hL, h2L, hx⟩
  have hcl := come_le lo
  unfold bestL
  rw [best_kind bigSorter lo L (by omega) (by omega) hb hL1 hL (by omega)]
  omega
theorem bestL_get {lo : List Int} {L i : Nat} (hi : i < lo.length) : (bestL lo L).getD i 0 = (bestF bigSorter lo L i : Int) := by
  unfold bestL lst
  simp [List.getD, hi]
theorem best_some {lo : List Int} {n L : Nat} (h : Often lo n L) (i : Nat) (hi : i < n) (h0 : 0 < lo.getD i 0) : len (bestL lo L) i ≠ 0 := by
  obtain ⟨hn, h1, h2, hL1, hL, h2L, hx⟩ := h
  have hb := Often.any ⟨hn, h1, h2, hL1, hL, h2L, hx⟩
  have hcl := come_le lo
  have := best_span bigSorter lo L (by omega) (by omega) hb hL1 hL (by omega) i (by omega) h0
  unfold len
  rw [bestL_get (by omega)]
  omega
theorem best_most {lo : List Int} {n L : Nat} (h : Often lo n L) : ∀ x ∈ bestL lo L, 0 ≤ x ∧ x ≤ L := by
  obtain ⟨hn, h1, h2, hL1, hL, h2L, hx⟩ := h
  have hb := Often.any ⟨hn, h1, h2, hL1, hL, h2L, hx⟩
  have hcl := come_le lo
  intro x hx'
  unfold bestL lst at hx'
  obtain ⟨i, hi, rfl⟩ := List.mem_map.1 hx'
  have hi' : i < lo.length := by simpa using hi
  by_cases h0 : 0 < lo.getD i 0
  · have := best_span bigSorter lo L (by omega) (by omega) hb hL1 hL (by omega) i hi' h0
    omega
  · rw [bestF_none bigSorter lo L i (fun h => h0 h.2) (by omega)]
    omega
end Go.Proofs.YtkjhefjjacokjaaGreat

namespace Go.Proofs.YtkjhefjjacokjaaGreat
open Go.RowKit
set_option maxRecDepth 100000
theorem own_twR {w w' : World} {base n : Nat} {v : Value} {xs : List Value} (h : w.ownsRow base 118 2 v n xs) (ho : Tw w w') : w'.ownsRow base 118 2 v n xs :=
  own_only h ho (fun k hk => by
    rintro ⟨t, cs, hW, ht⟩
    obtain ⟨_, cs', hW'⟩ := own_whole h hk
    rcases ht with rfl | rfl
    · exact hW'.ne hW (by decide) rfl
    · exact hW'.ne hW (by decide) rfl)
theorem flat_take {α β : Type} (l : List α) (f : α → List β) (k : Nat) (h : k < l.length) : (l.take (k + 1)).flatMap f = (l.take k).flatMap f ++ f l[k] := by
  rw [← List.take_append_getElem h, List.flatMap_append]
  simp
theorem flat_len3 (l : List Int) : (l.flatMap fun n => bitsOf n.toNat 3).length = 3 * l.length := by
  induction l with
  | nil => rfl
  | cons a l ih => simp [List.flatMap_cons, ih]; omega
theorem runB_le (l : List Int) (h : Ok l) (r : Rn) : (runB l r).length ≤ 22 := by
  have := len_le h r.sign.toNat
  have h2 := (bitsR_nums r.sign).2
  simp [runB]
  omega
theorem flat_runs (l : List Int) (h : Ok l) (rs : List Rn) : (rs.flatMap (runB l)).length ≤ 22 * rs.length := by
  induction rs with
  | nil => simp
  | cons r rs ih =>
    have := runB_le l h r
    rw [List.flatMap_cons, List.length_append, List.length_cons]
    omega
theorem getD_in (l : List Int) (i : Nat) (h : i < l.length) : l.getD i 0 = l[i] := by simp [List.getD, h]
set_option maxHeartbeats 8000000 in
theorem putLengths_any (B g : Nat) (sv : Value) (bits : List Bool) (hb : bits.length ≤ 800000) (A1 : Option Addr) (n1 c1 : Nat) (A2 : Option Addr) (n2 c2 : Nat) (S D : List Int) (hs : S.length = n1) (hd : D.length = n2) (ho : HdrOk S D)
    (w : World) (hw : WriterAt w B g sv bits) (hL1 : Lens w A1 n1 c1 S) (hL2 : Lens w A2 n2 c2 D) :
    Calls Tryz.prog 56 #[.pointer (some ⟨g, 0, none⟩), .slice A1 n1 c1, .slice A2 n2 c2] w fun e w' => e = .returned (.tuple #[]) ∧ PutPost w B g sv (bits ++ hdrL S D) w' := by
  obtain ⟨o1, o2, o3, o4, o5⟩ := ho
  have hB0 : Below w.heap.size w (w.alloc (.cells #[.slice A1 n1 c1, .slice A2 n2 c2] 54)) := (Below.refl _ _).alloc (Nat.le_refl _) _
  have WG := Lib.hid (Whole.new w 54 #[.slice A1 n1 c1, .slice A2 n2 c2])
  have HP0 := Lib.hid ((PutPost.start hw).below hB0)
  obtain ⟨Bx, hBx, sx⟩ := hL1 _ (Tw.of_below hB0)
  obtain ⟨By, hBy, sy⟩ := hL2 _ (Tw.of_below hB0)
  have CC := Lib.hid (concat_any w.heap.size A1 n1 c1 A2 n2 c2 (w.alloc (.cells #[.slice A1 n1 c1, .slice A2 n2 c2] 54)).heap.size S D hs hd (by omega) (by omega) (by omega) _ WG.out (sx.more hBx) (sy.more hBy) (Nat.le_refl _))
  have hsd : (S ++ D).length = n1 + n2 := by rw [List.length_append, hs, hd]
  have hbe : beyondR (S ++ D) = false := by
    unfold beyondR
    rw [List.any_eq_false]
    intro x hx
    have := o5 x hx
    simp
    omega
  have CO := Lib.hid (fun (A : Option Addr) (c : Nat) (W : World) (h : Seen W W.heap.size 1 A (n1 + n2) c (iv (S ++ D))) => of_any A (n1 + n2) c W.heap.size (S ++ D) hsd (by omega) W h (Nat.le_refl _))
  have HSD := Lib.hid hsd; have HBE := Lib.hid hbe
  have en1 : (n1 : Int) - 257 = ((n1 - 257 : Nat) : Int) := by omega
  have en2 : (n2 : Int) - 1 = ((n2 - 1 : Nat) : Int) := by omega
  obtain ⟨m1, hm1⟩ : ∃ m1, n1 - 257 = m1 := ⟨_, rfl⟩
  obtain ⟨m2, hm2⟩ : ∃ m2, n2 - 1 = m2 := ⟨_, rfl⟩
  rw [hm1] at en1
  rw [hm2] at en2
  have wm1 : IntKind.i64.wrap (m1 : Int) = m1 := IntWalk.i64_in _ (by omega)
  have wm2 : IntKind.i64.wrap (m2 : Int) = m2 := IntWalk.i64_in _ (by omega)
  have wu1 : IntKind.u32.wrap (m1 : Int) = m1 := by simp [IntKind.wrap, IntKind.signed, IntKind.bits]; omega
  have wu2 : IntKind.u32.wrap (m2 : Int) = m2 := by simp [IntKind.wrap, IntKind.signed, IntKind.bits]; omega
  have hm1b : m1 < 4294967296 := by omega
  have hm2b : m2 < 4294967296 := by omega
  have hn12 : n1 + n2 ≤ 316 := by omega
  have HHD : Hid (hdrL S D = bitsOf m1 5 ++ (bitsOf m2 5 ++ (bitsOf (telN S D - 4) 4 ++ ((telL S D).flatMap (fun n => bitsOf n.toNat 3) ++ (ofL (S ++ D)).flatMap (runB (lenRn S D)))))) := Lib.hid (by unfold hdrL; rw [hs, hd, hm1, hm2])
  clear hB0 hw hL1 hL2 sx sy hBx hBy hs hd hsd hbe o1 o2 o3 o4 o5 hm1 hm2
  go_enter Tryz.func56, Tryz.ntmps56
  go_wp2_with fail
  refine CC.out.mono ?_
  rintro e w1 ⟨v1, rfl, hown1, hb1⟩
  obtain ⟨Ac, cc1, rfl, _, hs1⟩ := own_seen hown1
  have CO1 := Lib.hid (CO.out Ac cc1 w1 hs1)
  have HP1 := Lib.hid (HP0.out.below hb1)
  clear hown1 hb1 hs1 CC CO HP0 WG
  go_wp2_with fail
  refine CO1.out.mono ?_
  rintro e w2 hres
  rcases hres with ⟨h1, _⟩ | ⟨_, h1, _⟩ | ⟨_, _, rs, vr, rfl, hownr, hexp, hrl, hb2, hrs⟩
  · rw [HBE.out] at h1; cases h1
  · rw [HSD.out] at h1; omega
  rw [HSD.out] at hrl
  have hright := expR_right _ _ _ hexp
  have hoft := often_rn (s := S) (d := D) (by rw [← hrs]; omega)
  have HHR : Hid (ofRn S D = (List.range 19).map (rnC rs fun _ => 0)) := Lib.hid (by rw [hrs]; rfl)
  rw [← hrs] at HHD
  have hsg : ∀ r ∈ rs, 0 ≤ r.sign ∧ r.sign < 19 := fun r hr => by have := rightR_nums (hright r hr); omega
  obtain ⟨nr, hnr⟩ : ∃ nr, rs.length = nr := ⟨_, rfl⟩
  rw [hnr] at hownr hrl
  have HNR := Lib.hid hnr
  obtain ⟨Ar, cr, rfl, _, hsr⟩ := own_seen hownr
  have CR := Lib.hid (runsCounted_any Ar nr cr w2.heap.size rs hsg (by omega) w2 hsr (Nat.le_refl _))
  have HP2 := Lib.hid (HP1.out.below hb2)
  have HOR := Lib.hid hownr; have HRT := Lib.hid hright; have HOF := Lib.hid hoft
  clear hownr hexp hb2 hsr hright hoft hsg hnr CO1 HP1 hrs
  go_wp2_with fail
  refine CR.out.mono ?_
  rintro e w3 ⟨g3, rfl, hW3, hg3, hb3⟩
  have hs3 := seen_arr hW3
  rw [← HHR.out] at hs3
  have CB := Lib.hid (best7 (some ⟨g3, 0, none⟩) 19 19 w3.heap.size (ofRn S D) HOF.out w3 hs3 (Nat.le_refl _))
  have HP3 := Lib.hid (HP2.out.below hb3)
  have HOR3 := Lib.hid (own_only HOR.out (Only.of_below hb3 Nob) (fun _ _ h => h))
  clear hW3 hg3 hb3 hs3 CR HP2 HOR
  go_wp2_with fail
  refine CB.out.mono ?_
  rintro e w4 ⟨v4, rfl, hown4, hb4⟩
  have hlr : (lenRn S D).length = 19 := by unfold lenRn ofRn; rw [bestL_length]; simp
  have hown4' : w4.ownsRow w3.heap.size 3 1 v4 19 (iv (lenRn S D)) := hown4
  obtain ⟨Al, cl, rfl, _, hs4⟩ := own_seen hown4'
  have CI := Lib.hid (inOrderB_any Al cl w4.heap.size (lenRn S D) hlr w4 hs4 (Nat.le_refl _))
  have HP4 := Lib.hid (HP3.out.below hb4)
  have HOR4 := Lib.hid (own_only HOR3.out (Only.of_below hb4 Nob) (fun _ _ h => h))
  have HOL4 := Lib.hid hown4'
  have HLR := Lib.hid hlr
  have HKR : Hid (kindOf (lenRn S D) ≠ 0) := Lib.hid (best_ok_kind HOF.out)
  clear hown4 hown4' hb4 hs4 CB HP3 HOR3 hlr
  go_wp2_with fail
  refine CI.out.mono ?_
  rintro e w5 ⟨g5, rfl, hW5, hg5, hb5⟩
  have hs5 := seen_arr hW5
  have CT := Lib.hid (trimmed4 (some ⟨g5, 0, none⟩) 19 19 w5.heap.size ((List.range 19).map (inO (lenRn S D))) (by simp) (by omega) (by omega) w5 hs5)
  have HP5 := Lib.hid (HP4.out.below hb5)
  have HOR5 := Lib.hid (own_only HOR4.out (Only.of_below hb5 Nob) (fun _ _ h => h))
  have HOL5 := Lib.hid (own_only HOL4.out (Only.of_below hb5 Nob) (fun _ _ h => h))
  have HW5 := Lib.hid hW5
  clear hW5 hb5 hs5 CI HP4 HOR4 HOL4
  go_wp2_with fail
  refine CT.out.mono ?_
  rintro e w6 ⟨rfl, rfl⟩
  have htn : trimN ((List.range 19).map (inO (lenRn S D))) 4 19 = telN S D := rfl
  rw [htn]
  have hq4 : 4 ≤ telN S D := trimN_least _ _ _ (by omega)
  have hq19 : telN S D ≤ 19 := trimN_le _ _ _
  have HTL : Hid (telL S D = ((List.range 19).map (inO (lenRn S D))).take (telN S D)) := Lib.hid rfl
  obtain ⟨q, hq⟩ : ∃ q, telN S D = q := ⟨_, rfl⟩
  rw [hq] at hq4 hq19 HHD HTL ⊢
  obtain ⟨m3, hm3⟩ : ∃ m3, q - 4 = m3 := ⟨_, rfl⟩
  have en3 : (q : Int) - 4 = m3 := by omega
  have wm3 : IntKind.i64.wrap (m3 : Int) = m3 := IntWalk.i64_in _ (by omega)
  have wu3 : IntKind.u32.wrap (m3 : Int) = m3 := by simp [IntKind.wrap, IntKind.signed, IntKind.bits]; omega
  rw [hm3] at HHD
  have hm3b : m3 < 4294967296 := by omega
  clear htn CT hq hm3
  go_wp2_with fail
  refine (PutPost.put HP5.out m1 5 hm1b (by omega) (by omega)).mono ?_
  rintro e w7 ⟨rfl, hp7, ht7⟩
  have HP7 := Lib.hid hp7
  have HOR7 := Lib.hid (own_twR HOR5.out ht7); have HOL7 := Lib.hid (own_tw HOL5.out ht7); have HW7 := Lib.hid (HW5.out.tw ht7 (by decide) (by decide))
  clear hp7 ht7 HP5 HOR5 HOL5 HW5
  go_wp2_with fail
  refine (PutPost.put HP7.out m2 5 hm2b (by omega) (by rw [List.length_append]; simp; omega)).mono ?_
  rintro e w8 ⟨rfl, hp8, ht8⟩
  have HP8 := Lib.hid hp8
  have HOR8 := Lib.hid (own_twR HOR7.out ht8); have HOL8 := Lib.hid (own_tw HOL7.out ht8); have HW8 := Lib.hid (HW7.out.tw ht8 (by decide) (by decide))
  clear hp8 ht8 HP7 HOR7 HOL7 HW7
  go_wp2_with fail
  refine (PutPost.put HP8.out m3 4 hm3b (by omega) (by rw [List.length_append, List.length_append]; simp; omega)).mono ?_
  rintro e w9 ⟨rfl, hp9, ht9⟩
  have HP9 := Lib.hid hp9
  have HOR9 := Lib.hid (own_twR HOR8.out ht9); have HOL9 := Lib.hid (own_tw HOL8.out ht9); have HW9 := Lib.hid (HW8.out.tw ht9 (by decide) (by decide))
  clear hp9 ht9 HP8 HOR8 HOL8 HW8
  obtain ⟨X, hX⟩ : ∃ X, bits ++ bitsOf m1 5 ++ bitsOf m2 5 ++ bitsOf m3 4 = X := ⟨_, rfl⟩
  have hXl : X.length ≤ 800014 := by rw [← hX]; simp; omega
  rw [hX] at HP9
  have HXX := Lib.hid hX
  clear hX
  go_wp2_with fail
  go_loopw [11, 49] (fun _ i wr => ∃ k : Nat, k ≤ q ∧ i = .int .i64 k ∧ Hid (PutPost w B g sv (X ++ ((telL S D).take k).flatMap (fun n => bitsOf n.toNat 3)) wr ∧ wr.ownsRow w1.heap.size 118 2 (.slice Ar nr cr) nr (rvs rs) ∧ wr.ownsRow w3.heap.size 3 1 (.slice Al 19 cl) 19 (iv (lenRn S D)) ∧ Whole wr g5 139 (rz 19 (inO (lenRn S D))))) (fun _ i _ => q - (intOf i).toNat)
  case atStart => exact ⟨0, Nat.zero_le _, rfl, Lib.hid ⟨by simpa using HP9.out, HOR9.out, HOL9.out, HW9.out⟩⟩
  case round =>
    obtain ⟨k, hk, rfl, h⟩ := hrel
    have htl : (telL S D).length = q := by rw [HTL.out, List.length_take]; simp; omega
    by_cases hlt : k < q
    · have hkt : k < (telL S D).length := by omega
      have hval : (telL S D)[k] = inO (lenRn S D) k := by
        have h1 : (telL S D)[k]? = some (inO (lenRn S D) k) := by
          rw [HTL.out, List.getElem?_take_of_lt hlt, List.getElem?_map, List.getElem?_range (by omega)]
          rfl
        rw [List.getElem?_eq_getElem hkt] at h1
        exact Option.some.inj h1
      have hE := flat_take (telL S D) (fun n => bitsOf n.toNat 3) k hkt
      rw [hval] at hE
      have hin : 0 ≤ inO (lenRn S D) k ∧ inO (lenRn S D) k ≤ 7 := by
        unfold inO
        have hq19' := ordL_lt k (by omega)
        obtain ⟨p, hp⟩ : ∃ p, ordL.getD k 0 = p := ⟨_, rfl⟩
        rw [hp] at hq19' ⊢
        have hql : p < (lenRn S D).length := by rw [HLR.out]; exact hq19'
        have := best_most HOF.out ((lenRn S D)[p]) (List.getElem_mem hql)
        rw [getD_in _ _ hql]
        exact ⟨this.1, by have := this.2; omega⟩
      have c0 : wr.cell? ⟨g5, k, none⟩ = some (.int .i64 (inO (lenRn S D) k)) := (h.out.2.2.2.cell k).trans (by rw [rz_get _ _ _ (by omega)])
      obtain ⟨z, hz⟩ := Int.eq_ofNat_of_zero_le hin.1
      rw [hz] at c0 hE hin
      rw [Int.toNat_natCast] at hE
      have hz7 : z ≤ 7 := by omega
      have hk0 : (0 : Int) ≤ k := by omega
      have wz : IntKind.u32.wrap (z : Int) = z := by simp [IntKind.wrap, IntKind.signed, IntKind.bits]; omega
      have hl3 : (((telL S D).take k).flatMap fun n => bitsOf n.toNat 3).length ≤ 100 := by rw [flat_len3, List.length_take]; omega
      have HE := Lib.hid hE
      have CPu := Lib.hid (PutPost.put h.out.1 z 3 (by omega) (by omega) (by rw [List.length_append]; omega))
      clear hval hE hkt htl hz hin
      go_wp2_with fail
      refine CPu.out.mono ?_
      rintro e wa ⟨rfl, hpa, hta⟩
      have F := Lib.hid (And.intro hpa (And.intro (own_twR h.out.2.1 hta) (And.intro (own_tw h.out.2.2.1 hta) (h.out.2.2.2.tw hta (by decide) (by decide)))))
      clear hpa hta c0
      go_wp2_with fail
      go_roundw
      case rel => exact ⟨k + 1, by omega, by go_num, Lib.hid ⟨by rw [HE.out, ← List.append_assoc]; exact F.out.1, F.out.2.1, F.out.2.2.1, F.out.2.2.2⟩⟩
      case measure => simp [intOf]; omega
    · obtain rfl : k = q := by omega
      obtain ⟨hp, hor, hol, _⟩ := h.out
      rw [List.take_of_length_le (by omega)] at hp
      have hl3 : ((telL S D).flatMap fun n => bitsOf n.toNat 3).length ≤ 57 := by rw [flat_len3]; omega
      obtain ⟨Y, hY⟩ : ∃ Y, X ++ (telL S D).flatMap (fun n => bitsOf n.toNat 3) = Y := ⟨_, rfl⟩
      have hYl : Y.length ≤ 800100 := by rw [← hY, List.length_append]; omega
      rw [hY] at hp
      have HYY := Lib.hid hY
      have CN := Lib.hid (codeOf_any Al 19 cl wr.heap.size (lenRn S D) HLR.out (by omega) HKR.out wr (Seen.of_own hol) (Nat.le_refl _))
      have HP := Lib.hid hp; have HOR := Lib.hid hor
      clear hp hor hol htl hl3 hY h
      go_wp2_with fail
      refine CN.out.mono ?_
      rintro e wy ⟨gc, rfl, hc, hb'⟩
      have HPb := Lib.hid (HP.out.below hb'); have HORb := Lib.hid (own_only HOR.out (Only.of_below hb' Nob) (fun _ _ h => h))
      have HCb := Lib.hid hc
      have HSZ := Lib.hid hb'.size
      clear hc hb' CN HP HOR
      go_wp2_with fail
      go_loopw [14, 62] (fun _ i wr' => ∃ k : Nat, k ≤ nr ∧ i = .int .i64 k ∧ Hid (PutPost w B g sv (Y ++ (rs.take k).flatMap (runB (lenRn S D))) wr' ∧ wr'.ownsRow w1.heap.size 118 2 (.slice Ar nr cr) nr (rvs rs) ∧ CodeOwn wr' wr.heap.size gc (lenRn S D) 19)) (fun _ i _ => nr - (intOf i).toNat)
      case atStart => exact ⟨0, Nat.zero_le _, rfl, Lib.hid ⟨by simpa using HPb.out, HORb.out, HCb.out⟩⟩
      case round =>
        obtain ⟨k, hk, rfl, h⟩ := hrel
        by_cases hlt : k < nr
        · obtain ⟨hp, hor, hc⟩ := h.out
          have hkr : k < rs.length := by rw [HNR.out]; exact hlt
          obtain ⟨⟨s', m'⟩, b, o, ht, hA, hbB, c0, c1⟩ := (Seen.of_own hor).rnP hlt
          subst hA
          obtain ⟨hkl, ht2⟩ := List.getElem?_eq_some_iff.1 ht
          have hmem : (⟨s', m'⟩ : Rn) ∈ rs := by rw [← ht2]; exact List.getElem_mem hkl
          obtain ⟨r1, r2, r3, r4⟩ := rightR_nums (HRT.out _ hmem)
          have hE := flat_take rs (runB (lenRn S D)) k hkr
          rw [ht2] at hE
          simp only at r1 r2 r3 r4 c0 c1
          obtain ⟨s, rfl⟩ := Int.eq_ofNat_of_zero_le r1
          obtain ⟨m, rfl⟩ := Int.eq_ofNat_of_zero_le r3
          have hs19 : s < 19 := by omega
          have hct := rnC_pos rs (fun _ => 0) (fun _ => Int.le_refl _) _ hmem
          simp only [Int.toNat_natCast] at hct
          have h0s : len (lenRn S D) s ≠ 0 := best_some HOF.out s hs19 (by rw [HHR.out]; simp [List.getD, hs19]; omega)
          obtain ⟨kb, hkb⟩ := Int.eq_ofNat_of_zero_le (bitsR_nums s).1
          have hk7 := (bitsR_nums s).2
          have hrm : roomR (s : Int) ≤ 128 := by unfold roomR; repeat (first | omega | split)
          have hm32 : m < 4294967296 := by omega
          have hk32 : kb ≤ 32 := by omega
          have CBI := Lib.hid (fun W => bits_any s W)
          rw [hkb] at CBI
          have hrb : runB (lenRn S D) ⟨(s : Int), (m : Int)⟩ = wb (lenRn S D) s ++ bitsOf m kb := by unfold runB; simp only [Int.toNat_natCast, hkb]
          rw [hrb] at hE
          have HE := Lib.hid hE
          have hfl := flat_runs (lenRn S D) (right_ok HKR.out) (rs.take k)
          have hfl2 : (rs.take k).length ≤ 320 := by rw [List.length_take]; omega
          have hB5 : Below wr.heap.size wr (wr.alloc (.cells #[.int .i64 s, .int .i64 m] 118)) := (Below.refl _ _).alloc (Nat.le_refl _) _
          have HT := Lib.hid (Whole.new wr 118 #[.int .i64 s, .int .i64 m])
          have hBd : Below wr.heap.size wr (wr.alloc (.cells #[.int .i64 s, .int .i64 m] 118)).drew := below_drew hB5
          have HPd := Lib.hid (hp.below hBd); have HCd := Lib.hid (hc.below hBd); have HOd := Lib.hid (own_only hor (Only.of_below hBd Nob) (fun _ _ h => h))
          have CPP := Lib.hid (PutPost.part HPd.out (by rw [List.length_append]; omega) _ gc 19 _ HLR.out HKR.out s m kb hs19 h0s hm32 hk32 HCd.out)
          have hbr : b < wr.heap.size := hbB
          have hne : wr.heap.size ≠ b := by omega
          have hk0 : (0 : Int) ≤ k := by omega
          obtain ⟨gt, hgt⟩ : ∃ gt, wr.heap.size = gt := ⟨_, rfl⟩
          rw [hgt] at HT hbr hne
          clear hp hor hc hB5 hBd ht ht2 hmem hE hrb hct h r1 r3 r4 hkb hfl2
          go_wp2_with fail
          clear hgt c0 c1
          generalize wr.alloc (.cells #[.int .i64 s, .int .i64 m] 118) = W5 at *
          refine wp_region_held_drew (S := (fun W => Whole W gt 118 #[.int .i64 s, .int .i64 m])) (by kernel_rfl) HT.out.drew (fun hHeld => ?_)
          refine wpAnyH_take (i := 0) (oi := ⟨some 66, _, _, _, _, _⟩) (v := ?v0) rfl (by kernel_rfl) (by kernel_rfl) (by kernel_rfl) (fun _ _ _ h => h) (Or.inl ⟨by rfl, ?hy0⟩) (by assumption) ?rest0
          case hy0 => intro W hSW; go_simp; try rfl
          try simp only [Act.put, List.setIfInBounds_toArray, List.set_cons_zero, List.set_cons_succ]
          refine wpAnyH_take (i := 1) (oi := ⟨some 67, _, _, _, _, _⟩) (v := ?v1) rfl (by kernel_rfl) (by kernel_rfl) (by kernel_rfl) (fun _ _ _ h => h) (Or.inl ⟨by rfl, ?hy1⟩) (by assumption) ?rest1
          case hy1 => intro W hSW; go_simp; try rfl
          try simp only [Act.put, List.setIfInBounds_toArray, List.set_cons_zero, List.set_cons_succ]
          refine wpAnyH_take (i := 2) (oi := ⟨some 68, _, _, _, _, _⟩) (v := ?v2) rfl (by kernel_rfl) (by kernel_rfl) (by kernel_rfl) (fun _ _ _ h => h) (Or.inl ⟨by rfl, ?hy2⟩) (by assumption) ?rest2
          case hy2 => intro W hSW; go_simp; try rfl
          try simp only [Act.put, List.setIfInBounds_toArray, List.set_cons_zero, List.set_cons_succ]
          refine wpAnyH_take (i := 3) (oi := ⟨some 69, _, _, _, _, _⟩) (v := ?v3) rfl (by kernel_rfl) (by kernel_rfl) (by kernel_rfl) (fun _ _ _ h => h) (Or.inl ⟨by rfl, ?hy3⟩) (by assumption) ?rest3
          case hy3 => intro W hSW; have q0 : W.cell? ⟨gt, 0, none⟩ = some (.int .i64 s) := hSW.cell 0; go_simp; try rfl
          try simp only [Act.put, List.setIfInBounds_toArray, List.set_cons_zero, List.set_cons_succ]
          refine wpAnyH_take (i := 4) (oi := ⟨some 70, _, _, _, _, _⟩) (v := ?v4) rfl (by kernel_rfl) (by kernel_rfl) (by kernel_rfl) (fun _ _ _ h => h) (Or.inl ⟨by rfl, ?hy4⟩) (by assumption) ?rest4
          case hy4 => intro W hSW; go_simp; try rfl
          try simp only [Act.put, List.setIfInBounds_toArray, List.set_cons_zero, List.set_cons_succ]
          refine wpAnyH_take (i := 5) (oi := ⟨some 71, _, _, _, _, _⟩) (v := ?v5) rfl (by kernel_rfl) (by kernel_rfl) (by kernel_rfl) (fun _ _ _ h => h) (Or.inl ⟨by rfl, ?hy5⟩) (by assumption) ?rest5
          case hy5 => intro W hSW; have q1 : W.cell? ⟨gt, 1, none⟩ = some (.int .i64 m) := hSW.cell 1; go_simp; try rfl
          try simp only [Act.put, List.setIfInBounds_toArray, List.set_cons_zero, List.set_cons_succ]
          refine wpAnyH_take (i := 6) (oi := ⟨some 72, _, _, _, _, _⟩) (v := ?v6) rfl (by kernel_rfl) (by kernel_rfl) (by kernel_rfl) (fun _ _ _ h => h) (Or.inl ⟨by rfl, ?hy6⟩) (by assumption) ?rest6
          case hy6 => intro W hSW; go_simp; try rfl
          try simp only [Act.put, List.setIfInBounds_toArray, List.set_cons_zero, List.set_cons_succ]
          refine wpAnyH_take (i := 7) (oi := ⟨some 73, _, _, _, _, _⟩) (v := ?v7) rfl (by kernel_rfl) (by kernel_rfl) (by kernel_rfl) (fun _ _ _ h => h) (Or.inl ⟨by rfl, ?hy7⟩) (by assumption) ?rest7
          case hy7 => intro W hSW; have q0 : W.cell? ⟨gt, 0, none⟩ = some (.int .i64 s) := hSW.cell 0; go_simp; try rfl
          try simp only [Act.put, List.setIfInBounds_toArray, List.set_cons_zero, List.set_cons_succ]
          refine wpAnyH_ready (rs := [8]) (by kernel_rfl) (by simp) ?_
          refine AllReadyH.cons (o := ⟨some 74, _, _, _, _, _⟩) rfl (fun K hK => ?_) AllReadyH.nil
          go_simp
          refine (CBI.out _).mono ?_
          rintro e wz ⟨rfl, rfl⟩
          refine hK.out _ _ ?_ (fun hHeld2 => ?_)
          · exact hHeld
          clear hK K hHeld
          have hHeld := hHeld2; clear hHeld2
          try simp only [Act.put, List.setIfInBounds_toArray, List.set_cons_zero, List.set_cons_succ]
          refine wpAnyH_take (i := 9) (oi := ⟨some 75, _, _, _, _, _⟩) (v := ?v9) rfl (by kernel_rfl) (by kernel_rfl) (by kernel_rfl) (fun _ _ _ h => h) (Or.inl ⟨by rfl, ?hy9⟩) (by assumption) ?rest9
          case hy9 => intro W hSW; go_simp; try rfl
          try simp only [Act.put, List.setIfInBounds_toArray, List.set_cons_zero, List.set_cons_succ]
          refine wpAnyH_ready (rs := [10]) (by kernel_rfl) (by simp) ?_
          refine AllReadyH.cons (o := ⟨some 76, _, _, _, _, _⟩) rfl (fun K hK => ?_) AllReadyH.nil
          go_simp
          refine CPP.out.mono ?_
          rintro e w9 ⟨rfl, hp9, ht9⟩
          have HT9 := Lib.hid (hHeld.tw ht9 (by decide) (by decide))
          have HP9 := Lib.hid hp9; have HC9 := Lib.hid (HCd.out.tw ht9); have HS9 := Lib.hid (own_twR HOd.out ht9); clear hp9 ht9
          refine hK.out _ _ ?_ (fun hHeld2 => ?_)
          · exact HT9.out
          clear hK K hHeld
          have hHeld := hHeld2; clear hHeld2
          try simp only [Act.put, List.setIfInBounds_toArray, List.set_cons_zero, List.set_cons_succ]
          refine wpAnyH_done (by kernel_rfl) ?_ _
          go_wp2_with fail
          go_roundw
          case rel => exact ⟨k + 1, by omega, by go_num, Lib.hid ⟨by rw [HE.out, ← List.append_assoc]; exact HP9.out, HS9.out, HC9.out⟩⟩
          case measure => simp [intOf]; omega
        · obtain rfl : k = nr := by omega
          have hp := h.out.1
          rw [List.take_of_length_le (by rw [HNR.out]; exact Nat.le_refl _), ← HYY.out, ← HXX.out] at hp
          have hfin : bits ++ bitsOf m1 5 ++ bitsOf m2 5 ++ bitsOf m3 4 ++ (telL S D).flatMap (fun n => bitsOf n.toNat 3) ++ rs.flatMap (runB (lenRn S D)) = bits ++ hdrL S D := by
            rw [HHD.out]
            simp only [List.append_assoc]
          rw [hfin] at hp
          have HP := Lib.hid hp
          clear hp h hfin
          go_wp2_with fail
          go_end0
          exact ⟨rfl, HP.out⟩
end Go.Proofs.YtkjhefjjacokjaaGreat

namespace Go.Proofs.YtkjhefjjacokjaaGreat
open Go.RowKit
set_option maxRecDepth 100000
/-- What writes the header of a dynamic block. -/
theorem head50_any (B g : Nat) (sv : Value) (l : List Bool) (hl : l.length ≤ 790000) (last : Bool) (g3 g4 : Nat) (A1 : Option Addr) (n1 c1 : Nat) (A2 : Option Addr) (n2 c2 : Nat) (s d : List Int) (hs : s.length = n1) (hd : d.length = n2) (ho : HdrOk s d)
    (w : World) (hw : WriterAt w B g sv l) (h3 : Whole w g3 54 #[.slice A1 n1 c1]) (h4 : Whole w g4 54 #[.slice A2 n2 c2]) (hL1 : Lens w A1 n1 c1 s) (hL2 : Lens w A2 n2 c2 d) :
    Calls Tryz.prog 55 #[.pointer (some ⟨g, 0, none⟩), .bool last, .pointer (some ⟨g3, 0, none⟩), .pointer (some ⟨g4, 0, none⟩)] w fun e w' => e = .returned (.tuple #[]) ∧ PutPost w B g sv (l ++ (headB 2 last ++ hdrL s d)) w' := by
  have CS := Lib.hid (start_any B g sv l 2 (by omega) last w hw (by omega))
  have H3 := Lib.hid h3; have H4 := Lib.hid h4; have L1 := Lib.hid hL1; have L2 := Lib.hid hL2; have HW := Lib.hid hw
  clear h3 h4 hL1 hL2 hw
  go_enter Tryz.func55, Tryz.ntmps55
  go_wp2_with fail
  refine CS.out.mono ?_
  rintro e w1 ⟨rfl, p⟩
  have TW := Tw.of_put HW.out p
  have q3 : w1.cell? ⟨g3, 0, none⟩ = some (.slice A1 n1 c1) := (H3.out.tw TW (by decide) (by decide)).cell 0
  have q4 : w1.cell? ⟨g4, 0, none⟩ = some (.slice A2 n2 c2) := (H4.out.tw TW (by decide) (by decide)).cell 0
  obtain ⟨sv1, p1, p2, p3⟩ := p
  have CP := Lib.hid (putLengths_any B g sv1 (l ++ headB 2 last) (by rw [List.length_append, headB_length]; omega) A1 n1 c1 A2 n2 c2 s d hs hd ho w1 p1 (L1.out.tw TW) (L2.out.tw TW))
  have P2 := Lib.hid p2; have P3 := Lib.hid p3
  clear p1 p2 p3 TW CS
  go_wp2_with fail
  refine CP.out.mono ?_
  rintro e w2 ⟨rfl, hp⟩
  rw [List.append_assoc] at hp
  have PP := Lib.hid (PutPost.then P2.out P3.out hp); clear hp
  go_wp2_with fail
  go_end0
  exact ⟨rfl, PP.out⟩
/-- Tokens that stay readable while bits are written. -/
def ToksIn (w : World) (A : Option Addr) (n c : Nat) (l : List Tok) : Prop := ∀ W, Tw w W → ∃ B, B ≤ W.heap.size ∧ Seen W B 3 A n c (tvs l)
/-- A token's bits. -/
def tokB (l1 l2 : List Int) (t : Tok) : List Bool :=
  (wb l1 (fpS t) ++ bitsOf (fpM t) (fpK t)) ++ (if t.len = 0 then [] else wb l2 (dsn t.dist.toNat) ++ bitsOf (t.dist.toNat - dstB (dsn t.dist.toNat)) (dstM (dsn t.dist.toNat)))
/-- A token that has words. -/
def TokW (l1 l2 : List Int) (n1 n2 : Nat) (t : Tok) : Prop :=
  t.lit < 256 ∧ rightT t = true ∧ (fpS t < n1 ∧ len l1 (fpS t) ≠ 0) ∧ (t.len ≠ 0 → dsn t.dist.toNat < n2 ∧ len l2 (dsn t.dist.toNat) ≠ 0) ∧ True
theorem flat_takeT (l : List Tok) (f : Tok → List Bool) (k : Nat) (h : k < l.length) : (l.take (k + 1)).flatMap f = (l.take k).flatMap f ++ f l[k] := by
  rw [← List.take_append_getElem h, List.flatMap_append]
  simp
theorem fpM_le {t : Tok} (hr : rightT t = true) : fpM t ≤ 258 := by
  unfold fpM
  split
  · omega
  · rename_i h0
    have := (rightT_copy hr h0).2.2.1
    omega
theorem flat_toks (l1 l2 : List Int) (h1 : Ok l1) (h2 : Ok l2) (ts : List Tok) (hr : ∀ t ∈ ts, rightT t = true) : (ts.flatMap (tokB l1 l2)).length ≤ 48 * ts.length := by
  induction ts with
  | nil => simp
  | cons t ts ih =>
    have := ih (fun u hu => hr u (List.mem_cons_of_mem _ hu))
    have ht := hr t (List.mem_cons_self ..)
    have a1 := len_le h1 (fpS t)
    have a2 := fpK_le ht
    have a3 := len_le h2 (dsn t.dist.toNat)
    rw [List.flatMap_cons, List.length_append, List.length_cons]
    have : (tokB l1 l2 t).length ≤ 48 := by
      unfold tokB
      rw [List.length_append, List.length_append, wb_length, bitsOf_length]
      split
      · simp; omega
      · rename_i h0
        have a4 := dsM_le (d := t.dist.toNat) (by have := (rightT_copy ht h0).2.2.2.1; omega)
        rw [List.length_append, wb_length, bitsOf_length]
        omega
    omega
set_option maxHeartbeats 4000000 in
theorem bits_dyn (F : Nat → Int) (hF : ∀ i, 0 ≤ F i ∧ F i ≤ 65536) (A1 : Option Addr) (n1 c1 : Nat) (A2 : Option Addr) (n2 c2 : Nat) (l1 l2 : List Int) (hl1 : l1.length = n1) (hl2 : l2.length = n2) (hn1 : n1 ≤ 1000) (hn2 : n2 ≤ 1000) (hk1 : ∀ x ∈ l1, 0 ≤ x ∧ x ≤ 16) (hk2 : ∀ x ∈ l2, 0 ≤ x ∧ x ≤ 16) (w : World) (g3 g4 : Nat) (H : Bool → List Bool) (hl : Nat) (hlb : hl ≤ 20000) (hH : ∀ b, (H b).length = hl) (HD : ∀ (W : World) (B' g' : Nat) (sv' : Value) (bits' : List Bool) (last' : Bool), Tw w W → WriterAt W B' g' sv' bits' → bits'.length ≤ 790000 → Calls Tryz.prog 55 #[.pointer (some ⟨g', 0, none⟩), .bool last', .pointer (some ⟨g3, 0, none⟩), .pointer (some ⟨g4, 0, none⟩)] W fun e w' => e = .returned (.tuple #[]) ∧ PutPost W B' g' sv' (bits' ++ H last') w') (hL1 : Lens w A1 n1 c1 l1) (hL2 : Lens w A2 n2 c2 l2) (V : Int) (hV : hl + F 316 + costK ((List.range 286).map fun i => F (0 + i)) l1 (min 286 n1) + costK ((List.range 30).map fun i => F (286 + i)) l2 (min 30 n2) = V) :
    Calls Tryz.prog 34 #[.agg (blkC F A1 n1 c1 A2 n2 c2 (.func (.func 55) #[] #[.pointer (some ⟨g3, 0, none⟩), .pointer (some ⟨g4, 0, none⟩)]))] w fun e w' => e = .returned (.int .i64 V) ∧ Below w.heap.size w w' := by
  obtain ⟨G0, G1, G2, G3⟩ := blkC_get F A1 n1 c1 A2 n2 c2 (.func (.func 55) #[] #[.pointer (some ⟨g3, 0, none⟩), .pointer (some ⟨g4, 0, none⟩)])
  have SP := Lib.hid (fun (W : World) (g o n : Nat) (hn : o + n ≤ 317) (h : Whole W g 65 (blkC F A1 n1 c1 A2 n2 c2 (.func (.func 55) #[] #[.pointer (some ⟨g3, 0, none⟩), .pointer (some ⟨g4, 0, none⟩)]))) => seen_part h o n hn)
  obtain ⟨C, hC⟩ : ∃ C, blkC F A1 n1 c1 A2 n2 c2 (.func (.func 55) #[] #[.pointer (some ⟨g3, 0, none⟩), .pointer (some ⟨g4, 0, none⟩)]) = C := ⟨_, rfl⟩
  rw [hC] at G0 G1 G2 G3 SP ⊢
  have G4 := G0 316 (by omega)
  have hF3 := hF 316
  obtain ⟨X1, hX1⟩ : ∃ X, costK ((List.range 286).map fun i => F (0 + i)) l1 (min 286 n1) = X := ⟨_, rfl⟩
  obtain ⟨X2, hX2⟩ : ∃ X, costK ((List.range 30).map fun i => F (286 + i)) l2 (min 30 n2) = X := ⟨_, rfl⟩
  have m1 : ∀ x ∈ (List.range 286).map (fun i => F (0 + i)), 0 ≤ x ∧ x ≤ 65536 := by intro x hx; obtain ⟨i, _, rfl⟩ := List.mem_map.1 hx; exact hF _
  have m2 : ∀ x ∈ (List.range 30).map (fun i => F (286 + i)), 0 ≤ x ∧ x ≤ 65536 := by intro x hx; obtain ⟨i, _, rfl⟩ := List.mem_map.1 hx; exact hF _
  have b1 := costK_le _ l1 m1 hk1 (min 286 n1)
  have b2 := costK_le _ l2 m2 hk2 (min 30 n2)
  rw [hX1] at b1 hV
  rw [hX2] at b2 hV
  have b1' : 0 ≤ X1 ∧ X1 ≤ 299892736 := by omega
  have b2' : 0 ≤ X2 ∧ X2 ≤ 31457280 := by omega
  obtain ⟨ad, had⟩ : ∃ ad, F 316 = ad := ⟨_, rfl⟩
  rw [had] at G4 hF3 hV
  have M1 := Lib.hid m1; have M2 := Lib.hid m2; have K1 := Lib.hid hk1; have K2 := Lib.hid hk2
  have HX1 := Lib.hid hX1; have HX2 := Lib.hid hX2; have N1 := Lib.hid hl1; have N2 := Lib.hid hl2
  have HG1 := Lib.hid G1; have HG2 := Lib.hid G2; have HG4 := Lib.hid G4
  have HV := Lib.hid hV
  have hB0 : Below w.heap.size w (w.alloc (.cells C 65)) := (Below.refl _ _).alloc (Nat.le_refl _) _
  have WB := Whole.new w 65 C
  have TW0 := Lib.hid (Tw.of_below hB0)
  have WB0 := Lib.hid WB
  have BB0 := Lib.hid hB0
  have HD1 := Lib.hid HD; have HH := Lib.hid hH
  clear HD hH
  have HLa := Lib.hid hL1; have HLb := Lib.hid hL2
  have HG3 := Lib.hid G3
  obtain ⟨gb, hgb⟩ : ∃ gb, w.heap.size = gb := ⟨_, rfl⟩
  rw [hgb] at WB0
  clear G0 G1 G2 G3 G4 hC hl1 hl2 hk1 hk2 hL1 hL2 hB0 WB m1 m2 hX1 hX2 b1 b2 had hF hV
  go_enter Tryz.func34, Tryz.ntmps34
  go_wp2_with fail
  generalize w.alloc (.cells C 65) = W0 at *
  refine (newWriter_any W0).mono ?_
  rintro e w1 ⟨rfl, hw1, hb1⟩
  obtain ⟨gw, hgw⟩ : ∃ gw, W0.heap.size = gw := ⟨_, rfl⟩
  have hgl : Hid (w.heap.size ≤ gw) := Lib.hid (by rw [← hgw]; exact BB0.out.size)
  have BB1 := Lib.hid (BB0.out.trans (hb1.mono BB0.out.size))
  rw [hgw] at hw1 ⊢
  have HW1 := Lib.hid hw1
  have TW1 := Lib.hid (TW0.out.trans (Tw.of_below hb1))
  have hW1 := WB0.out.only (Only.of_below hb1 Nob) (fun h => h)
  have cf : w1.cell? ⟨gb, 319, none⟩ = some (.func (.func 55) #[] #[.pointer (some ⟨g3, 0, none⟩), .pointer (some ⟨g4, 0, none⟩)]) := (hW1.cell 319).trans HG3.out
  have WB1 := Lib.hid hW1
  clear hw1 hb1 hW1 hgw
  go_wp2_with fail
  clear cf
  refine (HD1.out w1 gw gw (.slice none 0 0) [] false TW1.out HW1.out (by simp)).mono ?_
  rintro e w2 ⟨rfl, hp⟩
  have TW2 := Lib.hid (TW1.out.trans (Tw.of_put HW1.out hp))
  have WB2 := Lib.hid (WB1.out.tw (Tw.of_put HW1.out hp) (by decide) (by decide))
  obtain ⟨sv2, p1, p2, p3⟩ := hp
  have P1 := Lib.hid p1
  have BB2 := Lib.hid (BB1.out.trans (p2.below BB1.out.size (fun k hk => by rcases hk with rfl | hk; exact hgl.out; simp [Value.ownBlock] at hk)))
  clear p1 p2 p3
  have c1' : w2.cell? ⟨gb, 317, none⟩ = some (.slice A1 n1 c1) := (WB2.out.cell 317).trans HG1.out
  have c2' : w2.cell? ⟨gb, 318, none⟩ = some (.slice A2 n2 c2) := (WB2.out.cell 318).trans HG2.out
  have c3' : w2.cell? ⟨gb, 316, none⟩ = some (.int .i64 ad) := (WB2.out.cell 316).trans HG4.out
  obtain ⟨Ba, hBa, hsa⟩ := HLa.out w2 TW2.out
  obtain ⟨Bb, hBb, hsb⟩ := HLb.out w2 TW2.out
  have SA := Lib.hid hsa; have SB := Lib.hid hsb
  clear hsa hsb hBa hBb
  have Q1 := Lib.hid (cost_quiet (some ⟨gb, 0, none⟩) A1 286 286 n1 c1 (max (gb + 1) Ba) _ l1 (by simp) N1.out (by omega) hn1 M1.out K1.out w2 ((SP.out w2 gb 0 286 (by omega) WB2.out).more (Nat.le_max_left _ _)) (SA.out.more (Nat.le_max_right _ _)) X1 HX1.out)
  have Q2 := Lib.hid (cost_quiet (some ⟨gb, 286, none⟩) A2 30 30 n2 c2 (max (gb + 1) Bb) _ l2 (by simp) N2.out (by omega) hn2 M2.out K2.out w2 ((SP.out w2 gb 286 30 (by omega) WB2.out).more (Nat.le_max_left _ _)) (SB.out.more (Nat.le_max_right _ _)) X2 HX2.out)
  have QL : Hid (∀ j, Calls Tryz.prog 8 #[.pointer (some ⟨gw, 0, none⟩)] (w2.drewN j) fun e w'' => e = .returned (.int .i64 hl) ∧ ∃ k, w'' = w2.drewN k) := Lib.hid (len_quiet gw gw sv2 _ w2 P1.out hl (by rw [List.nil_append]; exact HH.out _))
  go_wp2_with fail
  refine wp_region_held_drew (S := (fun W => ∃ m, W = w2.drewN m)) (by kernel_rfl) ⟨1, rfl⟩ (fun hHeld => ?_)
  refine wpAnyH_take (i := 0) (oi := ⟨some 9, _, _, _, _, _⟩) (v := ?v0) rfl (by kernel_rfl) (by kernel_rfl) (by kernel_rfl) (fun _ _ _ h => h) (Or.inl ⟨by rfl, ?hy0⟩) (by assumption) ?rest0
  case hy0 => intro W hSW; go_simp; try rfl
  try simp only [Act.put, List.setIfInBounds_toArray, List.set_cons_zero, List.set_cons_succ]
  refine wpAnyH_take (i := 2) (oi := ⟨some 11, _, _, _, _, _⟩) (v := ?v2) rfl (by kernel_rfl) (by kernel_rfl) (by kernel_rfl) (fun _ _ _ h => h) (Or.inl ⟨by rfl, ?hy2⟩) (by assumption) ?rest2
  case hy2 => intro W hSW; go_simp; try rfl
  try simp only [Act.put, List.setIfInBounds_toArray, List.set_cons_zero, List.set_cons_succ]
  refine wpAnyH_take (i := 3) (oi := ⟨some 12, _, _, _, _, _⟩) (v := ?v3) rfl (by kernel_rfl) (by kernel_rfl) (by kernel_rfl) (fun _ _ _ h => h) (Or.inl ⟨by rfl, ?hy3⟩) (by assumption) ?rest3
  case hy3 => intro W hSW; go_simp; try rfl
  try simp only [Act.put, List.setIfInBounds_toArray, List.set_cons_zero, List.set_cons_succ]
  refine wpAnyH_take (i := 4) (oi := ⟨some 13, _, _, _, _, _⟩) (v := ?v4) rfl (by kernel_rfl) (by kernel_rfl) (by kernel_rfl) (fun _ _ _ h => h) (Or.inl ⟨by rfl, ?hy4⟩) (by assumption) ?rest4
  case hy4 => intro W hSW; obtain ⟨m, rfl⟩ := hSW; have q1 : (w2.drewN m).cell? ⟨gb, 317, none⟩ = some (.slice A1 n1 c1) := c1'; have q2 : (w2.drewN m).cell? ⟨gb, 318, none⟩ = some (.slice A2 n2 c2) := c2'; have q3 : (w2.drewN m).cell? ⟨gb, 316, none⟩ = some (.int .i64 ad) := c3'; go_simp; try rfl
  try simp only [Act.put, List.setIfInBounds_toArray, List.set_cons_zero, List.set_cons_succ]
  refine wpAnyH_take (i := 6) (oi := ⟨some 15, _, _, _, _, _⟩) (v := ?v6) rfl (by kernel_rfl) (by kernel_rfl) (by kernel_rfl) (fun _ _ _ h => h) (Or.inl ⟨by rfl, ?hy6⟩) (by assumption) ?rest6
  case hy6 => intro W hSW; go_simp; try rfl
  try simp only [Act.put, List.setIfInBounds_toArray, List.set_cons_zero, List.set_cons_succ]
  refine wpAnyH_take (i := 7) (oi := ⟨some 16, _, _, _, _, _⟩) (v := ?v7) rfl (by kernel_rfl) (by kernel_rfl) (by kernel_rfl) (fun _ _ _ h => h) (Or.inl ⟨by rfl, ?hy7⟩) (by assumption) ?rest7
  case hy7 => intro W hSW; go_simp; try rfl
  try simp only [Act.put, List.setIfInBounds_toArray, List.set_cons_zero, List.set_cons_succ]
  refine wpAnyH_take (i := 8) (oi := ⟨some 17, _, _, _, _, _⟩) (v := ?v8) rfl (by kernel_rfl) (by kernel_rfl) (by kernel_rfl) (fun _ _ _ h => h) (Or.inl ⟨by rfl, ?hy8⟩) (by assumption) ?rest8
  case hy8 => intro W hSW; go_simp; try rfl
  try simp only [Act.put, List.setIfInBounds_toArray, List.set_cons_zero, List.set_cons_succ]
  refine wpAnyH_take (i := 9) (oi := ⟨some 18, _, _, _, _, _⟩) (v := ?v9) rfl (by kernel_rfl) (by kernel_rfl) (by kernel_rfl) (fun _ _ _ h => h) (Or.inl ⟨by rfl, ?hy9⟩) (by assumption) ?rest9
  case hy9 => intro W hSW; go_simp; try rfl
  try simp only [Act.put, List.setIfInBounds_toArray, List.set_cons_zero, List.set_cons_succ]
  refine wpAnyH_take (i := 10) (oi := ⟨some 19, _, _, _, _, _⟩) (v := ?v10) rfl (by kernel_rfl) (by kernel_rfl) (by kernel_rfl) (fun _ _ _ h => h) (Or.inl ⟨by rfl, ?hy10⟩) (by assumption) ?rest10
  case hy10 => intro W hSW; obtain ⟨m, rfl⟩ := hSW; have q1 : (w2.drewN m).cell? ⟨gb, 317, none⟩ = some (.slice A1 n1 c1) := c1'; have q2 : (w2.drewN m).cell? ⟨gb, 318, none⟩ = some (.slice A2 n2 c2) := c2'; have q3 : (w2.drewN m).cell? ⟨gb, 316, none⟩ = some (.int .i64 ad) := c3'; go_simp; try rfl
  try simp only [Act.put, List.setIfInBounds_toArray, List.set_cons_zero, List.set_cons_succ]
  refine wpAnyH_take (i := 13) (oi := ⟨some 22, _, _, _, _, _⟩) (v := ?v13) rfl (by kernel_rfl) (by kernel_rfl) (by kernel_rfl) (fun _ _ _ h => h) (Or.inl ⟨by rfl, ?hy13⟩) (by assumption) ?rest13
  case hy13 => intro W hSW; go_simp; try rfl
  try simp only [Act.put, List.setIfInBounds_toArray, List.set_cons_zero, List.set_cons_succ]
  refine wpAnyH_take (i := 14) (oi := ⟨some 23, _, _, _, _, _⟩) (v := ?v14) rfl (by kernel_rfl) (by kernel_rfl) (by kernel_rfl) (fun _ _ _ h => h) (Or.inl ⟨by rfl, ?hy14⟩) (by assumption) ?rest14
  case hy14 => intro W hSW; go_simp; try rfl
  try simp only [Act.put, List.setIfInBounds_toArray, List.set_cons_zero, List.set_cons_succ]
  refine wpAnyH_take (i := 15) (oi := ⟨some 24, _, _, _, _, _⟩) (v := ?v15) rfl (by kernel_rfl) (by kernel_rfl) (by kernel_rfl) (fun _ _ _ h => h) (Or.inl ⟨by rfl, ?hy15⟩) (by assumption) ?rest15
  case hy15 => intro W hSW; go_simp; try rfl
  try simp only [Act.put, List.setIfInBounds_toArray, List.set_cons_zero, List.set_cons_succ]
  refine wpAnyH_take (i := 16) (oi := ⟨some 25, _, _, _, _, _⟩) (v := ?v16) rfl (by kernel_rfl) (by kernel_rfl) (by kernel_rfl) (fun _ _ _ h => h) (Or.inl ⟨by rfl, ?hy16⟩) (by assumption) ?rest16
  case hy16 => intro W hSW; go_simp; try rfl
  try simp only [Act.put, List.setIfInBounds_toArray, List.set_cons_zero, List.set_cons_succ]
  refine wpAnyH_take (i := 17) (oi := ⟨some 26, _, _, _, _, _⟩) (v := ?v17) rfl (by kernel_rfl) (by kernel_rfl) (by kernel_rfl) (fun _ _ _ h => h) (Or.inl ⟨by rfl, ?hy17⟩) (by assumption) ?rest17
  case hy17 => intro W hSW; obtain ⟨m, rfl⟩ := hSW; have q1 : (w2.drewN m).cell? ⟨gb, 317, none⟩ = some (.slice A1 n1 c1) := c1'; have q2 : (w2.drewN m).cell? ⟨gb, 318, none⟩ = some (.slice A2 n2 c2) := c2'; have q3 : (w2.drewN m).cell? ⟨gb, 316, none⟩ = some (.int .i64 ad) := c3'; go_simp; try rfl
  try simp only [Act.put, List.setIfInBounds_toArray, List.set_cons_zero, List.set_cons_succ]
  refine wpAnyH_ready (rs := [1]) (by kernel_rfl) (by simp) ?_
  refine AllReadyH.cons (o := ⟨some 10, _, _, _, _, _⟩) rfl (fun K hK => ?_) AllReadyH.nil
  go_simp
  obtain ⟨m1, hm1⟩ := hHeld
  have cq1 := QL.out m1
  rw [← hm1] at cq1
  refine cq1.mono ?_
  rintro e w31 ⟨rfl, hd1⟩
  clear cq1
  refine hK.out _ _ ?_ (fun hHeld2 => ?_)
  · exact hd1
  clear hK K
  have hHeld := hHeld2; clear hHeld2
  try simp only [Act.put, List.setIfInBounds_toArray, List.set_cons_zero, List.set_cons_succ]
  refine wpAnyH_take (i := 5) (oi := ⟨some 14, _, _, _, _, _⟩) (v := ?v5) rfl (by kernel_rfl) (by kernel_rfl) (by kernel_rfl) (fun _ _ _ h => h) (Or.inl ⟨by rfl, ?hy5⟩) (by assumption) ?rest5
  case hy5 => intro W hSW; go_simp; try rfl
  try simp only [Act.put, List.setIfInBounds_toArray, List.set_cons_zero, List.set_cons_succ]
  refine wpAnyH_ready (rs := [11]) (by kernel_rfl) (by simp) ?_
  refine AllReadyH.cons (o := ⟨some 20, _, _, _, _, _⟩) rfl (fun K hK => ?_) AllReadyH.nil
  go_simp
  obtain ⟨m2, hm2⟩ := hHeld
  have cq2 := Q1.out m2
  rw [← hm2] at cq2
  refine cq2.mono ?_
  rintro e w32 ⟨rfl, hd2⟩
  clear cq2
  refine hK.out _ _ ?_ (fun hHeld2 => ?_)
  · exact hd2
  clear hK K
  have hHeld := hHeld2; clear hHeld2
  try simp only [Act.put, List.setIfInBounds_toArray, List.set_cons_zero, List.set_cons_succ]
  refine wpAnyH_take (i := 12) (oi := ⟨some 21, _, _, _, _, _⟩) (v := ?v12) rfl (by kernel_rfl) (by kernel_rfl) (by kernel_rfl) (fun _ _ _ h => h) (Or.inl ⟨by rfl, ?hy12⟩) (by assumption) ?rest12
  case hy12 => intro W hSW; go_simp; try rfl
  try simp only [Act.put, List.setIfInBounds_toArray, List.set_cons_zero, List.set_cons_succ]
  refine wpAnyH_ready (rs := [18]) (by kernel_rfl) (by simp) ?_
  refine AllReadyH.cons (o := ⟨some 27, _, _, _, _, _⟩) rfl (fun K hK => ?_) AllReadyH.nil
  go_simp
  obtain ⟨m3, hm3⟩ := hHeld
  have cq3 := Q2.out m3
  rw [← hm3] at cq3
  refine cq3.mono ?_
  rintro e w33 ⟨rfl, hd3⟩
  clear cq3
  refine hK.out _ _ ?_ (fun hHeld2 => ?_)
  · exact hd3
  clear hK K
  have hHeld := hHeld2; clear hHeld2
  try simp only [Act.put, List.setIfInBounds_toArray, List.set_cons_zero, List.set_cons_succ]
  refine wpAnyH_take (i := 19) (oi := ⟨some 28, _, _, _, _, _⟩) (v := ?v19) rfl (by kernel_rfl) (by kernel_rfl) (by kernel_rfl) (fun _ _ _ h => h) (Or.inl ⟨by rfl, ?hy19⟩) (by assumption) ?rest19
  case hy19 => intro W hSW; go_simp; try rfl
  try simp only [Act.put, List.setIfInBounds_toArray, List.set_cons_zero, List.set_cons_succ]
  refine wpAnyH_take (i := 20) (oi := ⟨some 2, _, _, _, _, _⟩) (v := ?v20) rfl (by kernel_rfl) (by kernel_rfl) (by kernel_rfl) (fun _ _ _ h => h) (Or.inl ⟨by rfl, ?hy20⟩) (by assumption) ?rest20
  case hy20 => intro W hSW; go_simp; try rfl
  try simp only [Act.put, List.setIfInBounds_toArray, List.set_cons_zero, List.set_cons_succ]
  refine wpAnyH_done (by kernel_rfl) ?_ _
  obtain ⟨mf, rfl⟩ := hHeld
  go_wp2_with fail
  go_ret
  have V1 : IntKind.i64.wrap ((hl : Int) + ad) = (hl : Int) + ad := IntWalk.i64_in _ (by omega)
  have V2 : IntKind.i64.wrap ((hl : Int) + ad + X1) = (hl : Int) + ad + X1 := IntWalk.i64_in _ (by omega)
  have V3 : IntKind.i64.wrap ((hl : Int) + ad + X1 + X2) = (hl : Int) + ad + X1 + X2 := IntWalk.i64_in _ (by omega)
  refine ⟨?_, below_drewN BB2.out _⟩
  rw [← HV.out]
  show Ending.returned (.int .i64 (IntKind.i64.wrap (IntKind.i64.wrap (IntKind.i64.wrap ((hl : Int) + ad) + X1) + X2))) = _
  rw [V1, V2, V3]
end Go.Proofs.YtkjhefjjacokjaaGreat

namespace Go.Proofs.YtkjhefjjacokjaaGreat
open Go.RowKit
set_option maxRecDepth 100000
set_option maxHeartbeats 2000000 in
theorem write_fix (F : Nat → Int) (A1 : Option Addr) (n1 c1 : Nat) (A2 : Option Addr) (n2 c2 : Nat) (l1 l2 : List Int) (hl1 : l1.length = n1) (hl2 : l2.length = n2) (hn1 : n1 ≤ 1000) (hn2 : n2 ≤ 1000) (hk1 : kindOf l1 ≠ 0) (hk2 : kindOf l2 ≠ 0) (h256 : 256 < n1) (h0 : len l1 256 ≠ 0) (B g : Nat) (sv : Value) (bits : List Bool) (hb : bits.length ≤ 700000) (last : Bool) (w : World) (hw : WriterAt w B g sv bits)  (At : Option Addr) (nt ct : Nat) (l : List Tok) (hnt : nt ≤ 1000) (hT : ToksIn w At nt ct l) (hrt : ∀ t ∈ l, TokW l1 l2 n1 n2 t) (hL1 : Lens w A1 n1 c1 l1) (hL2 : Lens w A2 n2 c2 l2) :
    Calls Tryz.prog 36 #[.agg (blkC F A1 n1 c1 A2 n2 c2 (.func (.func 50) #[] #[])), .pointer (some ⟨g, 0, none⟩), .slice At nt ct, .bool last] w fun e w' => e = .returned (.tuple #[]) ∧ PutPost w B g sv (bits ++ headB 1 last ++ l.flatMap (tokB l1 l2) ++ wb l1 256) w' := by
  obtain ⟨G0, G1, G2, G3⟩ := blkC_get F A1 n1 c1 A2 n2 c2 (.func (.func 50) #[] #[])
  obtain ⟨C, hC⟩ : ∃ C, blkC F A1 n1 c1 A2 n2 c2 (.func (.func 50) #[] #[]) = C := ⟨_, rfl⟩
  rw [hC] at G1 G2 G3 ⊢
  have HG1 := Lib.hid G1; have HG2 := Lib.hid G2
  have HN1 := Lib.hid hl1; have HN2 := Lib.hid hl2; have HK1 := Lib.hid hk1; have HK2 := Lib.hid hk2
  have hB0 : Below w.heap.size w (w.alloc (.cells C 65)) := (Below.refl _ _).alloc (Nat.le_refl _) _
  have WB := Whole.new w 65 C
  have cf : (w.alloc (.cells C 65)).cell? ⟨w.heap.size, 319, none⟩ = some (.func (.func 50) #[] #[]) := (WB.cell 319).trans G3
  have L1 := Lib.hid (hL1.tw (Tw.of_below hB0))
  have L2 := Lib.hid (hL2.tw (Tw.of_below hB0))
  have HW0 := Lib.hid (hw.below hB0)
  have TW0 := Lib.hid (Tw.of_below hB0)
  have WB0 := Lib.hid WB
  have BB0 := Lib.hid hB0
  obtain ⟨gb, hgb⟩ : ∃ gb, w.heap.size = gb := ⟨_, rfl⟩
  rw [hgb] at WB0 cf
  have HTK := Lib.hid hT; have HRT := Lib.hid hrt
  clear hT hrt
  clear G0 G1 G2 G3 hC hl1 hl2 hk1 hk2 hL1 hL2 hw hB0 WB
  go_enter Tryz.func36, Tryz.ntmps36
  go_wp2_with fail
  clear cf
  generalize w.alloc (.cells C 65) = W0 at *
  refine (head47_any B g sv bits last W0 HW0.out (by omega)).mono ?_
  rintro e w1 ⟨rfl, hp⟩
  have TW1 := Lib.hid (Tw.of_put HW0.out hp)
  obtain ⟨sv1, p1, p2, p3⟩ := hp
  have P1 := Lib.hid p1; have P2 := Lib.hid p2; have P3 := Lib.hid p3
  have HBX := Lib.hid (WB0.out.tw TW1.out (by decide) (by decide))
  clear p1 p2 p3
  go_wp2_with fail
  refine wp_region_held_drew (S := (fun W => Whole W gb 65 C ∧ Below w1.heap.size w1 W)) (by kernel_rfl) ⟨HBX.out.drew, below_drew (Below.refl _ _)⟩ (fun hHeld => ?_)
  refine wpAnyH_take (i := 0) (oi := ⟨some 17, _, _, _, _, _⟩) (v := ?v0) rfl (by kernel_rfl) (by kernel_rfl) (by kernel_rfl) (fun _ _ _ h => h) (Or.inl ⟨by rfl, ?hy0⟩) (by assumption) ?rest0
  case hy0 => intro W hSW; go_simp; try rfl
  try simp only [Act.put, List.setIfInBounds_toArray, List.set_cons_zero, List.set_cons_succ]
  refine wpAnyH_take (i := 1) (oi := ⟨some 18, _, _, _, _, _⟩) (v := ?v1) rfl (by kernel_rfl) (by kernel_rfl) (by kernel_rfl) (fun _ _ _ h => h) (Or.inl ⟨by rfl, ?hy1⟩) (by assumption) ?rest1
  case hy1 => intro W hSW; have q1 : W.cell? ⟨gb, 317, none⟩ = some (.slice A1 n1 c1) := (hSW.1.cell 317).trans HG1.out; have q2 : W.cell? ⟨gb, 318, none⟩ = some (.slice A2 n2 c2) := (hSW.1.cell 318).trans HG2.out; go_simp; try rfl
  try simp only [Act.put, List.setIfInBounds_toArray, List.set_cons_zero, List.set_cons_succ]
  refine wpAnyH_take (i := 3) (oi := ⟨some 20, _, _, _, _, _⟩) (v := ?v3) rfl (by kernel_rfl) (by kernel_rfl) (by kernel_rfl) (fun _ _ _ h => h) (Or.inl ⟨by rfl, ?hy3⟩) (by assumption) ?rest3
  case hy3 => intro W hSW; go_simp; try rfl
  try simp only [Act.put, List.setIfInBounds_toArray, List.set_cons_zero, List.set_cons_succ]
  refine wpAnyH_take (i := 4) (oi := ⟨some 21, _, _, _, _, _⟩) (v := ?v4) rfl (by kernel_rfl) (by kernel_rfl) (by kernel_rfl) (fun _ _ _ h => h) (Or.inl ⟨by rfl, ?hy4⟩) (by assumption) ?rest4
  case hy4 => intro W hSW; have q1 : W.cell? ⟨gb, 317, none⟩ = some (.slice A1 n1 c1) := (hSW.1.cell 317).trans HG1.out; have q2 : W.cell? ⟨gb, 318, none⟩ = some (.slice A2 n2 c2) := (hSW.1.cell 318).trans HG2.out; go_simp; try rfl
  try simp only [Act.put, List.setIfInBounds_toArray, List.set_cons_zero, List.set_cons_succ]
  refine wpAnyH_ready (rs := [2]) (by kernel_rfl) (by simp) ?_
  refine AllReadyH.cons (o := ⟨some 19, _, _, _, _, _⟩) rfl (fun K hK => ?_) AllReadyH.nil
  go_simp
  obtain ⟨Bx, hBx, hsx⟩ := L1.out _ ((TW1.out.trans (Tw.of_below (hHeld.2)))) 
  refine (codeOf_any A1 n1 c1 Bx l1 HN1.out hn1 HK1.out _ hsx hBx).mono ?_
  rintro e w2 ⟨gc, rfl, hc2, hb2⟩
  have HC2 := Lib.hid hc2; have HB2 := Lib.hid hb2; clear hc2 hb2 hsx hBx
  refine hK.out _ _ ?_ (fun hHeld2 => ?_)
  · exact ⟨hHeld.1.only (Only.of_below HB2.out Nob) (fun h => h), hHeld.2.trans (HB2.out.mono hHeld.2.size)⟩
  clear hK K hHeld
  have hHeld := hHeld2; clear hHeld2
  try simp only [Act.put, List.setIfInBounds_toArray, List.set_cons_zero, List.set_cons_succ]
  have BB2 := Lib.hid hHeld.2
  refine wpAnyH_ready (rs := [5]) (by kernel_rfl) (by simp) ?_
  refine AllReadyH.cons (o := ⟨some 22, _, _, _, _, _⟩) rfl (fun K hK => ?_) AllReadyH.nil
  go_simp
  obtain ⟨By, hBy, hsy⟩ := L2.out _ ((TW1.out.trans (Tw.of_below (hHeld.2)))) 
  refine (codeOf_any A2 n2 c2 By l2 HN2.out hn2 HK2.out _ hsy hBy).mono ?_
  rintro e w3 ⟨gd, rfl, hc3, hb3⟩
  obtain ⟨lo1, hlo1⟩ : ∃ lo, w1.drew.heap.size = lo := ⟨_, rfl⟩
  obtain ⟨lo2, hlo2⟩ : ∃ lo, w2.heap.size = lo := ⟨_, rfl⟩
  rw [hlo1] at HC2
  rw [hlo2] at hc3
  have HC3 := Lib.hid (HC2.out.below hb3); have HD3 := Lib.hid hc3; have HB3 := Lib.hid hb3; clear hc3 hb3 hsy hBy
  refine hK.out _ _ ?_ (fun hHeld2 => ?_)
  · exact ⟨hHeld.1.only (Only.of_below HB3.out Nob) (fun h => h), hHeld.2.trans (HB3.out.mono hHeld.2.size)⟩
  clear hK K hHeld
  have hHeld := hHeld2; clear hHeld2
  try simp only [Act.put, List.setIfInBounds_toArray, List.set_cons_zero, List.set_cons_succ]
  refine wpAnyH_take (i := 6) (oi := ⟨some 8, _, _, _, _, _⟩) (v := ?v6) rfl (by kernel_rfl) (by kernel_rfl) (by kernel_rfl) (fun _ _ _ h => h) (Or.inl ⟨by rfl, ?hy6⟩) (by assumption) ?rest6
  case hy6 => intro W hSW; go_simp; try rfl
  try simp only [Act.put, List.setIfInBounds_toArray, List.set_cons_zero, List.set_cons_succ]
  refine wpAnyH_take (i := 7) (oi := ⟨some 9, _, _, _, _, _⟩) (v := ?v7) rfl (by kernel_rfl) (by kernel_rfl) (by kernel_rfl) (fun _ _ _ h => h) (Or.inl ⟨by rfl, ?hy7⟩) (by assumption) ?rest7
  case hy7 => intro W hSW; go_simp; try rfl
  try simp only [Act.put, List.setIfInBounds_toArray, List.set_cons_zero, List.set_cons_succ]
  refine wpAnyH_done (by kernel_rfl) ?_ _
  have HW3 := Lib.hid (P1.out.below hHeld.2)
  have ON3 : Hid (Only (Foot g sv) w w3) := Lib.hid (((Only.of_below BB0.out (Foot g sv)).trans P2.out).trans (Only.of_below hHeld.2 (Foot g sv)))
  have AT3 : Hid (∀ k, sv1.ownBlock = some k → sv.ownBlock = some k ∨ w.heap.size ≤ k) := Lib.hid (fun k hk => (P3.out k hk).imp id (fun h => Nat.le_trans BB0.out.size h))
  have HTWa := Lib.hid (TW0.out.trans (TW1.out.trans (Tw.of_below (hHeld.2))))
  clear hHeld
  have hnl : l.length = nt := by
    obtain ⟨_, _, h⟩ := HTK.out _ HTWa.out
    have := h.1
    rw [tvs_length] at this
    omega
  have HNL := Lib.hid hnl; clear hnl
  obtain ⟨X, hX⟩ : ∃ X, bits ++ headB 1 last = X := ⟨_, rfl⟩
  have hXl : X.length ≤ 720000 := by rw [← hX, List.length_append]; rw [headB_length]; omega
  rw [hX] at HW3
  have HXX := Lib.hid hX
  have HP3 : Hid (PutPost w B g sv X w3) := Lib.hid ⟨sv1, HW3.out, ON3.out, AT3.out⟩
  clear hX HW3 ON3 AT3
  go_wp2_with fail
  go_loopw [11, 25] (fun _ i wr => ∃ k : Nat, k ≤ nt ∧ i = .int .i64 k ∧ Hid (PutPost w B g sv (X ++ (l.take k).flatMap (tokB l1 l2)) wr ∧ CodeOwn wr lo1 gc l1 n1 ∧ CodeOwn wr lo2 gd l2 n2 ∧ Tw w wr)) (fun _ i _ => nt - (intOf i).toNat)
  case atStart => exact ⟨0, Nat.zero_le _, rfl, Lib.hid ⟨by simpa using HP3.out, HC3.out, HD3.out, HTWa.out⟩⟩
  case round =>
    obtain ⟨k, hk, rfl, h⟩ := hrel
    obtain ⟨hp, hc, hd, htw⟩ := h.out
    have hfl := flat_toks l1 l2 (right_ok HK1.out) (right_ok HK2.out) (l.take k) (fun t ht => (HRT.out t (List.mem_of_mem_take ht)).2.1)
    have hfl2 : (l.take k).length ≤ 1000 := by rw [List.length_take]; omega
    by_cases hlt : k < nt
    · obtain ⟨Bt, hBt, hst⟩ := HTK.out wr htw
      obtain ⟨⟨tl, tn, td⟩, b, o, ht, rfl, hbB, c0, c1, c2⟩ := hst.tok hlt
      obtain ⟨hkl, ht2⟩ := List.getElem?_eq_some_iff.1 ht
      have hE := flat_takeT l (tokB l1 l2) k hkl
      rw [ht2] at hE
      obtain ⟨k1, k2, k3, k4, k5⟩ := HRT.out ⟨tl, tn, td⟩ (by rw [← ht2]; exact List.getElem_mem hkl)
      simp only at c0 c1 c2 k1
      have hbr : b < wr.heap.size := by omega
      have hne : wr.heap.size ≠ b := by omega
      have CFP := Lib.hid (fun W => firstPart_any tl k1 tn td k2 W)
      have hK5 := fpK_le (t := ⟨tl, tn, td⟩) k2
      have hM := fpM_le (t := ⟨tl, tn, td⟩) k2
      have hE' : tokB l1 l2 ⟨tl, tn, td⟩ = (wb l1 (fpS ⟨tl, tn, td⟩) ++ bitsOf (fpM ⟨tl, tn, td⟩) (fpK ⟨tl, tn, td⟩)) ++ (if tn = 0 then [] else wb l2 (dsn td.toNat) ++ bitsOf (td.toNat - dstB (dsn td.toNat)) (dstM (dsn td.toNat))) := rfl
      rw [hE'] at hE
      obtain ⟨s, hs⟩ : ∃ s, fpS ⟨tl, tn, td⟩ = s := ⟨_, rfl⟩
      obtain ⟨m, hm⟩ : ∃ m, fpM ⟨tl, tn, td⟩ = m := ⟨_, rfl⟩
      obtain ⟨q, hq⟩ : ∃ q, fpK ⟨tl, tn, td⟩ = q := ⟨_, rfl⟩
      rw [hs, hm, hq] at CFP hE
      rw [hs] at k3
      rw [hq] at hK5
      rw [hm] at hM
      unfold partV at CFP
      have hB5 : Below wr.heap.size wr (wr.alloc (.cells #[.int .u8 tl, .int .i64 tn, .int .i64 td] 42)) := (Below.refl _ _).alloc (Nat.le_refl _) _
      have WT := Lib.hid (Whole.new wr 42 #[.int .u8 tl, .int .i64 tn, .int .i64 td])
      have HP5 := Lib.hid (hp.below hB5); have HC5 := Lib.hid (hc.below hB5); have HD5 := Lib.hid (hd.below hB5); have HT5 := Lib.hid (htw.trans (Tw.of_below hB5))
      have hk0 : (0 : Int) ≤ k := by omega
      have HE := Lib.hid hE
      obtain ⟨g6, hg6⟩ : ∃ g6, wr.heap.size = g6 := ⟨_, rfl⟩
      rw [hg6] at WT hbr hne
      clear hp hc hd htw h ht ht2 hkl hE hE' hst hBt hB5 hs hm hq
      go_wp2_with fail
      clear c0 c1 c2 hbr hne hg6
      generalize wr.alloc (.cells #[.int .u8 tl, .int .i64 tn, .int .i64 td] 42) = W5 at *
      refine (CFP.out _).mono ?_
      rintro e w6 ⟨rfl, hb6⟩
      have HP6 := Lib.hid (HP5.out.below hb6); have HC6 := Lib.hid (HC5.out.below hb6); have HD6 := Lib.hid (HD5.out.below hb6); have HT6 := Lib.hid (HT5.out.trans (Tw.of_below hb6))
      have WT6 := Lib.hid (WT.out.only (Only.of_below hb6 Nob) (fun h => h))
      have CPP := Lib.hid (PutPost.part HP6.out (by rw [List.length_append]; omega) _ gc n1 l1 HN1.out HK1.out s m q k3.1 k3.2 (by omega) (by omega) HC6.out)
      clear hb6 HP5 HC5 HD5 HT5 WT CFP
      go_wp2_with fail
      refine CPP.out.mono ?_
      rintro e w7 ⟨rfl, hp7, ht7⟩
      have hW7 := WT6.out.tw ht7 (by decide) (by decide)
      have HP7 := Lib.hid hp7; have HC7 := Lib.hid (HC6.out.tw ht7); have HD7 := Lib.hid (HD6.out.tw ht7); have HT7 := Lib.hid (HT6.out.trans ht7)
      have v1 : w7.cell? ⟨g6, 1, none⟩ = some (.int .i64 tn) := hW7.cell 1
      have v2 : w7.cell? ⟨g6, 2, none⟩ = some (.int .i64 td) := hW7.cell 2
      clear hp7 ht7 hW7 CPP HP6 HC6 HD6 HT6 WT6
      by_cases hz : tn = 0
      · subst hz
        go_wp2_with fail
        go_roundw
        case rel => exact ⟨k + 1, by omega, by go_num, Lib.hid ⟨by have e := HE.out; simp only [if_true, List.append_nil] at e; rw [e, ← List.append_assoc]; exact HP7.out, HC7.out, HD7.out, HT7.out⟩⟩
        case measure => simp [intOf]; omega
      · obtain ⟨r0, r1, r2, r3, r4⟩ := rightT_copy k2 hz
        simp only at r1 r2 r3 r4
        have dz : decide ((0 : Int) < tn) = true := decide_eq_true (by omega)
        obtain ⟨d, rfl⟩ := Int.eq_ofNat_of_zero_le (show 0 ≤ td by omega)
        have CDP := Lib.hid (fun W => distancePart_any d (by omega) (by omega) W)
        have k5' := k4 hz
        simp only [Int.toNat_natCast] at k5'
        have hM2 := dsM_le (d := d) (by omega)
        obtain ⟨sd, hsd⟩ : ∃ sd, dsn d = sd := ⟨_, rfl⟩
        have HEE := HE.out
        rw [if_neg hz, Int.toNat_natCast, hsd] at HEE
        rw [hsd] at CDP k5' hM2
        obtain ⟨md, hmd⟩ : ∃ md, d - dstB sd = md := ⟨_, rfl⟩
        have hmd2 : md ≤ 40000 := by omega
        obtain ⟨qd, hqd⟩ : ∃ qd, dstM sd = qd := ⟨_, rfl⟩
        rw [hmd, hqd] at HEE CDP
        rw [hqd] at hM2
        unfold partV at CDP
        have HE2 := Lib.hid HEE
        have hwl := len_le (right_ok HK1.out) s
        clear HEE HE hsd hmd hqd
        go_wp2_with fail
        refine (CDP.out _).mono ?_
        rintro e w8 ⟨rfl, hb8⟩
        have HP8 := Lib.hid (HP7.out.below hb8); have HC8 := Lib.hid (HC7.out.below hb8); have HD8 := Lib.hid (HD7.out.below hb8); have HT8 := Lib.hid (HT7.out.trans (Tw.of_below hb8))
        have CPP := Lib.hid (PutPost.part HP8.out (by simp only [List.length_append, wb_length, bitsOf_length]; omega) _ gd n2 l2 HN2.out HK2.out sd md qd k5'.1 k5'.2 (by omega) (by omega) HD8.out)
        clear hb8 HP7 HC7 HD7 HT7 CDP v1 v2
        go_wp2_with fail
        refine CPP.out.mono ?_
        rintro e w9 ⟨rfl, hp9, ht9⟩
        have HP9 := Lib.hid hp9; have HC9 := Lib.hid (HC8.out.tw ht9); have HD9 := Lib.hid (HD8.out.tw ht9); have HT9 := Lib.hid (HT8.out.trans ht9)
        clear hp9 ht9 CPP HP8 HC8 HD8 HT8
        go_wp2_with fail
        go_roundw
        case rel => exact ⟨k + 1, by omega, by go_num, Lib.hid ⟨by rw [HE2.out, ← List.append_assoc, ← List.append_assoc]; exact HP9.out, HC9.out, HD9.out, HT9.out⟩⟩
        case measure => simp [intOf]; omega
    · obtain rfl : k = nt := by omega
      rw [List.take_of_length_le (by rw [HNL.out]; exact Nat.le_refl _)] at hp hfl
      have hfl3 : l.length ≤ 1000 := by rw [HNL.out]; omega
      obtain ⟨sv4, p1, p2, p3⟩ := hp
      have HC := Lib.hid hc; have P1 := Lib.hid p1; have P2 := Lib.hid p2; have P3 := Lib.hid p3
      clear hc hd htw h p1 p2 p3
      go_wp2_with fail
      refine (codePut_yes wr.heap.size gc l1 n1 HN1.out HK1.out B g sv4 _ 256 wr HC.out.seen P1.out (by rw [List.length_append]; omega) h256 h0).mono ?_
      rintro e w4 ⟨rfl, hp⟩
      have hpp := PutPost.then P2.out P3.out hp
      rw [← HXX.out] at hpp
      have PP := Lib.hid hpp; clear hp hpp
      go_wp2_with fail
      go_end0
      exact ⟨rfl, PP.out⟩
end Go.Proofs.YtkjhefjjacokjaaGreat

namespace Go.Proofs.YtkjhefjjacokjaaGreat
open Go.RowKit
set_option maxRecDepth 100000
set_option maxHeartbeats 2000000 in
theorem write_dyn (F : Nat → Int) (A1 : Option Addr) (n1 c1 : Nat) (A2 : Option Addr) (n2 c2 : Nat) (l1 l2 : List Int) (hl1 : l1.length = n1) (hl2 : l2.length = n2) (hn1 : n1 ≤ 1000) (hn2 : n2 ≤ 1000) (hk1 : kindOf l1 ≠ 0) (hk2 : kindOf l2 ≠ 0) (h256 : 256 < n1) (h0 : len l1 256 ≠ 0) (B g : Nat) (sv : Value) (bits : List Bool) (hb : bits.length ≤ 700000) (last : Bool) (w : World) (hw : WriterAt w B g sv bits) (g3 g4 : Nat) (H : Bool → List Bool) (hl : Nat) (hlb : hl ≤ 20000) (hH : ∀ b, (H b).length = hl) (HD : ∀ (W : World) (B' g' : Nat) (sv' : Value) (bits' : List Bool) (last' : Bool), Tw w W → WriterAt W B' g' sv' bits' → bits'.length ≤ 790000 → Calls Tryz.prog 55 #[.pointer (some ⟨g', 0, none⟩), .bool last', .pointer (some ⟨g3, 0, none⟩), .pointer (some ⟨g4, 0, none⟩)] W fun e w' => e = .returned (.tuple #[]) ∧ PutPost W B' g' sv' (bits' ++ H last') w') (At : Option Addr) (nt ct : Nat) (l : List Tok) (hnt : nt ≤ 1000) (hT : ToksIn w At nt ct l) (hrt : ∀ t ∈ l, TokW l1 l2 n1 n2 t) (hL1 : Lens w A1 n1 c1 l1) (hL2 : Lens w A2 n2 c2 l2) :
    Calls Tryz.prog 36 #[.agg (blkC F A1 n1 c1 A2 n2 c2 (.func (.func 55) #[] #[.pointer (some ⟨g3, 0, none⟩), .pointer (some ⟨g4, 0, none⟩)])), .pointer (some ⟨g, 0, none⟩), .slice At nt ct, .bool last] w fun e w' => e = .returned (.tuple #[]) ∧ PutPost w B g sv (bits ++ H last ++ l.flatMap (tokB l1 l2) ++ wb l1 256) w' := by
  obtain ⟨G0, G1, G2, G3⟩ := blkC_get F A1 n1 c1 A2 n2 c2 (.func (.func 55) #[] #[.pointer (some ⟨g3, 0, none⟩), .pointer (some ⟨g4, 0, none⟩)])
  obtain ⟨C, hC⟩ : ∃ C, blkC F A1 n1 c1 A2 n2 c2 (.func (.func 55) #[] #[.pointer (some ⟨g3, 0, none⟩), .pointer (some ⟨g4, 0, none⟩)]) = C := ⟨_, rfl⟩
  rw [hC] at G1 G2 G3 ⊢
  have HG1 := Lib.hid G1; have HG2 := Lib.hid G2
  have HN1 := Lib.hid hl1; have HN2 := Lib.hid hl2; have HK1 := Lib.hid hk1; have HK2 := Lib.hid hk2
  have hB0 : Below w.heap.size w (w.alloc (.cells C 65)) := (Below.refl _ _).alloc (Nat.le_refl _) _
  have WB := Whole.new w 65 C
  have cf : (w.alloc (.cells C 65)).cell? ⟨w.heap.size, 319, none⟩ = some (.func (.func 55) #[] #[.pointer (some ⟨g3, 0, none⟩), .pointer (some ⟨g4, 0, none⟩)]) := (WB.cell 319).trans G3
  have L1 := Lib.hid (hL1.tw (Tw.of_below hB0))
  have L2 := Lib.hid (hL2.tw (Tw.of_below hB0))
  have HW0 := Lib.hid (hw.below hB0)
  have TW0 := Lib.hid (Tw.of_below hB0)
  have WB0 := Lib.hid WB
  have BB0 := Lib.hid hB0
  obtain ⟨gb, hgb⟩ : ∃ gb, w.heap.size = gb := ⟨_, rfl⟩
  rw [hgb] at WB0 cf
  have HTK := Lib.hid hT; have HRT := Lib.hid hrt
  clear hT hrt
  have HD1 := Lib.hid HD; have HH := Lib.hid hH
  clear HD hH
  clear G0 G1 G2 G3 hC hl1 hl2 hk1 hk2 hL1 hL2 hw hB0 WB
  go_enter Tryz.func36, Tryz.ntmps36
  go_wp2_with fail
  clear cf
  generalize w.alloc (.cells C 65) = W0 at *
  refine (HD1.out W0 B g sv bits last TW0.out HW0.out (by omega)).mono ?_
  rintro e w1 ⟨rfl, hp⟩
  have TW1 := Lib.hid (Tw.of_put HW0.out hp)
  obtain ⟨sv1, p1, p2, p3⟩ := hp
  have P1 := Lib.hid p1; have P2 := Lib.hid p2; have P3 := Lib.hid p3
  have HBX := Lib.hid (WB0.out.tw TW1.out (by decide) (by decide))
  clear p1 p2 p3
  go_wp2_with fail
  refine wp_region_held_drew (S := (fun W => Whole W gb 65 C ∧ Below w1.heap.size w1 W)) (by kernel_rfl) ⟨HBX.out.drew, below_drew (Below.refl _ _)⟩ (fun hHeld => ?_)
  refine wpAnyH_take (i := 0) (oi := ⟨some 17, _, _, _, _, _⟩) (v := ?v0) rfl (by kernel_rfl) (by kernel_rfl) (by kernel_rfl) (fun _ _ _ h => h) (Or.inl ⟨by rfl, ?hy0⟩) (by assumption) ?rest0
  case hy0 => intro W hSW; go_simp; try rfl
  try simp only [Act.put, List.setIfInBounds_toArray, List.set_cons_zero, List.set_cons_succ]
  refine wpAnyH_take (i := 1) (oi := ⟨some 18, _, _, _, _, _⟩) (v := ?v1) rfl (by kernel_rfl) (by kernel_rfl) (by kernel_rfl) (fun _ _ _ h => h) (Or.inl ⟨by rfl, ?hy1⟩) (by assumption) ?rest1
  case hy1 => intro W hSW; have q1 : W.cell? ⟨gb, 317, none⟩ = some (.slice A1 n1 c1) := (hSW.1.cell 317).trans HG1.out; have q2 : W.cell? ⟨gb, 318, none⟩ = some (.slice A2 n2 c2) := (hSW.1.cell 318).trans HG2.out; go_simp; try rfl
  try simp only [Act.put, List.setIfInBounds_toArray, List.set_cons_zero, List.set_cons_succ]
  refine wpAnyH_take (i := 3) (oi := ⟨some 20, _, _, _, _, _⟩) (v := ?v3) rfl (by kernel_rfl) (by kernel_rfl) (by kernel_rfl) (fun _ _ _ h => h) (Or.inl ⟨by rfl, ?hy3⟩) (by assumption) ?rest3
  case hy3 => intro W hSW; go_simp; try rfl
  try simp only [Act.put, List.setIfInBounds_toArray, List.set_cons_zero, List.set_cons_succ]
  refine wpAnyH_take (i := 4) (oi := ⟨some 21, _, _, _, _, _⟩) (v := ?v4) rfl (by kernel_rfl) (by kernel_rfl) (by kernel_rfl) (fun _ _ _ h => h) (Or.inl ⟨by rfl, ?hy4⟩) (by assumption) ?rest4
  case hy4 => intro W hSW; have q1 : W.cell? ⟨gb, 317, none⟩ = some (.slice A1 n1 c1) := (hSW.1.cell 317).trans HG1.out; have q2 : W.cell? ⟨gb, 318, none⟩ = some (.slice A2 n2 c2) := (hSW.1.cell 318).trans HG2.out; go_simp; try rfl
  try simp only [Act.put, List.setIfInBounds_toArray, List.set_cons_zero, List.set_cons_succ]
  refine wpAnyH_ready (rs := [2]) (by kernel_rfl) (by simp) ?_
  refine AllReadyH.cons (o := ⟨some 19, _, _, _, _, _⟩) rfl (fun K hK => ?_) AllReadyH.nil
  go_simp
  obtain ⟨Bx, hBx, hsx⟩ := L1.out _ ((TW1.out.trans (Tw.of_below (hHeld.2)))) 
  refine (codeOf_any A1 n1 c1 Bx l1 HN1.out hn1 HK1.out _ hsx hBx).mono ?_
  rintro e w2 ⟨gc, rfl, hc2, hb2⟩
  have HC2 := Lib.hid hc2; have HB2 := Lib.hid hb2; clear hc2 hb2 hsx hBx
  refine hK.out _ _ ?_ (fun hHeld2 => ?_)
  · exact ⟨hHeld.1.only (Only.of_below HB2.out Nob) (fun h => h), hHeld.2.trans (HB2.out.mono hHeld.2.size)⟩
  clear hK K hHeld
  have hHeld := hHeld2; clear hHeld2
  try simp only [Act.put, List.setIfInBounds_toArray, List.set_cons_zero, List.set_cons_succ]
  have BB2 := Lib.hid hHeld.2
  refine wpAnyH_ready (rs := [5]) (by kernel_rfl) (by simp) ?_
  refine AllReadyH.cons (o := ⟨some 22, _, _, _, _, _⟩) rfl (fun K hK => ?_) AllReadyH.nil
  go_simp
  obtain ⟨By, hBy, hsy⟩ := L2.out _ ((TW1.out.trans (Tw.of_below (hHeld.2)))) 
  refine (codeOf_any A2 n2 c2 By l2 HN2.out hn2 HK2.out _ hsy hBy).mono ?_
  rintro e w3 ⟨gd, rfl, hc3, hb3⟩
  obtain ⟨lo1, hlo1⟩ : ∃ lo, w1.drew.heap.size = lo := ⟨_, rfl⟩
  obtain ⟨lo2, hlo2⟩ : ∃ lo, w2.heap.size = lo := ⟨_, rfl⟩
  rw [hlo1] at HC2
  rw [hlo2] at hc3
  have HC3 := Lib.hid (HC2.out.below hb3); have HD3 := Lib.hid hc3; have HB3 := Lib.hid hb3; clear hc3 hb3 hsy hBy
  refine hK.out _ _ ?_ (fun hHeld2 => ?_)
  · exact ⟨hHeld.1.only (Only.of_below HB3.out Nob) (fun h => h), hHeld.2.trans (HB3.out.mono hHeld.2.size)⟩
  clear hK K hHeld
  have hHeld := hHeld2; clear hHeld2
  try simp only [Act.put, List.setIfInBounds_toArray, List.set_cons_zero, List.set_cons_succ]
  refine wpAnyH_take (i := 6) (oi := ⟨some 8, _, _, _, _, _⟩) (v := ?v6) rfl (by kernel_rfl) (by kernel_rfl) (by kernel_rfl) (fun _ _ _ h => h) (Or.inl ⟨by rfl, ?hy6⟩) (by assumption) ?rest6
  case hy6 => intro W hSW; go_simp; try rfl
  try simp only [Act.put, List.setIfInBounds_toArray, List.set_cons_zero, List.set_cons_succ]
  refine wpAnyH_take (i := 7) (oi := ⟨some 9, _, _, _, _, _⟩) (v := ?v7) rfl (by kernel_rfl) (by kernel_rfl) (by kernel_rfl) (fun _ _ _ h => h) (Or.inl ⟨by rfl, ?hy7⟩) (by assumption) ?rest7
  case hy7 => intro W hSW; go_simp; try rfl
  try simp only [Act.put, List.setIfInBounds_toArray, List.set_cons_zero, List.set_cons_succ]
  refine wpAnyH_done (by kernel_rfl) ?_ _
  have HW3 := Lib.hid (P1.out.below hHeld.2)
  have ON3 : Hid (Only (Foot g sv) w w3) := Lib.hid (((Only.of_below BB0.out (Foot g sv)).trans P2.out).trans (Only.of_below hHeld.2 (Foot g sv)))
  have AT3 : Hid (∀ k, sv1.ownBlock = some k → sv.ownBlock = some k ∨ w.heap.size ≤ k) := Lib.hid (fun k hk => (P3.out k hk).imp id (fun h => Nat.le_trans BB0.out.size h))
  have HTWa := Lib.hid (TW0.out.trans (TW1.out.trans (Tw.of_below (hHeld.2))))
  clear hHeld
  have hnl : l.length = nt := by
    obtain ⟨_, _, h⟩ := HTK.out _ HTWa.out
    have := h.1
    rw [tvs_length] at this
    omega
  have HNL := Lib.hid hnl; clear hnl
  obtain ⟨X, hX⟩ : ∃ X, bits ++ H last = X := ⟨_, rfl⟩
  have hXl : X.length ≤ 720000 := by rw [← hX, List.length_append]; rw [HH.out]; omega
  rw [hX] at HW3
  have HXX := Lib.hid hX
  have HP3 : Hid (PutPost w B g sv X w3) := Lib.hid ⟨sv1, HW3.out, ON3.out, AT3.out⟩
  clear hX HW3 ON3 AT3
  go_wp2_with fail
  go_loopw [11, 25] (fun _ i wr => ∃ k : Nat, k ≤ nt ∧ i = .int .i64 k ∧ Hid (PutPost w B g sv (X ++ (l.take k).flatMap (tokB l1 l2)) wr ∧ CodeOwn wr lo1 gc l1 n1 ∧ CodeOwn wr lo2 gd l2 n2 ∧ Tw w wr)) (fun _ i _ => nt - (intOf i).toNat)
  case atStart => exact ⟨0, Nat.zero_le _, rfl, Lib.hid ⟨by simpa using HP3.out, HC3.out, HD3.out, HTWa.out⟩⟩
  case round =>
    obtain ⟨k, hk, rfl, h⟩ := hrel
    obtain ⟨hp, hc, hd, htw⟩ := h.out
    have hfl := flat_toks l1 l2 (right_ok HK1.out) (right_ok HK2.out) (l.take k) (fun t ht => (HRT.out t (List.mem_of_mem_take ht)).2.1)
    have hfl2 : (l.take k).length ≤ 1000 := by rw [List.length_take]; omega
    by_cases hlt : k < nt
    · obtain ⟨Bt, hBt, hst⟩ := HTK.out wr htw
      obtain ⟨⟨tl, tn, td⟩, b, o, ht, rfl, hbB, c0, c1, c2⟩ := hst.tok hlt
      obtain ⟨hkl, ht2⟩ := List.getElem?_eq_some_iff.1 ht
      have hE := flat_takeT l (tokB l1 l2) k hkl
      rw [ht2] at hE
      obtain ⟨k1, k2, k3, k4, k5⟩ := HRT.out ⟨tl, tn, td⟩ (by rw [← ht2]; exact List.getElem_mem hkl)
      simp only at c0 c1 c2 k1
      have hbr : b < wr.heap.size := by omega
      have hne : wr.heap.size ≠ b := by omega
      have CFP := Lib.hid (fun W => firstPart_any tl k1 tn td k2 W)
      have hK5 := fpK_le (t := ⟨tl, tn, td⟩) k2
      have hM := fpM_le (t := ⟨tl, tn, td⟩) k2
      have hE' : tokB l1 l2 ⟨tl, tn, td⟩ = (wb l1 (fpS ⟨tl, tn, td⟩) ++ bitsOf (fpM ⟨tl, tn, td⟩) (fpK ⟨tl, tn, td⟩)) ++ (if tn = 0 then [] else wb l2 (dsn td.toNat) ++ bitsOf (td.toNat - dstB (dsn td.toNat)) (dstM (dsn td.toNat))) := rfl
      rw [hE'] at hE
      obtain ⟨s, hs⟩ : ∃ s, fpS ⟨tl, tn, td⟩ = s := ⟨_, rfl⟩
      obtain ⟨m, hm⟩ : ∃ m, fpM ⟨tl, tn, td⟩ = m := ⟨_, rfl⟩
      obtain ⟨q, hq⟩ : ∃ q, fpK ⟨tl, tn, td⟩ = q := ⟨_, rfl⟩
      rw [hs, hm, hq] at CFP hE
      rw [hs] at k3
      rw [hq] at hK5
      rw [hm] at hM
      unfold partV at CFP
      have hB5 : Below wr.heap.size wr (wr.alloc (.cells #[.int .u8 tl, .int .i64 tn, .int .i64 td] 42)) := (Below.refl _ _).alloc (Nat.le_refl _) _
      have WT := Lib.hid (Whole.new wr 42 #[.int .u8 tl, .int .i64 tn, .int .i64 td])
      have HP5 := Lib.hid (hp.below hB5); have HC5 := Lib.hid (hc.below hB5); have HD5 := Lib.hid (hd.below hB5); have HT5 := Lib.hid (htw.trans (Tw.of_below hB5))
      have hk0 : (0 : Int) ≤ k := by omega
      have HE := Lib.hid hE
      obtain ⟨g6, hg6⟩ : ∃ g6, wr.heap.size = g6 := ⟨_, rfl⟩
      rw [hg6] at WT hbr hne
      clear hp hc hd htw h ht ht2 hkl hE hE' hst hBt hB5 hs hm hq
      go_wp2_with fail
      clear c0 c1 c2 hbr hne hg6
      generalize wr.alloc (.cells #[.int .u8 tl, .int .i64 tn, .int .i64 td] 42) = W5 at *
      refine (CFP.out _).mono ?_
      rintro e w6 ⟨rfl, hb6⟩
      have HP6 := Lib.hid (HP5.out.below hb6); have HC6 := Lib.hid (HC5.out.below hb6); have HD6 := Lib.hid (HD5.out.below hb6); have HT6 := Lib.hid (HT5.out.trans (Tw.of_below hb6))
      have WT6 := Lib.hid (WT.out.only (Only.of_below hb6 Nob) (fun h => h))
      have CPP := Lib.hid (PutPost.part HP6.out (by rw [List.length_append]; omega) _ gc n1 l1 HN1.out HK1.out s m q k3.1 k3.2 (by omega) (by omega) HC6.out)
      clear hb6 HP5 HC5 HD5 HT5 WT CFP
      go_wp2_with fail
      refine CPP.out.mono ?_
      rintro e w7 ⟨rfl, hp7, ht7⟩
      have hW7 := WT6.out.tw ht7 (by decide) (by decide)
      have HP7 := Lib.hid hp7; have HC7 := Lib.hid (HC6.out.tw ht7); have HD7 := Lib.hid (HD6.out.tw ht7); have HT7 := Lib.hid (HT6.out.trans ht7)
      have v1 : w7.cell? ⟨g6, 1, none⟩ = some (.int .i64 tn) := hW7.cell 1
      have v2 : w7.cell? ⟨g6, 2, none⟩ = some (.int .i64 td) := hW7.cell 2
      clear hp7 ht7 hW7 CPP HP6 HC6 HD6 HT6 WT6
      by_cases hz : tn = 0
      · subst hz
        go_wp2_with fail
        go_roundw
        case rel => exact ⟨k + 1, by omega, by go_num, Lib.hid ⟨by have e := HE.out; simp only [if_true, List.append_nil] at e; rw [e, ← List.append_assoc]; exact HP7.out, HC7.out, HD7.out, HT7.out⟩⟩
        case measure => simp [intOf]; omega
      · obtain ⟨r0, r1, r2, r3, r4⟩ := rightT_copy k2 hz
        simp only at r1 r2 r3 r4
        have dz : decide ((0 : Int) < tn) = true := decide_eq_true (by omega)
        obtain ⟨d, rfl⟩ := Int.eq_ofNat_of_zero_le (show 0 ≤ td by omega)
        have CDP := Lib.hid (fun W => distancePart_any d (by omega) (by omega) W)
        have k5' := k4 hz
        simp only [Int.toNat_natCast] at k5'
        have hM2 := dsM_le (d := d) (by omega)
        obtain ⟨sd, hsd⟩ : ∃ sd, dsn d = sd := ⟨_, rfl⟩
        have HEE := HE.out
        rw [if_neg hz, Int.toNat_natCast, hsd] at HEE
        rw [hsd] at CDP k5' hM2
        obtain ⟨md, hmd⟩ : ∃ md, d - dstB sd = md := ⟨_, rfl⟩
        have hmd2 : md ≤ 40000 := by omega
        obtain ⟨qd, hqd⟩ : ∃ qd, dstM sd = qd := ⟨_, rfl⟩
        rw [hmd, hqd] at HEE CDP
        rw [hqd] at hM2
        unfold partV at CDP
        have HE2 := Lib.hid HEE
        have hwl := len_le (right_ok HK1.out) s
        clear HEE HE hsd hmd hqd
        go_wp2_with fail
        refine (CDP.out _).mono ?_
        rintro e w8 ⟨rfl, hb8⟩
        have HP8 := Lib.hid (HP7.out.below hb8); have HC8 := Lib.hid (HC7.out.below hb8); have HD8 := Lib.hid (HD7.out.below hb8); have HT8 := Lib.hid (HT7.out.trans (Tw.of_below hb8))
        have CPP := Lib.hid (PutPost.part HP8.out (by simp only [List.length_append, wb_length, bitsOf_length]; omega) _ gd n2 l2 HN2.out HK2.out sd md qd k5'.1 k5'.2 (by omega) (by omega) HD8.out)
        clear hb8 HP7 HC7 HD7 HT7 CDP v1 v2
        go_wp2_with fail
        refine CPP.out.mono ?_
        rintro e w9 ⟨rfl, hp9, ht9⟩
        have HP9 := Lib.hid hp9; have HC9 := Lib.hid (HC8.out.tw ht9); have HD9 := Lib.hid (HD8.out.tw ht9); have HT9 := Lib.hid (HT8.out.trans ht9)
        clear hp9 ht9 CPP HP8 HC8 HD8 HT8
        go_wp2_with fail
        go_roundw
        case rel => exact ⟨k + 1, by omega, by go_num, Lib.hid ⟨by rw [HE2.out, ← List.append_assoc, ← List.append_assoc]; exact HP9.out, HC9.out, HD9.out, HT9.out⟩⟩
        case measure => simp [intOf]; omega
    · obtain rfl : k = nt := by omega
      rw [List.take_of_length_le (by rw [HNL.out]; exact Nat.le_refl _)] at hp hfl
      have hfl3 : l.length ≤ 1000 := by rw [HNL.out]; omega
      obtain ⟨sv4, p1, p2, p3⟩ := hp
      have HC := Lib.hid hc; have P1 := Lib.hid p1; have P2 := Lib.hid p2; have P3 := Lib.hid p3
      clear hc hd htw h p1 p2 p3
      go_wp2_with fail
      refine (codePut_yes wr.heap.size gc l1 n1 HN1.out HK1.out B g sv4 _ 256 wr HC.out.seen P1.out (by rw [List.length_append]; omega) h256 h0).mono ?_
      rintro e w4 ⟨rfl, hp⟩
      have hpp := PutPost.then P2.out P3.out hp
      rw [← HXX.out] at hpp
      have PP := Lib.hid hpp; clear hp hpp
      go_wp2_with fail
      go_end0
      exact ⟨rfl, PP.out⟩
end Go.Proofs.YtkjhefjjacokjaaGreat

namespace Go.Proofs.YtkjhefjjacokjaaGreat
open Go.RowKit
set_option maxRecDepth 100000
def sumF (f : Nat → Int) (le : List Int) : Nat → Int
  | 0 => 0
  | k + 1 => sumF f le k + f k * le.getD k 0
theorem sumF_ext {f g : Nat → Int} (le : List Int) : ∀ m, (∀ i, i < m → f i = g i) → sumF f le m = sumF g le m
  | 0, _ => rfl
  | m + 1, h => by rw [sumF, sumF, sumF_ext le m (fun i hi => h i (by omega)), h m (by omega)]
theorem sumF_put (f : Nat → Int) (le : List Int) (p : Nat) : ∀ m, sumF (fun i => if i = p then f i + 1 else f i) le m = sumF f le m + (if p < m then le.getD p 0 else 0)
  | 0 => by simp [sumF]
  | m + 1 => by
    rw [sumF, sumF, sumF_put f le p m]
    by_cases h : m = p
    · subst h
      rw [if_neg (by omega), if_pos rfl, if_pos (by omega), Int.add_mul]
      omega
    · rw [if_neg h]
      by_cases h2 : p < m
      · rw [if_pos h2, if_pos (by omega)]; omega
      · rw [if_neg h2, if_neg (by omega)]; omega
theorem costK_range (f : Nat → Int) (le : List Int) (n : Nat) : ∀ m, m ≤ n → costK ((List.range n).map f) le m = sumF f le m
  | 0, _ => rfl
  | m + 1, h => by
    rw [costK, sumF, costK_range f le n m (by omega)]
    congr 2
    simp [List.getD, show m < n by omega]
/-- What counts cost. -/
def tot (l1 l2 : List Int) (m1 m2 : Nat) (F : Nat → Int) : Int := F 316 + sumF (fun i => F (0 + i)) l1 m1 + sumF (fun i => F (286 + i)) l2 m2
theorem tot_first (l1 l2 : List Int) (m1 m2 : Nat) (F : Nat → Int) (s : Nat) (q : Int) (h1 : m1 ≤ 286) (h2 : m2 ≤ 30) (hs : s < m1) :
    tot l1 l2 m1 m2 (putF (putF F s (F s + 1)) 316 (F 316 + q)) = tot l1 l2 m1 m2 F + q + l1.getD s 0 := by
  have e1 : sumF (fun i => putF (putF F s (F s + 1)) 316 (F 316 + q) (0 + i)) l1 m1 = sumF (fun i => if i = s then F (0 + i) + 1 else F (0 + i)) l1 m1 := sumF_ext _ _ (fun i hi => by
    unfold putF
    rw [if_neg (by omega)]
    by_cases h : i = s
    · subst h; simp
    · rw [if_neg (by omega), if_neg h])
  have e2 : sumF (fun i => putF (putF F s (F s + 1)) 316 (F 316 + q) (286 + i)) l2 m2 = sumF (fun i => F (286 + i)) l2 m2 := sumF_ext _ _ (fun i hi => by
    unfold putF
    rw [if_neg (by omega), if_neg (by omega)])
  have e3 : putF (putF F s (F s + 1)) 316 (F 316 + q) 316 = F 316 + q := by unfold putF; rw [if_pos rfl]
  unfold tot
  rw [e1, e2, e3, sumF_put, if_pos hs]
  omega
theorem tot_second (l1 l2 : List Int) (m1 m2 : Nat) (F : Nat → Int) (s : Nat) (q : Int) (h1 : m1 ≤ 286) (h2 : m2 ≤ 30) (hs : s < m2) :
    tot l1 l2 m1 m2 (putF (putF F (286 + s) (F (286 + s) + 1)) 316 (F 316 + q)) = tot l1 l2 m1 m2 F + q + l2.getD s 0 := by
  have e1 : sumF (fun i => putF (putF F (286 + s) (F (286 + s) + 1)) 316 (F 316 + q) (0 + i)) l1 m1 = sumF (fun i => F (0 + i)) l1 m1 := sumF_ext _ _ (fun i hi => by
    unfold putF
    rw [if_neg (by omega), if_neg (by omega)])
  have e2 : sumF (fun i => putF (putF F (286 + s) (F (286 + s) + 1)) 316 (F 316 + q) (286 + i)) l2 m2 = sumF (fun i => if i = s then F (286 + i) + 1 else F (286 + i)) l2 m2 := sumF_ext _ _ (fun i hi => by
    unfold putF
    rw [if_neg (by omega)]
    by_cases h : i = s
    · subst h; simp
    · rw [if_neg (by omega), if_neg h])
  have e3 : putF (putF F (286 + s) (F (286 + s) + 1)) 316 (F 316 + q) 316 = F 316 + q := by unfold putF; rw [if_pos rfl]
  unfold tot
  rw [e1, e2, e3, sumF_put (fun i => F (286 + i)), if_pos hs]
  omega
theorem len_int {l : List Int} (h : Ok l) (s : Nat) : l.getD s 0 = (len l s : Int) := by
  unfold len
  have : 0 ≤ l.getD s 0 := by
    by_cases hs : s < l.length
    · rw [getD_in _ _ hs]; exact (h _ (List.getElem_mem hs)).1
    · simp [List.getD, List.getElem?_eq_none (by omega : l.length ≤ s)]
  omega
theorem tot_tok (l1 l2 : List Int) (n1 n2 : Nat) (h1 : Ok l1) (h2 : Ok l2) (F : Nat → Int) (t : Tok) (ht : TokW l1 l2 n1 n2 t) :
    tot l1 l2 (min 286 n1) (min 30 n2) (cntT F t) = tot l1 l2 (min 286 n1) (min 30 n2) F + (tokB l1 l2 t).length := by
  obtain ⟨k1, k2, k3, k4, _⟩ := ht
  have hs := fpS_lt k1 k2
  have e1 := tot_first l1 l2 (min 286 n1) (min 30 n2) F (fpS t) (fpK t) (by omega) (by omega) (by omega)
  rw [len_int h1] at e1
  unfold cntT tokB
  by_cases hz : t.len = 0
  · rw [if_pos hz, if_pos hz]
    unfold cnt1
    rw [e1]
    simp
    omega
  · rw [if_neg hz, if_neg hz]
    have hd := (dsn_in t.dist.toNat (by have := (rightT_copy k2 hz).2.2.2.1; omega)).1
    have e2 := tot_second l1 l2 (min 286 n1) (min 30 n2) (cnt1 F t) (dsn t.dist.toNat) (dstM (dsn t.dist.toNat)) (by omega) (by omega) (by have := k4 hz; omega)
    rw [len_int h2] at e2
    unfold cnt2
    rw [e2]
    unfold cnt1
    rw [e1]
    simp
    omega
theorem tot_toks (l1 l2 : List Int) (n1 n2 : Nat) (h1 : Ok l1) (h2 : Ok l2) : ∀ (l : List Tok) (F : Nat → Int), (∀ t ∈ l, TokW l1 l2 n1 n2 t) →
    tot l1 l2 (min 286 n1) (min 30 n2) (cntL l F) = tot l1 l2 (min 286 n1) (min 30 n2) F + (l.flatMap (tokB l1 l2)).length
  | [], F, _ => by simp [cntL]
  | t :: l, F, h => by
    rw [cntL, tot_toks l1 l2 n1 n2 h1 h2 l _ (fun u hu => h u (List.mem_cons_of_mem _ hu)), tot_tok l1 l2 n1 n2 h1 h2 F t (h t (List.mem_cons_self ..)), List.flatMap_cons, List.length_append]
    omega
theorem tot_cnt0 (l1 l2 : List Int) (m1 m2 : Nat) (h : Ok l1) (hm1 : 256 < m1) : tot l1 l2 m1 m2 cnt0 = len l1 256 := by
  have e1 : sumF (fun i => cnt0 (0 + i)) l1 m1 = sumF (fun i => if i = 256 then (fun _ => (0 : Int)) i + 1 else (fun _ => (0 : Int)) i) l1 m1 := sumF_ext _ _ (fun i hi => by
    unfold cnt0
    by_cases h : i = 256
    · subst h; rfl
    · rw [if_neg (by omega), if_neg h])
  have z : ∀ (le : List Int) m, sumF (fun _ => 0) le m = 0 := fun le m => by
    induction m with
    | zero => rfl
    | succ m ih => rw [sumF, ih]; simp
  have e2 : sumF (fun i => cnt0 (286 + i)) l2 m2 = sumF (fun _ => 0) l2 m2 := sumF_ext _ _ (fun i hi => by unfold cnt0; rw [if_neg (by omega)])
  unfold tot
  rw [e1, e2, z, sumF_put, if_pos hm1, z, len_int h]
  unfold cnt0
  simp
/-- What a block of tokens takes is what its counts cost. -/
theorem block_cost (l1 l2 : List Int) (n1 n2 : Nat) (hk1 : kindOf l1 ≠ 0) (hk2 : kindOf l2 ≠ 0) (h256 : 256 < n1) (l : List Tok) (ht : ∀ t ∈ l, TokW l1 l2 n1 n2 t) (hl : Nat) :
    (hl : Int) + cntL l cnt0 316 + costK ((List.range 286).map fun i => cntL l cnt0 (0 + i)) l1 (min 286 n1) + costK ((List.range 30).map fun i => cntL l cnt0 (286 + i)) l2 (min 30 n2) = ((hl + (l.flatMap (tokB l1 l2)).length + len l1 256 : Nat) : Int) := by
  have h1 := tot_toks l1 l2 n1 n2 (right_ok hk1) (right_ok hk2) l cnt0 ht
  rw [tot_cnt0 l1 l2 _ _ (right_ok hk1) (by omega)] at h1
  rw [costK_range (fun i => cntL l cnt0 (0 + i)) l1 286 _ (by omega), costK_range (fun i => cntL l cnt0 (286 + i)) l2 30 _ (by omega)]
  unfold tot at h1
  omega
end Go.Proofs.YtkjhefjjacokjaaGreat

namespace Go.Proofs.YtkjhefjjacokjaaGreat
open Go.RowKit
set_option maxRecDepth 100000
/-- Tokens that may be counted. -/
def Tks (l : List Tok) : Prop := ∀ t ∈ l, t.lit < 256 ∧ rightT t = true
theorem put_ok {F : Nat → Int} {M N : Int} (h : CntOk F M) (k : Nat) (v : Int) (h0 : 0 ≤ v) (h1 : v ≤ M + N) (hN : 0 ≤ N) : CntOk (putF F k v) (M + N) := by
  intro i
  have := h i
  unfold putF
  split <;> omega
theorem cnt1_ok {F : Nat → Int} {M : Int} (h : CntOk F M) (t : Tok) (hr : rightT t = true) : CntOk (cnt1 F t) (M + 6) := by
  have a := h (fpS t); have b := h 316; have c := fpK_le hr
  unfold cnt1
  have h1 := put_ok (N := 1) h (fpS t) (F (fpS t) + 1) (by omega) (by omega) (by omega)
  have := put_ok (N := 5) h1 316 (F 316 + fpK t) (by omega) (by omega) (by omega)
  exact this.mono (by omega)
theorem cntT_ok {F : Nat → Int} {M : Int} (h : CntOk F M) (t : Tok) (hr : rightT t = true) : CntOk (cntT F t) (M + 20) := by
  have h1 := cnt1_ok h t hr
  unfold cntT
  split
  · exact h1.mono (by omega)
  · rename_i hz
    have c := dsM_le (d := t.dist.toNat) (by have := (rightT_copy hr hz).2.2.2.1; omega)
    unfold cnt2
    have a := h1 (286 + dsn t.dist.toNat); have b := h1 316
    have h2 := put_ok (N := 1) h1 (286 + dsn t.dist.toNat) (cnt1 F t (286 + dsn t.dist.toNat) + 1) (by omega) (by omega) (by omega)
    have := put_ok (N := 13) h2 316 (cnt1 F t 316 + dstM (dsn t.dist.toNat)) (by omega) (by omega) (by omega)
    exact this.mono (by omega)
theorem cntL_ok : ∀ (l : List Tok) (F : Nat → Int) (M : Int), CntOk F M → Tks l → CntOk (cntL l F) (M + 20 * l.length)
  | [], F, M, h, _ => h.mono (by simp)
  | t :: l, F, M, h, hl => by
    have := cntL_ok l (cntT F t) (M + 20) (cntT_ok h t (hl t (List.mem_cons_self ..)).2) (fun u hu => hl u (List.mem_cons_of_mem _ hu))
    rw [cntL]
    exact this.mono (by simp only [List.length_cons]; omega)
theorem cnt0_ok : CntOk cnt0 1 := fun i => by unfold cnt0; split <;> omega
theorem put_le (F : Nat → Int) (k : Nat) (v : Int) (h : F k ≤ v) (i : Nat) : F i ≤ putF F k v i := by
  unfold putF
  split
  · rename_i e; rw [e]; exact h
  · exact Int.le_refl _
theorem cnt1_le (F : Nat → Int) (t : Tok) (hs : fpS t < 286) (i : Nat) : F i ≤ cnt1 F t i := by
  unfold cnt1
  refine Int.le_trans (put_le F (fpS t) (F (fpS t) + 1) (by omega) i) (put_le _ 316 _ ?_ i)
  unfold putF
  rw [if_neg (by omega)]
  omega
theorem cnt2_le (F : Nat → Int) (d : Nat) (hd : dsn d < 30) (i : Nat) : F i ≤ cnt2 F d i := by
  unfold cnt2
  refine Int.le_trans (put_le F (286 + dsn d) (F (286 + dsn d) + 1) (by omega) i) (put_le _ 316 _ ?_ i)
  unfold putF
  rw [if_neg (by omega)]
  omega
theorem dsn_tok {t : Tok} (hr : rightT t = true) (hz : t.len ≠ 0) : dsn t.dist.toNat < 30 := (dsn_in t.dist.toNat (by have := (rightT_copy hr hz).2.2.2.1; omega)).1
theorem cntT_le (F : Nat → Int) (t : Tok) (hl : t.lit < 256) (hr : rightT t = true) (i : Nat) : F i ≤ cntT F t i := by
  have h1 := cnt1_le F t (fpS_lt hl hr) i
  unfold cntT
  split
  · exact h1
  · rename_i hz
    exact Int.le_trans h1 (cnt2_le _ _ (dsn_tok hr hz) i)
theorem cntL_le : ∀ (l : List Tok) (F : Nat → Int), Tks l → ∀ i, F i ≤ cntL l F i
  | [], F, _, i => Int.le_refl _
  | t :: l, F, h, i => by
    rw [cntL]
    have ht := h t (List.mem_cons_self ..)
    exact Int.le_trans (cntT_le F t ht.1 ht.2 i) (cntL_le l _ (fun u hu => h u (List.mem_cons_of_mem _ hu)) i)
theorem cntT_sign {F : Nat → Int} {M : Int} (h : CntOk F M) (t : Tok) (hl : t.lit < 256) (hr : rightT t = true) : 1 ≤ cntT F t (fpS t) ∧ (t.len ≠ 0 → 1 ≤ cntT F t (286 + dsn t.dist.toNat)) := by
  have hs := fpS_lt hl hr
  have a := h (fpS t)
  have e1 : cnt1 F t (fpS t) = F (fpS t) + 1 := by unfold cnt1 putF; rw [if_neg (by omega), if_pos rfl]
  unfold cntT
  by_cases hz : t.len = 0
  · rw [if_pos hz]
    exact ⟨by omega, fun h => absurd hz h⟩
  · rw [if_neg hz]
    have hd := dsn_tok hr hz
    have h2 := cnt2_le (cnt1 F t) t.dist.toNat hd (fpS t)
    have b := cnt1_ok h t hr (286 + dsn t.dist.toNat)
    have e2 : cnt2 (cnt1 F t) t.dist.toNat (286 + dsn t.dist.toNat) = cnt1 F t (286 + dsn t.dist.toNat) + 1 := by unfold cnt2 putF; rw [if_neg (by omega), if_pos rfl]
    exact ⟨by omega, fun _ => by omega⟩
theorem cntL_sign : ∀ (l : List Tok) (F : Nat → Int) (M : Int), CntOk F M → Tks l → ∀ t ∈ l, 1 ≤ cntL l F (fpS t) ∧ (t.len ≠ 0 → 1 ≤ cntL l F (286 + dsn t.dist.toNat))
  | [], _, _, _, _, t, ht => by cases ht
  | u :: l, F, M, h, hl, t, ht => by
    have hu := hl u (List.mem_cons_self ..)
    have hl' : Tks l := fun v hv => hl v (List.mem_cons_of_mem _ hv)
    rw [cntL]
    rcases List.mem_cons.1 ht with rfl | ht
    · have h1 := cntT_sign h t hu.1 hu.2
      exact ⟨Int.le_trans h1.1 (cntL_le l _ hl' _), fun hz => Int.le_trans (h1.2 hz) (cntL_le l _ hl' _)⟩
    · exact cntL_sign l _ _ (cntT_ok h u hu.2) hl' t ht
/-- Noughts at the end don't matter. -/
theorem words_zeros (n : Nat) : words (List.replicate n 0) = 0 ∧ weight (List.replicate n 0) = 0 ∧ ones (List.replicate n 0) = 0 := by
  induction n with
  | zero => exact ⟨rfl, rfl, rfl⟩
  | succ n ih => rw [List.replicate_succ]; simp [words, weight, ones, wt, ih]
theorem kind_zeros (l : List Int) (n : Nat) : kindOf (l ++ List.replicate n 0) = kindOf l := by
  obtain ⟨z1, z2, z3⟩ := words_zeros n
  rw [kind_doc, kind_doc, words_append, weight_append, ones_append, z1, z2, z3, Nat.add_zero, Nat.add_zero, Nat.add_zero]
  have e : Ok (l ++ List.replicate n 0) ↔ Ok l := by
    constructor
    · intro h x hx; exact h x (List.mem_append_left _ hx)
    · intro h x hx
      rcases List.mem_append.1 hx with hx | hx
      · exact h x hx
      · rw [List.eq_of_mem_replicate hx]; omega
  by_cases h : Ok l
  · rw [if_pos h, if_pos (e.2 h)]
  · rw [if_neg h, if_neg (fun k => h (e.1 k))]
theorem take_zeros (l : List Int) (q : Nat) (h : ∀ j, q ≤ j → j < l.length → l.getD j 0 = 0) : l = l.take q ++ List.replicate (l.length - q) 0 := by
  conv => lhs; rw [← List.take_append_drop q l]
  congr 1
  apply List.ext_getElem
  · simp
  · intro i h1 h2
    have hi : q + i < l.length := by simp at h1; omega
    have := h (q + i) (by omega) hi
    rw [getD_in _ _ hi] at this
    simp [this]
theorem kind_trim (l : List Int) (least : Nat) : kindOf (l.take (trimN l least l.length)) = kindOf l := by
  conv => rhs; rw [take_zeros l (trimN l least l.length) (fun j h1 h2 => trimN_zero l least l.length j h1 h2)]
  rw [kind_zeros]
theorem len_take (l : List Int) (q s : Nat) (h : s < q) : len (l.take q) s = len l s := by
  unfold len
  simp [List.getD, h]
theorem trim_word (l : List Int) (least s : Nat) (hs : s < l.length) (h : len l s ≠ 0) : s < trimN l least l.length ∧ len (l.take (trimN l least l.length)) s ≠ 0 := by
  have h1 : s < trimN l least l.length := by
    rcases Nat.lt_or_ge s (trimN l least l.length) with h1 | h1
    · exact h1
    · exfalso
      have := trimN_zero l least l.length s h1 hs
      unfold len at h
      rw [this] at h
      exact h rfl
  exact ⟨h1, by rw [len_take _ _ _ h1]; exact h⟩
/-- The counts of right tokens. -/
structure CntW (F : Nat → Int) (l : List Tok) : Prop where
  eq : F = cntL l cnt0
  tk : Tks l
  ln : l.length ≤ 1000
section
variable {F : Nat → Int} {l : List Tok} (h : CntW F l)
include h
theorem CntW.ok (i : Nat) : 0 ≤ F i ∧ F i ≤ 65536 := by
  have := cntL_ok l cnt0 1 cnt0_ok h.tk i
  rw [h.eq]
  have := h.ln
  omega
theorem CntW.o1 : Often (sgC F) 286 15 := ⟨by simp [sgC], by omega, by omega, by omega, by omega, by omega, by intro x hx; obtain ⟨i, _, rfl⟩ := List.mem_map.1 hx; exact h.ok _⟩
theorem CntW.o2 : Often (dsC F) 30 15 := ⟨by simp [dsC], by omega, by omega, by omega, by omega, by omega, by intro x hx; obtain ⟨i, _, rfl⟩ := List.mem_map.1 hx; exact h.ok _⟩
theorem CntW.k1 : kindOf ((sgB F).take (sgN F)) ≠ 0 := by
  have := kind_trim (sgB F) 257
  rw [sgB_length] at this
  unfold sgN
  rw [this]
  exact best_ok_kind h.o1
theorem CntW.k2 : kindOf ((dsB F).take (dsN F)) ≠ 0 := by
  have := kind_trim (dsB F) 1
  rw [dsB_length] at this
  unfold dsN
  rw [this]
  exact best_ok_kind h.o2
theorem CntW.word1 (s : Nat) (hs : s < 286) (h0 : 1 ≤ F s) : s < sgN F ∧ len ((sgB F).take (sgN F)) s ≠ 0 := by
  have h1 := best_some h.o1 s hs (by simp [sgC, List.getD, hs]; omega)
  have := trim_word (sgB F) 257 s (by rw [sgB_length]; exact hs) h1
  rw [sgB_length] at this
  exact this
theorem CntW.word2 (s : Nat) (hs : s < 30) (h0 : 1 ≤ F (286 + s)) : s < dsN F ∧ len ((dsB F).take (dsN F)) s ≠ 0 := by
  have h1 := best_some h.o2 s hs (by simp [dsC, List.getD, hs]; omega)
  have := trim_word (dsB F) 1 s (by rw [dsB_length]; exact hs) h1
  rw [dsB_length] at this
  exact this
theorem CntW.toks : ∀ t ∈ l, TokW ((sgB F).take (sgN F)) ((dsB F).take (dsN F)) (sgN F) (dsN F) t := by
  intro t ht
  have hk := h.tk t ht
  have hs := cntL_sign l cnt0 1 cnt0_ok h.tk t ht
  rw [← h.eq] at hs
  exact ⟨hk.1, hk.2, h.word1 _ (fpS_lt hk.1 hk.2) hs.1, fun hz => h.word2 _ (dsn_tok hk.2 hz) (hs.2 hz), trivial⟩
theorem CntW.w256 : 256 < sgN F ∧ len ((sgB F).take (sgN F)) 256 ≠ 0 := by
  have h1 := cntL_le l cnt0 h.tk 256
  rw [← h.eq] at h1
  exact h.word1 256 (by omega) (by have : cnt0 256 = 1 := rfl; omega)
theorem CntW.hdr : HdrOk ((sgB F).take (sgN F)) ((dsB F).take (dsN F)) := by
  have a1 : sgN F ≤ 286 := trimN_le _ _ _
  have a2 : 257 ≤ sgN F := trimN_least _ _ _ (by omega)
  have a3 : dsN F ≤ 30 := trimN_le _ _ _
  have a4 : 1 ≤ dsN F := trimN_least _ _ _ (by omega)
  refine ⟨by rw [List.length_take, sgB_length]; omega, by rw [List.length_take, sgB_length]; omega, by rw [List.length_take, dsB_length]; omega, by rw [List.length_take, dsB_length]; omega, ?_⟩
  intro x hx
  rcases List.mem_append.1 hx with hx | hx
  · have := best_most h.o1 x (List.mem_of_mem_take hx)
    exact ⟨this.1, by have := this.2; omega⟩
  · have := best_most h.o2 x (List.mem_of_mem_take hx)
    exact ⟨this.1, by have := this.2; omega⟩
end

/-- The lengths of a fixed block. -/
def fxS : List Int := (List.range 288).map fixS
def fxD : List Int := (List.range 32).map fun _ => (5 : Int)
theorem fx_toks {l : List Tok} (h : Tks l) : ∀ t ∈ l, TokW fxS fxD 288 32 t := by
  intro t ht
  have hk := h t ht
  have hs := fpS_lt hk.1 hk.2
  have h1 : ∀ s, s < 286 → len fxS s ≠ 0 := fun s hs => by
    unfold len fxS
    simp [List.getD, show s < 288 by omega]
    unfold fixS
    repeat (first | omega | split)
  have h2 : ∀ s, s < 30 → len fxD s ≠ 0 := fun s hs => by
    unfold len fxD
    simp [List.getD, show s < 32 by omega]
  exact ⟨hk.1, hk.2, ⟨by omega, h1 _ hs⟩, fun hz => ⟨by have := dsn_tok hk.2 hz; omega, h2 _ (dsn_tok hk.2 hz)⟩, trivial⟩
/-- What is written of a fixed block, and of a dynamic one. -/
def fixW (l : List Tok) (last : Bool) : List Bool := headB 1 last ++ l.flatMap (tokB fxS fxD) ++ wb fxS 256
def dynW (F : Nat → Int) (l : List Tok) (last : Bool) : List Bool :=
  (headB 2 last ++ hdrL ((sgB F).take (sgN F)) ((dsB F).take (dsN F))) ++ l.flatMap (tokB ((sgB F).take (sgN F)) ((dsB F).take (dsN F))) ++ wb ((sgB F).take (sgN F)) 256
end Go.Proofs.YtkjhefjjacokjaaGreat

namespace Go.Proofs.YtkjhefjjacokjaaGreat
open Go.RowKit
set_option maxRecDepth 100000
/-- A block for these tokens: what it takes, and what it writes. -/
structure BlkAt (w : World) (V : Value) (At : Option Addr) (nt ct : Nat) (l : List Tok) (H : Bool → List Bool) (m : Nat) : Prop where
  size : ∀ b, (H b).length = m
  most : m ≤ 200000
  bits : ∀ W, Tw w W → Calls Tryz.prog 34 #[V] W fun e w' => e = .returned (.int .i64 m) ∧ Below W.heap.size W w'
  write : ∀ (W : World) (B g : Nat) (sv : Value) (bits : List Bool) (last : Bool), Tw w W → WriterAt W B g sv bits → bits.length ≤ 700000 → ToksIn W At nt ct l →
    Calls Tryz.prog 36 #[V, .pointer (some ⟨g, 0, none⟩), .slice At nt ct, .bool last] W fun e w' => e = .returned (.tuple #[]) ∧ PutPost W B g sv (bits ++ H last) w'
theorem BlkAt.tw {w w' : World} {V : Value} {At : Option Addr} {nt ct : Nat} {l : List Tok} {H : Bool → List Bool} {m : Nat} (h : BlkAt w V At nt ct l H m) (ht : Tw w w') : BlkAt w' V At nt ct l H m :=
  ⟨h.size, h.most, fun W hW => h.bits W (ht.trans hW), fun W B g sv bits last hW => h.write W B g sv bits last (ht.trans hW)⟩
theorem fx_small : (∀ x ∈ fxS, 0 ≤ x ∧ x ≤ 16) ∧ (∀ x ∈ fxD, 0 ≤ x ∧ x ≤ 16) := by
  constructor
  · intro x hx
    obtain ⟨i, _, rfl⟩ := List.mem_map.1 hx
    unfold fixS
    repeat (first | omega | split)
  · intro x hx
    obtain ⟨i, _, rfl⟩ := List.mem_map.1 hx
    omega
def fixM (l : List Tok) : Nat := 3 + (l.flatMap (tokB fxS fxD)).length + len fxS 256
/-- A fixed block's value, and what it names. -/
def FixRaw (F : Nat → Int) (C : Array Value) (w : World) : Prop :=
  ∃ g1 g2, C = blkC F (some ⟨g1, 0, none⟩) 288 288 (some ⟨g2, 0, none⟩) 32 32 (.func (.func 50) #[] #[]) ∧ Whole w g1 107 (rz 288 fixS) ∧ Whole w g2 108 (rz 32 fun _ => 5)
/-- A dynamic block's value, and what it names. -/
def DynRaw (F : Nat → Int) (C : Array Value) (w : World) : Prop :=
  ∃ A1 c1 A2 c2 g3 g4, C = blkC F A1 (sgN F) c1 A2 (dsN F) c2 (.func (.func 55) #[] #[.pointer (some ⟨g3, 0, none⟩), .pointer (some ⟨g4, 0, none⟩)]) ∧
    (∃ lo, w.ownsRow lo 3 1 (.slice A1 286 c1) 286 (iv (sgB F))) ∧ (∃ lo, w.ownsRow lo 3 1 (.slice A2 30 c2) 30 (iv (dsB F))) ∧ Whole w g3 54 #[.slice A1 (sgN F) c1] ∧ Whole w g4 54 #[.slice A2 (dsN F) c2]
theorem FixRaw.blk {F : Nat → Int} {C : Array Value} {w w' : World} (h : FixRaw F C w) {g : Nat} {cs : Array Value} (hW : Whole w g 65 cs) (ho : Only (fun i => i = g) w w') : FixRaw F C w' := by
  obtain ⟨g1, g2, h0, h1, h2⟩ := h
  exact ⟨g1, g2, h0, h1.only ho (h1.ne hW (by decide)), h2.only ho (h2.ne hW (by decide))⟩
theorem FixRaw.below {F : Nat → Int} {C : Array Value} {w w' : World} (h : FixRaw F C w) (hb : Below w.heap.size w w') : FixRaw F C w' := by
  obtain ⟨g1, g2, h0, h1, h2⟩ := h
  exact ⟨g1, g2, h0, h1.only (Only.of_below hb Nob) (fun h => h), h2.only (Only.of_below hb Nob) (fun h => h)⟩
theorem DynRaw.blk {F : Nat → Int} {C : Array Value} {w w' : World} (h : DynRaw F C w) {g : Nat} {cs : Array Value} (hW : Whole w g 65 cs) (ho : Only (fun i => i = g) w w') : DynRaw F C w' := by
  obtain ⟨A1, c1, A2, c2, g3, g4, h0, ⟨l1, h1⟩, ⟨l2, h2⟩, h3, h4⟩ := h
  exact ⟨A1, c1, A2, c2, g3, g4, h0, ⟨l1, own_only h1 ho (fun k hk e => own_ne_whole h1 hW (by decide) k hk e)⟩, ⟨l2, own_only h2 ho (fun k hk e => own_ne_whole h2 hW (by decide) k hk e)⟩, h3.only ho (h3.ne hW (by decide)), h4.only ho (h4.ne hW (by decide))⟩
theorem DynRaw.below {F : Nat → Int} {C : Array Value} {w w' : World} (h : DynRaw F C w) (hb : Below w.heap.size w w') : DynRaw F C w' := by
  obtain ⟨A1, c1, A2, c2, g3, g4, h0, ⟨l1, h1⟩, ⟨l2, h2⟩, h3, h4⟩ := h
  exact ⟨A1, c1, A2, c2, g3, g4, h0, ⟨l1, own_only h1 (Only.of_below hb Nob) (fun _ _ h => h)⟩, ⟨l2, own_only h2 (Only.of_below hb Nob) (fun _ _ h => h)⟩, h3.only (Only.of_below hb Nob) (fun h => h), h4.only (Only.of_below hb Nob) (fun h => h)⟩
theorem fixRaw_of {F : Nat → Int} {w w' : World} {e : Ending} (h : FixBlk F w e w') : ∃ C, e = .returned (.agg C) ∧ FixRaw F C w' ∧ Below w.heap.size w w' := by
  obtain ⟨g1, g2, rfl, hA, hB, _, _, hb⟩ := h
  exact ⟨_, rfl, ⟨g1, g2, rfl, hA, hB⟩, hb⟩
theorem dynRaw_of {F : Nat → Int} {w w' : World} {e : Ending} (h : DynBlk F w e w') : ∃ C, e = .returned (.agg C) ∧ DynRaw F C w' ∧ Below w.heap.size w w' := by
  obtain ⟨A1, c1, A2, c2, g3, g4, rfl, hL1, hL2, h3, h4, hb⟩ := h
  exact ⟨_, rfl, ⟨A1, c1, A2, c2, g3, g4, rfl, hL1, hL2, h3, h4⟩, hb⟩
/-- A block's cells. -/
def BlkV (C : Array Value) : Prop := C.size = 320 ∧ C.all (·.oneCell') = true ∧ (Tryz.prog.info? 65).map (·.size) = some C.size
theorem FixRaw.v {F : Nat → Int} {C : Array Value} {w : World} (h : FixRaw F C w) : BlkV C := by
  obtain ⟨g1, g2, rfl, _⟩ := h
  exact ⟨blkC_size .., blkC_one _ _ _ _ _ _ _ _ rfl, by rw [blkC_size]; exact row65⟩
theorem DynRaw.v {F : Nat → Int} {C : Array Value} {w : World} (h : DynRaw F C w) : BlkV C := by
  obtain ⟨A1, c1, A2, c2, g3, g4, rfl, _⟩ := h
  exact ⟨blkC_size .., blkC_one _ _ _ _ _ _ _ _ rfl, by rw [blkC_size]; exact row65⟩
theorem fixBlk {F : Nat → Int} {l : List Tok} (h : CntW F l) (At : Option Addr) (nt ct : Nat) (hnt : nt ≤ 1000) (C : Array Value) (w' : World) (hf : FixRaw F C w') : BlkAt w' (.agg C) At nt ct l (fixW l) (fixM l) := by
  obtain ⟨g1, g2, rfl, hA, hB⟩ := hf
  have hL1 : Lens w' (some ⟨g1, 0, none⟩) 288 288 fxS := lens_whole hA (by decide) (by decide)
  have hL2 : Lens w' (some ⟨g2, 0, none⟩) 32 32 fxD := lens_whole hB (by decide) (by decide)
  have hfl := flat_toks fxS fxD (right_ok kind_fix1) (right_ok kind_fix2) l (fun t ht => (h.tk t ht).2)
  have hc := block_cost fxS fxD 288 32 kind_fix1 kind_fix2 (by omega) l (fx_toks h.tk) 3
  have hln := h.ln
  have h15 := len_le (right_ok kind_fix1) 256
  have h15' : len fxS 256 ≤ 15 := h15
  refine ⟨?_, ?_, ?_, ?_⟩
  · intro b
    unfold fixW fixM
    rw [List.length_append, List.length_append, headB_length, wb_length]
  · unfold fixM; omega
  · intro W hW
    refine bits_fixed F h.ok (some ⟨g1, 0, none⟩) 288 288 (some ⟨g2, 0, none⟩) 32 32 fxS fxD (by simp [fxS]) (by simp [fxD]) (by omega) (by omega) fx_small.1 fx_small.2 W (hL1.tw hW) (hL2.tw hW) _ ?_
    unfold fixM
    rw [← hc, ← h.eq]
    rfl
  · intro W B g sv bits last hW hw hb' hT
    have := write_fix F (some ⟨g1, 0, none⟩) 288 288 (some ⟨g2, 0, none⟩) 32 32 fxS fxD (by simp [fxS]) (by simp [fxD]) (by omega) (by omega) kind_fix1 kind_fix2 (by omega) len_fix B g sv bits hb' last W hw At nt ct l hnt hT (fx_toks h.tk) (hL1.tw hW) (hL2.tw hW)
    unfold fixW
    simpa only [List.append_assoc] using this
def dynM (F : Nat → Int) (l : List Tok) : Nat := 3 + (hdrL ((sgB F).take (sgN F)) ((dsB F).take (dsN F))).length + (l.flatMap (tokB ((sgB F).take (sgN F)) ((dsB F).take (dsN F)))).length + len ((sgB F).take (sgN F)) 256
theorem flat_le3 (l : List Int) (rs : List Rn) (h : Ok l) (hrs : rs.length ≤ 320) : (rs.flatMap (runB l)).length ≤ 7040 := by
  have := flat_runs l h rs
  omega
theorem hdr_le {s d : List Int} (hof : (ofL (s ++ d)).length ≤ 320) : (hdrL s d).length ≤ 8000 := by
  have a := flat_le3 (lenRn s d) (ofL (s ++ d)) (right_ok (best_ok_kind (often_rn (by omega)))) hof
  have b : ((telL s d).flatMap fun n => bitsOf n.toNat 3).length = 3 * (telL s d).length := flat_len3 _
  have c : (telL s d).length ≤ 19 := by unfold telL; rw [List.length_take]; simp; omega
  unfold hdrL
  simp only [List.length_append, bitsOf_length]
  omega
theorem runG_len (x : Int) (t : Nat) (hx : 0 ≤ x) (hx2 : x ≤ 15) (ht : t ≤ 320) : ∀ (f : Nat) (p : Nat × List Rn), (runG x t f p).length ≤ p.2.length + (t - p.1)
  | 0, p => by rw [runG]; omega
  | f + 1, p => by
    rw [runG]
    split
    · rename_i h
      have h1 := stp_more x t hx hx2 ht p h
      have h2 := runG_len x t hx hx2 ht f (stp x t p)
      have h3 : (stp x t p).2.length = p.2.length + 1 := by unfold stp; simp
      omega
    · omega
theorem appR_len (x : Int) (t : Nat) (hx : 0 ≤ x) (hx2 : x ≤ 15) (ht : t ≤ 320) (h1 : 1 ≤ t) (rs : List Rn) : (appR x t rs).length ≤ rs.length + t := by
  unfold appR
  split
  · have := runG_len x t hx hx2 ht (t - 1) (1, rs ++ [⟨x, 0⟩])
    simp only [List.length_append, List.length_singleton] at this
    omega
  · have := runG_len x t hx hx2 ht t (0, rs)
    simp only at this
    omega
theorem ofG_len {l : List Int} (hb : beyondR l = false) (hl : l.length ≤ 320) : ∀ (f d : Nat) (rs : List Rn), (ofG l f d rs).length ≤ rs.length + (l.length - d)
  | 0, d, rs => by rw [ofG]; omega
  | f + 1, d, rs => by
    rw [ofG]
    split
    · rename_i h
      have hk1 := likeN_pos (l.drop d) (by rw [List.length_drop]; omega)
      have hk2 : likeN (l.drop d) ≤ l.length - d := by
        unfold likeN
        have := List.Sublist.length_le (List.takeWhile_sublist (l := l.drop d) (fun y => y == (l.drop d).getD 0 0))
        rw [List.length_drop] at this
        exact this
      have hx : 0 ≤ (l.drop d).getD 0 0 ∧ (l.drop d).getD 0 0 ≤ 15 := by
        have hd : 0 < (l.drop d).length := by rw [List.length_drop]; omega
        rw [getD_in _ _ hd]
        exact beyond_not hb (List.mem_of_mem_drop (List.getElem_mem hd))
      have h2 := appR_len _ (likeN (l.drop d)) hx.1 hx.2 (by omega) hk1 rs
      have h3 := ofG_len hb hl f (d + likeN (l.drop d)) (appR ((l.drop d).getD 0 0) (likeN (l.drop d)) rs)
      omega
    · omega
/-- There are at most as many runs as lengths. -/
theorem ofL_le {l : List Int} (hb : beyondR l = false) (hl : l.length ≤ 320) : (ofL l).length ≤ 320 := by
  have := ofG_len hb hl l.length 0 []
  unfold ofL
  simp only [List.length_nil] at this
  omega
theorem dynBlk {F : Nat → Int} {l : List Tok} (h : CntW F l) (At : Option Addr) (nt ct : Nat) (hnt : nt ≤ 1000) (C : Array Value) (w' : World) (hf : DynRaw F C w') : BlkAt w' (.agg C) At nt ct l (dynW F l) (dynM F l) := by
  obtain ⟨A1, c1, A2, c2, g3, g4, rfl, ⟨lo1, ho1⟩, ⟨lo2, ho2⟩, h3, h4⟩ := hf
  have hL1 := Lens.own ho1 (show sgN F ≤ 286 from trimN_le _ _ _)
  have hL2 := Lens.own ho2 (show dsN F ≤ 30 from trimN_le _ _ _)
  have hh := h.hdr
  obtain ⟨a1, a2, a3, a4, a5⟩ := hh
  have e1 : ((sgB F).take (sgN F)).length = sgN F := by rw [List.length_take, sgB_length]; have : sgN F ≤ 286 := trimN_le _ _ _; omega
  have e2 : ((dsB F).take (dsN F)).length = dsN F := by rw [List.length_take, dsB_length]; have : dsN F ≤ 30 := trimN_le _ _ _; omega
  have hbe : beyondR ((sgB F).take (sgN F) ++ (dsB F).take (dsN F)) = false := by
    unfold beyondR
    rw [List.any_eq_false]
    intro x hx
    have := a5 x hx
    simp
    omega
  have hH := hdr_le (ofL_le hbe (by rw [List.length_append]; omega))
  have hfl := flat_toks _ _ (right_ok h.k1) (right_ok h.k2) l (fun t ht => (h.tk t ht).2)
  have hln := h.ln
  have h15 := len_le (right_ok h.k1) 256
  have hw256 := h.w256
  have m1 : ∀ x ∈ (sgB F).take (sgN F), 0 ≤ x ∧ x ≤ 16 := fun x hx => by have := a5 x (List.mem_append_left _ hx); omega
  have m2 : ∀ x ∈ (dsB F).take (dsN F), 0 ≤ x ∧ x ≤ 16 := fun x hx => by have := a5 x (List.mem_append_right _ hx); omega
  have hc := block_cost ((sgB F).take (sgN F)) ((dsB F).take (dsN F)) (sgN F) (dsN F) h.k1 h.k2 hw256.1 l h.toks (3 + (hdrL ((sgB F).take (sgN F)) ((dsB F).take (dsN F))).length)
  have HD : ∀ (W0 : World), Tw w' W0 → ∀ (W : World) (B' g' : Nat) (sv' : Value) (bits' : List Bool) (last' : Bool), Tw W0 W → WriterAt W B' g' sv' bits' → bits'.length ≤ 790000 →
      Calls Tryz.prog 55 #[.pointer (some ⟨g', 0, none⟩), .bool last', .pointer (some ⟨g3, 0, none⟩), .pointer (some ⟨g4, 0, none⟩)] W fun e w'' => e = .returned (.tuple #[]) ∧ PutPost W B' g' sv' (bits' ++ (headB 2 last' ++ hdrL ((sgB F).take (sgN F)) ((dsB F).take (dsN F)))) w'' :=
    fun W0 h0 W B' g' sv' bits' last' hW hw hbl => head50_any B' g' sv' bits' hbl last' g3 g4 A1 (sgN F) c1 A2 (dsN F) c2 _ _ e1 e2 h.hdr W hw (h3.tw (h0.trans hW) (by decide) (by decide)) (h4.tw (h0.trans hW) (by decide) (by decide)) (hL1.tw (h0.trans hW)) (hL2.tw (h0.trans hW))
  have hHl : ∀ b, (headB 2 b ++ hdrL ((sgB F).take (sgN F)) ((dsB F).take (dsN F))).length = 3 + (hdrL ((sgB F).take (sgN F)) ((dsB F).take (dsN F))).length := fun b => by rw [List.length_append, headB_length]
  refine ⟨?_, ?_, ?_, ?_⟩
  · intro b
    unfold dynW dynM
    rw [List.length_append, List.length_append, hHl, wb_length]
  · unfold dynM; omega
  · intro W hW
    refine bits_dyn F h.ok A1 (sgN F) c1 A2 (dsN F) c2 _ _ e1 e2 (by omega) (by omega) m1 m2 W g3 g4 (fun b => headB 2 b ++ hdrL ((sgB F).take (sgN F)) ((dsB F).take (dsN F))) (3 + (hdrL ((sgB F).take (sgN F)) ((dsB F).take (dsN F))).length) (by omega) hHl (HD W hW) (hL1.tw hW) (hL2.tw hW) _ ?_
    unfold dynM
    rw [← hc, ← h.eq]
  · intro W B g sv bits last hW hw hb' hT
    have := write_dyn F A1 (sgN F) c1 A2 (dsN F) c2 _ _ e1 e2 (by omega) (by omega) h.k1 h.k2 hw256.1 hw256.2 B g sv bits hb' last W hw g3 g4 (fun b => headB 2 b ++ hdrL ((sgB F).take (sgN F)) ((dsB F).take (dsN F))) (3 + (hdrL ((sgB F).take (sgN F)) ((dsB F).take (dsN F))).length) (by omega) hHl (HD W hW) At nt ct l hnt hT h.toks (hL1.tw hW) (hL2.tw hW)
    unfold dynW
    simpa only [List.append_assoc] using this
end Go.Proofs.YtkjhefjjacokjaaGreat
