/-
  The program's calls of strings.Lines and strings.SplitSeq: what their iterators hand out. Conditions: texts of less than four thousand million bytes.
-/
import Derived.Test.YteadhiehhpafjaaDoorRF
import Derived.Test.YteadhiehhpafjaaDoorS
import Derived.Shelf.Abstract
import Derived.Shelf.RegionOpen
import Derived.WalkKit
import Derived.OwnWalkIn
import Derived.LoopNIn
import Derived.LoopIn
import Derived.StillTailTactics
namespace Go.Proofs.YteadhiehhpafjaaDoor
open Go Go.RowKit Go.Shelf
attribute [local go_sem] Oper.semAt_some
set_option maxRecDepth 100000

/-- The lines of a text, each with its end. -/
def lnL : List UInt8 → List (List UInt8)
  | [] => []
  | b :: l => if b = 10 then [b] :: lnL l else match lnL l with
    | [] => [[b]]
    | x :: xs => (b :: x) :: xs
theorem lnL_hit : ∀ (l : List UInt8) (i : Nat), Lib.indexByte l 10 = i → lnL l = l.take (i + 1) :: lnL (l.drop (i + 1))
  | [], i, h => by simp [Lib.indexByte] at h
  | b :: l, i, h => by
    by_cases hb : b = 10
    · rw [Lib.indexByte, if_pos (by simpa using hb)] at h
      obtain rfl : i = 0 := by omega
      simp [lnL, hb]
    · rw [Lib.indexByte, if_neg (by simpa using hb)] at h
      by_cases hm : (Lib.indexByte l 10 == -1) = true
      · rw [if_pos hm] at h; omega
      · rw [if_neg hm] at h
        have hj := Lib.indexByte_ge l 10
        have hm' : Lib.indexByte l 10 ≠ -1 := by simpa using hm
        obtain ⟨j, rfl⟩ : ∃ j, i = j + 1 := ⟨i - 1, by omega⟩
        have := lnL_hit l j (by omega)
        simp only [lnL, if_neg hb, this, List.take_succ_cons, List.drop_succ_cons]
theorem lnL_miss : ∀ (l : List UInt8), l ≠ [] → Lib.indexByte l 10 = -1 → lnL l = [l]
  | [], h, _ => absurd rfl h
  | b :: l, _, h => by
    have hb : ¬ b = 10 := by
      intro hb
      rw [Lib.indexByte, if_pos (by simpa using hb)] at h; omega
    rw [Lib.indexByte, if_neg (by simpa using hb)] at h
    have hj := Lib.indexByte_ge l 10
    by_cases hm : (Lib.indexByte l 10 == -1) = true
    · have hm' : Lib.indexByte l 10 = -1 := by simpa using hm
      cases l with
      | nil => simp [lnL, hb]
      | cons x l => rw [lnL, if_neg hb, lnL_miss (x :: l) (by simp) hm']
    · rw [if_neg hm] at h
      have hm' : Lib.indexByte l 10 ≠ -1 := by simpa using hm
      omega

def tx (l : List UInt8) : ByteArray := ⟨l.toArray⟩
theorem tx_data (s : ByteArray) : tx s.data.toList = s := by simp [tx]
theorem tx_list (l : List UInt8) : (tx l).data.toList = l := by simp [tx]
theorem tx_size (l : List UInt8) : (tx l).size = l.length := by simp [tx, ByteArray.size]
theorem tx_take (l : List UInt8) (k : Nat) : (tx l).extract 0 k = tx (l.take k) := by
  rw [tx, tx, ByteArray.extract_mk]; simp
theorem tx_drop (l : List UInt8) (k : Nat) : (tx l).extract k (tx l).size = tx (l.drop k) := by
  rw [tx_size, tx, tx, ByteArray.extract_mk]; simp [List.take_of_length_le]

/-- The text that a cell holds. -/
def textIn (w : World) (c : Nat) : Nat := match w.cell? ⟨c, 0, none⟩ with
  | some (.string r) => r.size
  | _ => 0

set_option maxHeartbeats 2000000 in
theorem lines_hands (W0 : World) (c : Nat) (s : List UInt8) (hs : s.length < 4294967281) (hc : Whole W0 c 9 #[.string (tx s)]) :
    Hands Tryd.prog 54 #[.pointer (some ⟨c, 0, none⟩)] (fun k => k = c) (fun k => k = c) (fun l => Value.string (tx l)) (lnL s) W0 := by
  intro l J Jx hJ hJx hY h0
  refine callsIn_of_wp Tryd.func54 rfl trivial ?_ rfl
  simp only [Tryd.ntmps54, List.size_toArray, List.length_cons, List.length_nil, Nat.reduceAdd, Nat.reduceSub, Array.replicate_succ, Array.replicate_zero, List.push_toArray, List.append_toArray, List.nil_append, List.cons_append]
  gi_wp2
  gi_loopw [3] (fun _ wr => ∃ pre r, r.length ≤ s.length ∧ lnL s = pre ++ lnL r ∧ Whole wr c 9 #[.string (tx r)] ∧ J pre wr)
    (fun _ wr => textIn wr c)
  case atStart => exact ⟨[], s, Nat.le_refl _, rfl, hc, h0⟩
  case round =>
    obtain ⟨pre, r, hrs, hx, hW, hJs⟩ := hrel
    have hcell := hW.cell 0
    simp only [List.getElem?_toArray, List.getElem?_cons_zero] at hcell
    have hfro := hW.frozen 0
    have hsz : (tx r).size = r.length := tx_size r
    by_cases hr : r = []
    · subst hr
      gi_wp2
      go_end0
      exact ⟨⟨_, rfl⟩, .inl (by rw [hx]; simpa [lnL] using hJs)⟩
    · have hlt : 0 < r.length := List.length_pos_iff.2 hr
      have hlt2 : decide ((0 : Int) < ((tx r).size : Int)) = true := by rw [hsz]; simpa using hlt
      have cI0 := Tryd.strings_IndexByte (tx r) 10 wr
      rw [tx_list, show ((10 : Int).toNat.toUInt8) = (10 : UInt8) from rfl] at cI0
      have hge := Lib.indexByte_ge r 10
      rcases Int.lt_or_le (Lib.indexByte r 10) 0 with hi | hi
      · have hi' : Lib.indexByte r 10 = -1 := by omega
        rw [hi'] at cI0
        have hx2 : lnL s = (pre ++ [r]) := by rw [hx, lnL_miss r hr hi']
        gi_wp2_with (refine ⟨trivial, ?_⟩; gi_at_call 55; refine (callsIn_wide.2 cI0).mono ?_; rintro e w' ⟨rfl, rfl⟩)
        have hO : Only (fun k => k = c) w' (w'.setCell { block := c, off := 0 } (.string ⟨#[]⟩)) := (Only.refl (fun k => k = c) w').setCell (p := ⟨c, 0, none⟩) (.inl rfl) _
        have hW3 : Whole (w'.setCell { block := c, off := 0 } (.string ⟨#[]⟩)) c 9 #[.string (tx [])] := hW.put 0 _
        obtain ⟨fn, tmps, assign, body, hy, hR⟩ := hY pre r _ (hJ _ _ _ hJs hO) ⟨_, by rw [hx2, List.append_nil]⟩
        generalize w'.setCell { block := c, off := 0 } (.string ⟨#[]⟩) = w3 at *
        rw [hy]
        gi_wp2
        refine hR.mono ?_
        rintro e W3 (⟨rfl, hJ3, hz3, hk3⟩ | ⟨rfl, hJx3⟩)
        · gi_wp2
          go_roundw
          case rel => exact ⟨_, [], by simp, by rw [hx2]; simp [lnL], (hk3 c rfl).trans hW3, hJ3⟩
          case measure =>
            have t0 : Whole W3 c 9 #[.string (tx [])] := (hk3 c rfl).trans hW3
            have t1 := t0.cell 0
            simp only [textIn, t1, hcell, List.getElem?_toArray, List.getElem?_cons_zero, tx_size, List.length_nil]
            omega
        · gi_wp2
          refine bodyPost_ret (results_none rfl _ _ _) rfl ?_
          exact ⟨⟨_, rfl⟩, .inr ⟨_, hJx3⟩⟩
      · obtain ⟨i, hi2⟩ : ∃ i : Nat, Lib.indexByte r 10 = i := ⟨(Lib.indexByte r 10).toNat, by omega⟩
        rw [hi2] at cI0
        have hil := (Lib.indexByte_some hi2).1
        have hil2 : i < r.length := (List.getElem?_eq_some_iff.1 hil).1
        have hx2 : lnL s = (pre ++ [r.take (i + 1)]) ++ lnL (r.drop (i + 1)) := by rw [hx, lnL_hit r i hi2]; simp
        gi_wp2_with (refine ⟨trivial, ?_⟩; gi_at_call 55; refine (callsIn_wide.2 cI0).mono ?_; rintro e w' ⟨rfl, rfl⟩)
        obtain ⟨M, hM⟩ : ∃ M, i + 1 = M := ⟨_, rfl⟩
        have q2 : IntKind.i64.wrap ((i : Int) + 1) = (M : Int) := by rw [← hM, IntWalk.i64_in _ (by omega)]; simp
        have q3 : (0 : Int) ≤ M := by omega
        have q4 : (M : Int) ≤ r.length := by omega
        have e1 : (tx r).extract 0 M = tx (r.take M) := tx_take r M
        have e2 : (tx r).extract M r.length = tx (r.drop M) := by rw [← hsz]; exact tx_drop r M
        rw [hM] at hx2
        refine wpIn_wide.2 (wp_region_still_tail 9 (by kernel_rfl) (by kernel_rfl) ?_)
        simp only [List.take_succ_cons, List.take_zero, List.drop_succ_cons, List.drop_zero]
        repeat still_step
        refine wpStill_nil ?_
        go_wp2
        have hO : Only (fun k => k = c) w' (w'.setCell { block := c, off := 0 } (.string (tx (r.drop M)))).drew := ((Only.refl (fun k => k = c) w').setCell (p := ⟨c, 0, none⟩) (.inl rfl) _).drew
        have hW3 : Whole (w'.setCell { block := c, off := 0 } (.string (tx (r.drop M)))).drew c 9 #[.string (tx (r.drop M))] := (hW.put 0 _).drew
        obtain ⟨fn, tmps, assign, body, hy, hR⟩ := hY pre (r.take M) _ (hJ _ _ _ hJs hO) ⟨_, hx2.symm⟩
        generalize (w'.setCell { block := c, off := 0 } (.string (tx (r.drop M)))).drew = w3 at *
        gi_wp2
        refine hR.mono ?_
        rintro e W3 (⟨rfl, hJ3, hz3, hk3⟩ | ⟨rfl, hJx3⟩)
        · gi_wp2
          go_roundw
          case rel => exact ⟨_, r.drop M, by simp; omega, hx2, (hk3 c rfl).trans hW3, hJ3⟩
          case measure =>
            have t0 : Whole W3 c 9 #[.string (tx (r.drop M))] := (hk3 c rfl).trans hW3
            have t1 := t0.cell 0
            simp only [textIn, t1, hcell, List.getElem?_toArray, List.getElem?_cons_zero, tx_size, List.length_drop]
            omega
        · gi_wp2
          refine bodyPost_ret (results_none rfl _ _ _) rfl ?_
          exact ⟨⟨_, rfl⟩, .inr ⟨_, hJx3⟩⟩

/-- A text cut at a sign. -/
def splF (sep : List UInt8) : Nat → List UInt8 → List (List UInt8)
  | 0, s => [s]
  | k + 1, s => if Lib.index s sep = -1 then [s] else s.take (Lib.index s sep).toNat :: splF sep k (s.drop ((Lib.index s sep).toNat + sep.length))
def splL (sep s : List UInt8) : List (List UInt8) := splF sep s.length s

set_option maxHeartbeats 4000000 in
theorem split_hands (W0 : World) (cs cp cv : Nat) (s sep : List UInt8) (hs : s.length < 4294967281) (hp : 0 < sep.length) (hp2 : sep.length < 1000) (m : Int)
    (hne : cs ≠ cp ∧ cs ≠ cv ∧ cs ≠ 1) (hm : W0.cell? ⟨1, 0, none⟩ = some (.int .i64 m))
    (hc : Whole W0 cs 9 #[.string (tx s)]) (hcp : Whole W0 cp 9 #[.string (tx sep)]) (hcv : Whole W0 cv 3 #[.int .i64 0]) :
    Hands Tryd.prog 78 #[.pointer (some ⟨cp, 0, none⟩), .pointer (some ⟨cs, 0, none⟩), .pointer (some ⟨cv, 0, none⟩)] (fun k => k = cs) (fun k => k = cs ∨ k = cp ∨ k = cv ∨ k = 1) (fun l => Value.string (tx l)) (splL sep s) W0 := by
  intro l J Jx hJ hJx hY h0
  refine callsIn_of_wp Tryd.func78 rfl trivial ?_ rfl
  simp only [Tryd.ntmps78, List.size_toArray, List.length_cons, List.length_nil, Nat.reduceAdd, Nat.reduceSub, Array.replicate_succ, Array.replicate_zero, List.push_toArray, List.append_toArray, List.nil_append, List.cons_append]
  have hsp : (tx sep).size = sep.length := tx_size sep
  have hp0 : ((sep.length : Int) == 0) = false := by rw [beq_eq_false_iff_ne]; omega
  have c1 := hc.cell 0
  have c2 := hcp.cell 0
  have c3 := hcv.cell 0
  simp only [List.getElem?_toArray, List.getElem?_cons_zero] at c1 c2 c3
  have h1 : 1 < W0.heap.size := World.block_lt_of_cell? W0 ⟨1, 0, none⟩ hm
  gi_wp2
  gi_loopw [7] (fun _ wr => ∃ pre r k, r.length ≤ s.length ∧ r.length ≤ k ∧ splL sep s = pre ++ splF sep k r ∧ Whole wr cs 9 #[.string (tx r)] ∧ Whole wr cp 9 #[.string (tx sep)] ∧ Whole wr cv 3 #[.int .i64 0] ∧ wr.heap[1]? = W0.heap[1]? ∧ J pre wr)
    (fun _ wr => textIn wr cs)
  case atStart => exact ⟨[], s, s.length, Nat.le_refl _, Nat.le_refl _, rfl, hc, hcp, hcv, rfl, h0⟩
  case round =>
    obtain ⟨pre, r, k, hrs, hrk, hx, hW, hWp, hWv, hW1, hJs⟩ := hrel
    have hcell := hW.cell 0
    have hcellp := hWp.cell 0
    have hcellv := hWv.cell 0
    simp only [List.getElem?_toArray, List.getElem?_cons_zero] at hcell hcellp hcellv
    have hfro := hW.frozen 0
    have hsz : (tx r).size = r.length := tx_size r
    have hm1 : wr.cell? ⟨1, 0, none⟩ = some (.int .i64 m) := (World.cell?_of_block (a := ⟨1, 0, none⟩) hW1).trans hm
    have cI0 := Tryd.strings_Index (tx r) (tx sep) m wr (by omega) hm1
    rw [tx_list, tx_list] at cI0
    have hge := Lib.index_ge r sep
    rcases Int.lt_or_le (Lib.index r sep) 0 with hi | hi
    · have hi' : Lib.index r sep = -1 := by omega
      rw [hi'] at cI0
      have hx2 : splL sep s = (pre ++ [r]) := by rw [hx]; cases k <;> simp [splF, hi']
      obtain ⟨fn, tmps, assign, body, hy, hR⟩ := hY pre r _ hJs ⟨[], by rw [hx2, List.append_nil]⟩
      gi_wp2_with (refine ⟨trivial, ?_⟩; gi_at_call 50; refine (callsIn_wide.2 cI0).mono ?_; rintro e w' ⟨rfl, rfl⟩)
      refine hR.mono ?_
      rintro e W3 (⟨rfl, hJ3, hz3, hk3⟩ | ⟨rfl, hJx3⟩)
      · gi_wp2
        go_end0
        exact ⟨⟨_, rfl⟩, .inl (by rw [hx2]; exact hJ3)⟩
      · gi_wp2
        go_end0
        exact ⟨⟨_, rfl⟩, .inr ⟨_, hJx3⟩⟩
    · obtain ⟨i, hi2⟩ : ∃ i : Nat, Lib.index r sep = i := ⟨(Lib.index r sep).toNat, by omega⟩
      rw [hi2] at cI0
      have hroom := Lib.index_room r sep hi
      rw [hi2] at hroom
      obtain ⟨k, rfl⟩ : ∃ k', k = k' + 1 := ⟨k - 1, by omega⟩
      obtain ⟨M, hM⟩ : ∃ M, i + sep.length = M := ⟨_, rfl⟩
      have hx2 : splL sep s = (pre ++ [r.take i]) ++ splF sep k (r.drop M) := by
        rw [hx, splF, if_neg (by omega), hi2, show (i : Int).toNat = i from rfl, hM]; simp
      have q2 : IntKind.i64.wrap ((i : Int) + 0) = (i : Int) := by rw [IntWalk.i64_in _ (by omega)]; simp
      have q5 : IntKind.i64.wrap ((i : Int) + (sep.length : Int)) = (M : Int) := by rw [← hM, IntWalk.i64_in _ (by omega)]; simp
      have q3 : (0 : Int) ≤ i := by omega
      have q4 : (i : Int) ≤ r.length := by omega
      have q6 : (0 : Int) ≤ M := by omega
      have q7 : (M : Int) ≤ r.length := by omega
      have e1 : (tx r).extract 0 i = tx (r.take i) := tx_take r i
      have e2 : (tx r).extract M r.length = tx (r.drop M) := by rw [← hsz]; exact tx_drop r M
      obtain ⟨fn, tmps, assign, body, hy, hR⟩ := hY pre (r.take i) _ hJs ⟨_, hx2.symm⟩
      gi_wp2_with (refine ⟨trivial, ?_⟩; gi_at_call 50; refine (callsIn_wide.2 cI0).mono ?_; rintro e w' ⟨rfl, rfl⟩)
      refine hR.mono ?_
      rintro e W3 (⟨rfl, hJ3, hz3, hk3⟩ | ⟨rfl, hJx3⟩)
      · have tW : Whole W3 cs 9 #[.string (tx r)] := (hk3 cs (.inl rfl)).trans hW
        have tP : Whole W3 cp 9 #[.string (tx sep)] := (hk3 cp (.inr (.inl rfl))).trans hWp
        have tV : Whole W3 cv 3 #[.int .i64 0] := (hk3 cv (.inr (.inr (.inl rfl)))).trans hWv
        have t1 := (hk3 1 (.inr (.inr (.inr rfl)))).trans hW1
        have d1 := tW.cell 0
        have d2 := tP.cell 0
        have d3 := tV.cell 0
        simp only [List.getElem?_toArray, List.getElem?_cons_zero] at d1 d2 d3
        have d4 := tW.frozen 0
        gi_wp2
        have hW4 : Whole (W3.setCell { block := cs, off := 0 } (.string (tx (r.drop M)))) cs 9 #[.string (tx (r.drop M))] := tW.put 0 _
        have hO : Only (fun k => k = cs) W3 (W3.setCell { block := cs, off := 0 } (.string (tx (r.drop M)))) := (Only.refl (fun k => k = cs) W3).setCell (p := ⟨cs, 0, none⟩) (.inl rfl) _
        have h1lt : 1 < W3.heap.size := by
          have := (Array.getElem?_eq_some_iff.1 (t1.trans (Array.getElem?_eq_getElem h1))).1; exact this
        go_roundw
        case rel => exact ⟨_, r.drop M, k, by simp; omega, by simp; omega, hx2, hW4, tP.only hO (fun e => hne.1 e.symm), tV.only hO (fun e => hne.2.1 e.symm), (hO.block 1 h1lt (fun e => hne.2.2 e.symm)).trans t1, hJ _ _ _ hJ3 hO⟩
        case measure =>
          have t5 := hW4.cell 0
          simp only [textIn, t5, hcell, List.getElem?_toArray, List.getElem?_cons_zero, tx_size, List.length_drop]
          omega
      · gi_wp2
        refine bodyPost_ret (results_none rfl _ _ _) rfl ?_
        exact ⟨⟨_, rfl⟩, .inr ⟨_, hJx3⟩⟩
end Go.Proofs.YteadhiehhpafjaaDoor
