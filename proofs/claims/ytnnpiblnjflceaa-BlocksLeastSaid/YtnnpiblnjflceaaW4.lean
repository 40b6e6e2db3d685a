/-
  Contracts of prefix: inOrder. Conditions: right lengths, at most a thousand.
-/
import Derived.Test.YtnnpiblnjflceaaW3
import Derived.Test.YtnnpiblnjflceaaZ3
namespace Go.Proofs.Ytnnpiblnjflceaa
open Go.RowKit

theorem run_index73 (R : Array Value) (k : Nat) (v : Value) (hk : k < 16) (hv : R[k]? = some v) (W : World) : (Instr.index 102 (.agg R) (.int .i64 k)).run Try.prog W = .ok v W := by
  have h2 : (0 : Int) ≤ k ∧ (k : Int) < 16 := by omega
  simp [Instr.index, asIntOf, go_sem, run_underlying Try.underlying102, h2, part, Try.sizeOf3, Try.isAgg3, hv]
  omega

/-- The signs' row. -/
def srow (l : List Int) (k : Nat) : List Value := mr (words l) fun p => .int .i64 (sg l k p : Nat)

def OrderRes (w : World) (l : List Int) (e : Ending) (w' : World) : Prop :=
  ∃ v, e = .returned v ∧ w'.ownsRow w.heap.size 3 1 v (words l) (srow l l.length) ∧ Below w.heap.size w w'

/-- Two blocks: the counts', the places'. -/
def Ord2 (w : World) (c f : Nat → Nat) (wr : World) : Prop := Whole wr w.heap.size 102 (ra c) ∧ Whole wr (w.heap.size + 1) 102 (ra f) ∧ Below w.heap.size w wr
theorem ord2_start (w : World) (c f : Nat → Nat) : Ord2 w c f (((w.alloc (.cells (ra c) 102)).alloc (.cells (ra fun _ => 0) 102)).setRow (w.heap.size + 1) (ra f)) := by
  refine ⟨((Whole.new w 102 _).alloc _).setRow_far _ (by omega), Whole.setRow (cs := ra fun _ => 0) (new2 w _ _) _, ?_⟩
  exact below_setRow (((Below.refl _ _).alloc (Nat.le_refl _) _).alloc (by simp) _) _ (by omega)
theorem Ord2.put {w wr : World} {c f : Nat → Nat} (h : Ord2 w c f wr) (k v : Nat) : Ord2 w c (fun i => if i = k then v else f i) (wr.setCell ⟨w.heap.size + 1, k, none⟩ (.int .i64 (v : Nat))) := by
  have h1 := h.2.1.put k (.int .i64 (v : Nat))
  rw [ra_set] at h1
  exact ⟨h.1.far (by simp) _, h1, h.2.2.setCell (by simp) _⟩
theorem Ord2.ext {w wr : World} {c f g : Nat → Nat} (h : Ord2 w c f wr) (he : ∀ i, i < 16 → f i = g i) : Ord2 w c g wr := by
  rw [Ord2, ← ra_ext f g he]; exact h

/-- Within inOrder: the places' block, the row. -/
def OrderIn (w : World) (l : List Int) (v : Value) (k : Nat) (wr : World) : Prop :=
  Whole wr (w.heap.size + 1) 102 (ra fun i => bas l i + ct i (l.take k)) ∧ wr.ownsRow w.heap.size 3 1 v (words l) (srow l k) ∧ Below w.heap.size w wr

set_option maxHeartbeats 1000000 in
set_option maxRecDepth 100000 in
theorem inOrder_any (A : Option Addr) (n c B : Nat) (l : List Int) (hn : l.length = n) (hl : n ≤ 1000) (hok : Ok l) (w : World) (hs : Seen w B 1 A n c (iv l)) (hB : B ≤ w.heap.size) :
    Calls Try.prog 82 #[.slice A n c, .agg (ra fun i => ct i l)] w (OrderRes w l) := by
  obtain ⟨i0, hi0, hz0, hz1, hz2⟩ := info_parts int_info
  have HS := Lib.hid hs; clear hs
  have HN := Lib.hid hn; clear hn
  have HOK := Lib.hid hok; clear hok
  have hwords : words l ≤ 1000 := by have := words_le l; have := HN.out; omega
  have hz := zero73
  have hb := build73
  have HI := Lib.hid info73
  have HZ0 := Lib.hid hz0; clear hz0
  have HZ1 := Lib.hid hz1; clear hz1
  have HZ2 := Lib.hid hz2; clear hz2
  have HI0 := Lib.hid hi0; clear hi0
  go_enter Try.func82, Try.ntmps82
  go_wp2_with (first
    | (with_reducible refine wpList_store_row rfl 102 (.tmp 5) (.tmp 12) rfl (w.heap.size + 1) (ra fun _ => 0) rfl rfl 102 (ra fun _ => 0) (new2 w _ _) (HI.out _) rfl (ra_one _) ?_)
    | (refine wpList_load_row rfl 102 (.tmp 3) rfl w.heap.size rfl 102 (ra fun i => ct i l) (0, 0) _ (ord2_start w _ _).1 Try.underlying102 rfl (HI.out _) ?_))
  have h0 := ord2_start w (fun i => ct i l) (fun _ => 0)
  generalize ((w.alloc (.cells (ra fun i => ct i l) 102)).alloc (.cells (ra fun _ => 0) 102)).setRow (w.heap.size + 1) (ra fun _ => 0) = W at *
  have H0 := Lib.hid h0; clear h0
  clear hz hb
  go_loopw [6, 7, 8, 14] (fun a _ _ i wr => ∃ k : Nat, k ≤ 16 ∧ i = .int .i64 k ∧ a = .int .i64 (bas l k : Nat) ∧ Ord2 w (fun i => ct i l) (fun i => if i < k then bas l i else 0) wr) (fun _ _ _ i _ => 16 - (intOf i).toNat)
  case atStart => exact ⟨0, Nat.zero_le _, rfl, rfl, H0.out.ext fun i _ => by rw [if_neg (Nat.not_lt_zero _)]⟩
  case round =>
    obtain ⟨k, h2, rfl, rfl, hin⟩ := hrel
    by_cases hlt : k < 16
    · have hc := ra_get (fun i => ct i l) k hlt
      have hf := hin.2.1.frozen k
      have ho : wr.cell? ⟨w.heap.size + 1, k, none⟩ = some (.int .i64 (0 : Nat)) := by
        have := (hin.2.1.cell k).trans (ra_get _ k hlt)
        rwa [if_neg (by omega)] at this
      have hb1 : bas l (k + 1) ≤ 1000 := by
        have h3 := bas_mono l (show k + 1 ≤ 16 by omega)
        rw [bas_words l HOK.out] at h3
        omega
      have E : Hid (bas l (k + 1) = bas l k + ct k l) := Lib.hid rfl
      rw [E.out] at hb1
      have HIn := Lib.hid hin; clear hin
      have HC := Lib.hid hc; clear hc
      generalize hF : bas l k = F at *
      have HF := Lib.hid hF; clear hF
      obtain ⟨C, hC⟩ : ∃ C, ct k l = C := ⟨_, rfl⟩
      have hc : (ra fun i => ct i l)[k]? = some (.int .i64 (C : Nat)) := by rw [← hC]; exact HC.out
      rw [hC] at hb1 E
      clear hC HC
      obtain ⟨R, hR⟩ : ∃ R, (ra fun i => ct i l) = R := ⟨_, rfl⟩
      rw [hR] at hc ⊢
      have hix := run_index73 R k _ hlt hc
      have HR := Lib.hid hR; clear hR hc
      go_wp2
      go_roundw
      case rel =>
        refine ⟨k + 1, by omega, by go_num, by rw [E.out]; go_num, ?_⟩
        have h3 := HIn.out.put k F
        refine h3.ext fun i hi => ?_
        by_cases hi2 : i = k
        · subst hi2; rw [if_pos rfl, if_pos (by omega), HF.out]
        · rw [if_neg hi2]
          by_cases hi3 : i < k
          · rw [if_pos hi3, if_pos (by omega)]
          · rw [if_neg hi3, if_neg (by omega)]
      case measure => simp [intOf]; omega
    · have hk16 : Hid (k = 16) := Lib.hid (by omega)
      have ek : Hid (bas l k = words l) := Lib.hid (by rw [hk16.out, bas_words l HOK.out])
      have HIn : Hid (Ord2 w (fun i => ct i l) (fun i => bas l i) wr) := Lib.hid (hin.ext fun i hi => by rw [if_pos (by have := hk16.out; omega)])
      clear hin
      rw [ek.out]
      have hsz : w.heap.size + 2 ≤ wr.heap.size := by have := HIn.out.2.1.lt; omega
      generalize hV : words l = V at hwords ⊢
      have HV := Lib.hid hV; clear hV
      go_wp2_with (refine wpList_make_full _ rfl (.tmp 25) (.tmp 25) 62 rfl w.heap.size 3 i0 _ 1 Try.underlying62 HI0.out HZ0.out HZ1.out .i64 .i64 V V V rfl rfl rfl rfl (by rw [HZ2.out]; omega) (by simp [maxLen]; omega) (by omega) ?_; intro w3 hown hg3)
      have h1 : OrderIn w l (.slice (some ⟨wr.heap.size, 0, none⟩) V V) 0 w3 := by
        refine ⟨?_, ?_, HIn.out.2.2.grown hg3 (by omega) (by simp)⟩
        · have h1 := HIn.out.2.1.grown hg3 (by simp)
          have e : (ra fun i => bas l i + ct i (l.take 0)) = ra fun i => bas l i := ra_ext _ _ fun i _ => by simp [ct]
          rw [e]; exact h1
        · have e : srow l 0 = (madeCells #[.int .i64 0] (V * 1)).toList := by
            rw [mr_made]; unfold srow; rw [HV.out]; exact mr_ext _ _ _ fun i _ => by simp [sg]
          rw [e, HV.out]
          exact hown
      have H1 := Lib.hid h1; clear h1 hown hg3
      obtain ⟨g, hg⟩ : ∃ g, wr.heap.size = g := ⟨_, rfl⟩
      rw [hg] at H1 hsz ⊢
      clear hg
      go_loopw [10, 11, 29] (fun _ _ i wr => ∃ k : Nat, k ≤ n ∧ i = .int .i64 k ∧ OrderIn w l (.slice (some ⟨g, 0, none⟩) V V) k wr) (fun _ _ i _ => n - (intOf i).toNat)
      case atStart => exact ⟨0, Nat.zero_le _, rfl, H1.out⟩
      case round =>
        obtain ⟨k, hk, rfl, hin⟩ := hrel
        by_cases hlt : k < n
        · obtain ⟨b, o, rfl, _, hc⟩ := (HS.out.below (hin.2.2.mono hB)).int HN.out hlt
          have hkl : k < l.length := by have := HN.out; omega
          have E1 := Lib.hid (fun m => ct_take m l k hkl)
          have EL := Lib.hid (len_eq HOK.out k hkl)
          have hl15 := len_le HOK.out k
          have EV : Hid (pos l k = bas l (len l k) + ct (len l k) (l.take k)) := Lib.hid rfl
          have EP := Lib.hid (pos_lt HOK.out k hkl)
          rw [EL.out] at hc
          obtain ⟨m, hm⟩ : ∃ m, len l k = m := ⟨_, rfl⟩
          rw [hm] at hc hl15
          have HM := Lib.hid hm; clear hm
          by_cases hm0 : 0 < m
          · have hm16 : m < 16 := by omega
            have hpos : pos l k < V := by have := EP.out (by rw [HM.out]; omega); rwa [HV.out] at this
            have hcm : wr.cell? ⟨w.heap.size + 1, m, none⟩ = some (.int .i64 (pos l k : Nat)) := by
              have := (hin.1.cell m).trans (ra_get _ m hm16)
              rw [EV.out, HM.out]
              exact this
            have hfm := hin.1.frozen m
            obtain ⟨u, hu⟩ : ∃ u, (srow l k)[pos l k]? = some u := ⟨_, by unfold srow; rw [HV.out]; exact mr_get _ _ _ hpos⟩
            obtain ⟨hck, hfk, _⟩ := own_cell (by have := hin.2.1; rw [HV.out] at this; exact this) hu
            have HIn := Lib.hid hin; clear hin
            obtain ⟨x, hx⟩ : ∃ x, pos l k = x := ⟨_, rfl⟩
            rw [hx] at hcm hpos hck hfk
            have HX := Lib.hid hx; clear hx hu
            go_wp2
            go_roundw
            case rel =>
              refine ⟨k + 1, by omega, by go_num, ?_, ?_, ?_⟩
              · have h1 := (HIn.out.1.far (p := ⟨g, x, none⟩) (by simp; omega) (.int .i64 (k : Nat))).put m (.int .i64 ((x + 1 : Nat) : Int))
                rw [ra_set] at h1
                have e : (ra fun i => bas l i + ct i (l.take (k + 1))) = ra (fun i => if i = m then x + 1 else bas l i + ct i (l.take k)) := ra_ext _ _ fun i hi => by
                  rw [E1.out i, EL.out, HM.out]
                  by_cases him : i = m
                  · subst him
                    rw [if_pos rfl, if_pos ⟨rfl, by omega⟩, ← HX.out, EV.out, HM.out]; omega
                  · rw [if_neg him, if_neg (by omega)]; rfl
                rw [e]
                exact h1
              · have h1 := own_put (by have := HIn.out.2.1; rw [HV.out] at this; exact this) x (.int .i64 (k : Nat))
                have e : (srow l k).set x (.int .i64 (k : Nat)) = srow l (k + 1) := by
                  unfold srow
                  rw [mr_set]
                  exact mr_ext _ _ _ fun i hi => by
                    simp only [sg, HM.out, HX.out]
                    by_cases h : i = x
                    · rw [if_pos h, if_pos ⟨by omega, h⟩]
                    · rw [if_neg h, if_neg (fun h2 => h h2.2)]
                rw [e] at h1
                have hO : Only (fun q => q = w.heap.size + 1) (wr.setCell ⟨g, x, none⟩ (.int .i64 (k : Nat))) ((wr.setCell ⟨g, x, none⟩ (.int .i64 (k : Nat))).setCell ⟨w.heap.size + 1, m, none⟩ (.int .i64 ((x : Int) + 1))) := (Only.refl (fun q => q = w.heap.size + 1) _).setCell (p := ⟨w.heap.size + 1, m, none⟩) (.inl rfl) _
                have h2 := own_only h1 hO (fun q hq => by simp [Value.ownBlock] at hq; omega)
                rw [HV.out]
                exact h2
              · exact (HIn.out.2.2.setCell (by show w.heap.size ≤ g; omega) _).setCell (by show w.heap.size ≤ w.heap.size + 1; omega) _
            case measure => simp [intOf]; omega
          · obtain rfl : m = 0 := by omega
            have HIn := Lib.hid hin; clear hin
            go_wp2
            go_roundw
            case rel =>
              refine ⟨k + 1, by omega, by go_num, ?_, ?_, HIn.out.2.2⟩
              · have e : (ra fun i => bas l i + ct i (l.take (k + 1))) = ra (fun i => bas l i + ct i (l.take k)) := ra_ext _ _ fun i hi => by
                  rw [E1.out i, EL.out, HM.out, if_neg (by omega)]; rfl
                rw [e]; exact HIn.out.1
              · have e : srow l (k + 1) = srow l k := mr_ext _ _ _ fun i hi => by
                  simp only [sg, HM.out, ne_eq, not_true_eq_false, false_and, if_false]
                rw [e]; exact HIn.out.2.1
            case measure => simp [intOf]; omega
        · obtain rfl : k = n := by omega
          have HIn := Lib.hid hin; clear hin
          go_wp2
          go_ret
          refine ⟨_, rfl, ?_, HIn.out.2.2⟩
          rw [HN.out]
          exact HIn.out.2.1
end Go.Proofs.Ytnnpiblnjflceaa
