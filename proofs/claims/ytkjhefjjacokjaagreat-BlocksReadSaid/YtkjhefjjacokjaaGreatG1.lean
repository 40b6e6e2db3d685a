/-
  The contract of fixedLengths; rows of integers in arrays. Conditions: none.
  Contracts of prefix: Put. Conditions: a right code of at most a thousand signs, at most a million bits.
  Contracts of start, codeOf, fixedBlock. Conditions: each theorem names its own.
-/
import Derived.Test.YtkjhefjjacokjaaGreatLT
import Derived.Test.YtkjhefjjacokjaaGreatW5
import Derived.Test.YtkjhefjjacokjaaGreatZ4
import Derived.Great.BuildSlice
namespace Go.Proofs.YtkjhefjjacokjaaGreat
open Go.RowKit
set_option maxRecDepth 100000
/-- A row of integers. -/
def rz (n : Nat) (f : Nat → Int) : Array Value := Array.ofFn (n := n) fun i => .int .i64 (f i.val)
theorem rz_size (n : Nat) (f : Nat → Int) : (rz n f).size = n := by simp [rz]
theorem rz_get (n : Nat) (f : Nat → Int) (i : Nat) (h : i < n) : (rz n f)[i]? = some (.int .i64 (f i)) := by
  rw [Array.getElem?_eq_getElem (by rw [rz_size]; exact h)]
  simp [rz]
theorem rz_one (n : Nat) (f : Nat → Int) : (rz n f).all (·.oneCell') = true := by
  rw [Array.all_eq_true]
  intro i h
  simp only [rz, Array.getElem_ofFn]
  rfl
theorem rz_ext (n : Nat) (f g : Nat → Int) (h : ∀ i, i < n → f i = g i) : rz n f = rz n g := by
  apply Array.ext
  · simp [rz]
  · intro i h1 h2
    rw [rz_size] at h1
    simp only [rz, Array.getElem_ofFn]
    rw [h i h1]
theorem rz_set (n : Nat) (f : Nat → Int) (k : Nat) (v : Int) : (rz n f).setIfInBounds k (.int .i64 v) = rz n (fun i => if i = k then v else f i) := by
  apply Array.ext
  · simp [rz]
  · intro i h1 h2
    have h3 : i < (rz n f).size := by simpa using h1
    rw [Array.getElem_setIfInBounds h3]
    simp only [rz, Array.getElem_ofFn]
    by_cases hi : k = i
    · subst hi; simp
    · rw [if_neg hi, if_neg (fun e => hi e.symm)]
theorem rz_const (n : Nat) (x : Int) : Array.replicate n (.int .i64 x) = rz n (fun _ => x) := by
  apply Array.ext
  · simp [rz]
  · intro i h1 h2
    simp [rz]
theorem rz_list (n : Nat) (f : Nat → Int) : (rz n f).toList = iv ((List.range n).map f) := by
  apply List.ext_getElem
  · simp [rz]
  · intro i h1 h2
    simp [rz, iv]
/-- An array is read as a row of integers. -/
theorem seen_rz {w : World} {g : Nat} {t : TypeId} {n : Nat} {f : Nat → Int} (h : Whole w g t (rz n f)) : Seen w (g + 1) 1 (some ⟨g, 0, none⟩) n n (iv ((List.range n).map f)) := by
  refine ⟨by simp, Nat.le_refl _, .inr ⟨_, rfl, fun _ => ⟨rfl, Nat.lt_succ_self _, fun j u hu => ?_⟩⟩⟩
  show _ = some u
  simp only [Nat.zero_add]
  rw [h.cell j, ← hu, ← rz_list]
  simp
theorem row86 : (Tryz.prog.info? 107).map (fun i => (i.zero, i.size)) = some (some (.agg (Array.replicate 288 (.int .i64 0))), 288) := by kernel_rfl
theorem row87 : (Tryz.prog.info? 108).map (fun i => (i.zero, i.size)) = some (some (.agg (Array.replicate 32 (.int .i64 0))), 32) := by kernel_rfl
theorem built86 : Tryz.prog.built 107 [] = some (Array.replicate 288 (.int .i64 0)) := by kernel_rfl
theorem built87 : Tryz.prog.built 108 [] = some (Array.replicate 32 (.int .i64 0)) := by kernel_rfl
theorem row59 : (Tryz.prog.info? 60).map (fun i => (i.zero, i.size)) = some (some (.agg (Array.replicate 317 (.int .i64 0))), 317) := by kernel_rfl
/-- The lengths of a fixed block's signs. -/
def fixS (i : Nat) : Int := if i ≤ 143 then 8 else if i ≤ 255 then 9 else if i ≤ 279 then 7 else 8
/-- Two arrays while they are filled. -/
def FixAt (w : World) (k j : Nat) (wr : World) : Prop :=
  Whole wr w.heap.size 107 (rz 288 fun i => if i < k then fixS i else 0) ∧ Whole wr (w.heap.size + 1) 108 (rz 32 fun i => if i < j then 5 else 0) ∧ Below w.heap.size w wr
theorem FixAt.put1 {w wr : World} {k : Nat} (h : FixAt w k 0 wr) (hk : k < 288) (v : Int) (hv : fixS k = v) : FixAt w (k + 1) 0 (wr.setCell ⟨w.heap.size, k, none⟩ (.int .i64 v)) := by
  have h1 := h.1.put k (.int .i64 v)
  rw [rz_set] at h1
  refine ⟨?_, h.2.1.far (by simp) _, h.2.2.setCell (by simp) _⟩
  rw [rz_ext 288 _ (fun i => if i = k then v else if i < k then fixS i else 0)]
  · exact h1
  · intro i hi
    by_cases e : i = k
    · subst e; simp [hv]
    · rw [if_neg e]
      by_cases e2 : i < k
      · rw [if_pos e2, if_pos (by omega)]
      · rw [if_neg e2, if_neg (by omega)]
theorem FixAt.put2 {w wr : World} {j : Nat} (h : FixAt w 288 j wr) (hj : j < 32) : FixAt w 288 (j + 1) (wr.setCell ⟨w.heap.size + 1, j, none⟩ (.int .i64 5)) := by
  have h1 := h.2.1.put j (.int .i64 5)
  rw [rz_set] at h1
  refine ⟨h.1.far (by simp) _, ?_, h.2.2.setCell (by simp) _⟩
  rw [rz_ext 32 _ (fun i => if i = j then 5 else if i < j then 5 else 0)]
  · exact h1
  · intro i hi
    by_cases e : i = j
    · subst e; simp
    · rw [if_neg e]
      by_cases e2 : i < j
      · rw [if_pos e2, if_pos (by omega)]
      · rw [if_neg e2, if_neg (by omega)]
theorem fix_start (w : World) : FixAt w 0 0 ((((w.alloc (.cells (rz 288 fun _ => 0) 107)).alloc (.cells (rz 32 fun _ => 0) 108)).setRow w.heap.size (rz 288 fun _ => 0)).setRow (w.heap.size + 1) (rz 32 fun _ => 0)) := by
  have e1 : (rz 288 fun i => if i < 0 then fixS i else 0) = rz 288 fun _ => 0 := rz_ext _ _ _ (fun i _ => by simp)
  have e2 : (rz 32 fun i => if i < 0 then (5 : Int) else 0) = rz 32 fun _ => 0 := rz_ext _ _ _ (fun i _ => by simp)
  unfold FixAt
  rw [e1, e2]
  refine ⟨Whole.setRow_far (Whole.setRow (cs := rz 288 fun _ => 0) ((Whole.new w 107 _).alloc _) _) _ (by omega), Whole.setRow (cs := rz 32 fun _ => 0) (Whole.setRow_far ?_ _ (by omega)) _, ?_⟩
  · have := Whole.new (w.alloc (.cells (rz 288 fun _ => 0) 107)) 108 (rz 32 fun _ => 0)
    simpa using this
  · exact below_setRow (below_setRow (((Below.refl _ _).alloc (Nat.le_refl _) _).alloc (by simp) _) _ (Nat.le_refl _)) _ (by omega)
/-- What fixedLengths answers. -/
def FixRes (w : World) (e : Ending) (w' : World) : Prop :=
  e = .returned (.tuple #[.slice (some ⟨w.heap.size, 0, none⟩) 288 288, .slice (some ⟨w.heap.size + 1, 0, none⟩) 32 32]) ∧ Whole w' w.heap.size 107 (rz 288 fixS) ∧ Whole w' (w.heap.size + 1) 108 (rz 32 fun _ => 5) ∧ Below w.heap.size w w'
theorem at86 (w : World) (cs ds : Array Value) : ((w.alloc (.cells cs 107)).alloc (.cells ds 108)).heap[w.heap.size]? = some (.cells cs 107 (0, 0)) := ((Whole.new w 107 cs).alloc (.cells ds 108))
theorem at87 (w : World) (cs cs' ds : Array Value) : (((w.alloc (.cells cs 107)).alloc (.cells ds 108)).setRow w.heap.size cs').heap[w.heap.size + 1]? = some (.cells ds 108 (0, 0)) := by
  have h : Whole ((w.alloc (.cells cs 107)).alloc (.cells ds 108)) (w.heap.size + 1) 108 ds := by
    have := Whole.new (w.alloc (.cells cs 107)) 108 ds
    simpa using this
  exact h.setRow_far cs' (by omega)
set_option maxHeartbeats 4000000 in
theorem fixedLengths_any (w : World) : Calls Tryz.prog 49 #[] w (FixRes w) := by
  have hz1 : ∀ W, (zeroValue 107).run Tryz.prog W = .ok (.agg (rz 288 fun _ => 0)) W := by rw [← rz_const]; exact (zero_of_info row86).1
  have hz2 : ∀ W, (zeroValue 108).run Tryz.prog W = .ok (.agg (rz 32 fun _ => 0)) W := by rw [← rz_const]; exact (zero_of_info row87).1
  have hb1 : ∀ W, (Instr.build 107 #[]).run Tryz.prog W = .ok (.agg (rz 288 fun _ => 0)) W := fun W => by rw [← rz_const]; exact run_build W 107 #[] _ built86
  have hb2 : ∀ W, (Instr.build 108 #[]).run Tryz.prog W = .ok (.agg (rz 32 fun _ => 0)) W := fun W => by rw [← rz_const]; exact run_build W 108 #[] _ built87
  have HI1 := Lib.hid (fun f => show (Tryz.prog.info? 107).map (·.size) = some (rz 288 f).size by rw [rz_size]; exact (zero_of_info row86).2)
  have HI2 := Lib.hid (fun f => show (Tryz.prog.info? 108).map (·.size) = some (rz 32 f).size by rw [rz_size]; exact (zero_of_info row87).2)
  go_enter Tryz.func49, Tryz.ntmps49
  go_wp2_with (with_reducible first
    | (refine wpList_store_row rfl 107 (.tmp 2) (.tmp 6) rfl w.heap.size (rz 288 fun _ => 0) rfl rfl 107 (rz 288 fun _ => 0) (at86 w _ _) (HI1.out _) rfl (rz_one _ _) ?_)
    | (refine wpList_store_row rfl 108 (.tmp 3) (.tmp 7) rfl (w.heap.size + 1) (rz 32 fun _ => 0) rfl rfl 108 (rz 32 fun _ => 0) (at87 w _ _ _) (HI2.out _) rfl (rz_one _ _) ?_))
  have h0 := fix_start w
  generalize (((w.alloc (.cells (rz 288 fun _ => 0) 107)).alloc (.cells (rz 32 fun _ => 0) 108)).setRow w.heap.size (rz 288 fun _ => 0)).setRow (w.heap.size + 1) (rz 32 fun _ => 0) = W at *
  have H0 := Lib.hid h0; clear h0
  clear hz1 hz2 hb1 hb2
  go_loopw [4, 8] (fun _ i wr => ∃ k : Nat, k ≤ 288 ∧ i = .int .i64 k ∧ FixAt w k 0 wr) (fun _ i _ => 288 - (intOf i).toNat)
  case atStart => exact ⟨0, Nat.zero_le _, rfl, H0.out⟩
  case round =>
    obtain ⟨k, hk, rfl, hin⟩ := hrel
    by_cases hlt : k < 288
    · obtain ⟨old, hold⟩ : ∃ old, wr.cell? ⟨w.heap.size, k, none⟩ = some old := ⟨_, (hin.1.cell k).trans (rz_get _ _ k hlt)⟩
      have hfz := hin.1.frozen k
      have HIn := Lib.hid hin; clear hin
      have k0 : (0 : Int) ≤ k := by omega
      have kl : (k : Int) < 288 := by omega
      by_cases h143 : k ≤ 143
      · have d1 : decide ((k : Int) ≤ 143) = true := decide_eq_true (by omega)
        have e : fixS k = 8 := if_pos h143
        have hp := Lib.hid (HIn.out.put1 hlt 8 e)
        clear h143
        go_wp2_with fail
        go_roundw
        case rel => exact ⟨k + 1, by omega, by go_num, hp.out⟩
        case measure => simp [intOf]; omega
      · have d1 : decide ((k : Int) ≤ 143) = false := decide_eq_false (by omega)
        by_cases h255 : k ≤ 255
        · have d2 : decide ((k : Int) ≤ 255) = true := decide_eq_true (by omega)
          have e : fixS k = 9 := by unfold fixS; rw [if_neg h143, if_pos h255]
          have hp := Lib.hid (HIn.out.put1 hlt 9 e)
          clear h143 h255
          go_wp2_with fail
          go_roundw
          case rel => exact ⟨k + 1, by omega, by go_num, hp.out⟩
          case measure => simp [intOf]; omega
        · have d2 : decide ((k : Int) ≤ 255) = false := decide_eq_false (by omega)
          by_cases h279 : k ≤ 279
          · have d3 : decide ((k : Int) ≤ 279) = true := decide_eq_true (by omega)
            have e : fixS k = 7 := by unfold fixS; rw [if_neg h143, if_neg h255, if_pos h279]
            have hp := Lib.hid (HIn.out.put1 hlt 7 e)
            clear h143 h255 h279
            go_wp2_with fail
            go_roundw
            case rel => exact ⟨k + 1, by omega, by go_num, hp.out⟩
            case measure => simp [intOf]; omega
          · have d3 : decide ((k : Int) ≤ 279) = false := decide_eq_false (by omega)
            have e : fixS k = 8 := by unfold fixS; rw [if_neg h143, if_neg h255, if_neg h279]
            have hp := Lib.hid (HIn.out.put1 hlt 8 e)
            clear h143 h255 h279
            go_wp2_with fail
            go_roundw
            case rel => exact ⟨k + 1, by omega, by go_num, hp.out⟩
            case measure => simp [intOf]; omega
    · obtain rfl : k = 288 := by omega
      have HIn := Lib.hid hin; clear hin
      go_wp2_with fail
      go_loopw [5, 29] (fun _ i wr => ∃ k : Nat, k ≤ 32 ∧ i = .int .i64 k ∧ FixAt w 288 k wr) (fun _ i _ => 32 - (intOf i).toNat)
      case atStart => exact ⟨0, Nat.zero_le _, rfl, HIn.out⟩
      case round =>
        obtain ⟨j, hj, rfl, hin⟩ := hrel
        by_cases hlt2 : j < 32
        · obtain ⟨old, hold⟩ : ∃ old, wr.cell? ⟨w.heap.size + 1, j, none⟩ = some old := ⟨_, (hin.2.1.cell j).trans (rz_get _ _ j hlt2)⟩
          have hfz := hin.2.1.frozen j
          have hp := Lib.hid (hin.put2 hlt2)
          clear hin
          have k0 : (0 : Int) ≤ j := by omega
          have kl : (j : Int) < 32 := by omega
          go_wp2_with fail
          go_roundw
          case rel => exact ⟨j + 1, by omega, by go_num, hp.out⟩
          case measure => simp [intOf]; omega
        · obtain rfl : j = 32 := by omega
          have HIn := Lib.hid hin; clear hin
          go_wp2_with fail
          go_quiet (fail)
          go_wp2_with fail
          go_ret2
          refine ⟨rfl, ?_, ?_, below_drewN HIn.out.2.2 _⟩
          · have h := HIn.out.1
            rw [rz_ext 288 _ fixS (fun i hi => if_pos hi)] at h
            exact h
          · have h := HIn.out.2.1
            rw [rz_ext 32 _ (fun _ => 5) (fun i hi => if_pos hi)] at h
            exact h
end Go.Proofs.YtkjhefjjacokjaaGreat

namespace Go.Proofs.YtkjhefjjacokjaaGreat
open Go.RowKit
theorem cc_lens (l : List Int) (n : Nat) (A1 : Option Addr) (c1 : Nat) (A2 : Option Addr) (c2 : Nat) (A3 : Option Addr) (c3 : Nat) :
    (cc l n A1 c1 A2 c2 A3 c3)[0]? = some (.slice A1 n c1) ∧ (cc l n A1 c1 A2 c2 A3 c3)[1]? = some (.slice A2 n c2) := by
  unfold cc
  rw [Array.getElem?_append_left (by simp), Array.getElem?_append_left (by simp), Array.getElem?_append_left (by simp), Array.getElem?_append_left (by simp)]
  exact ⟨rfl, rfl⟩
set_option maxHeartbeats 1000000 in
theorem codePut_yes (B g : Nat) (l : List Int) (n : Nat) (hn : l.length = n) (hr : kindOf l ≠ 0) (Bw gw : Nat) (sv : Value) (bits : List Bool) (j : Nat) (w : World) (hc : CodeAt w B g l n) (hW : WriterAt w Bw gw sv bits) (hb : bits.length ≤ 1000000)
    (hj : j < n) (h0 : len l j ≠ 0) :
    Calls Tryz.prog 63 #[.pointer (some ⟨g, 0, none⟩), .pointer (some ⟨gw, 0, none⟩), .int .i64 j] w fun e w' => e = .returned (.int .i64 0) ∧ PutPost w Bw gw sv (bits ++ wb l j) w' := by
  obtain ⟨A1, c1, A2, c2, A3, c3, h1, h2, h3, h4, h5, h6⟩ := hc
  have hcs : w.cell? ⟨g, 0, none⟩ = some (.slice A1 n c1) := (h1.cell 0).trans (cc_lens l n A1 c1 A2 c2 A3 c3).1
  have hct : w.cell? ⟨g, 1, none⟩ = some (.slice A2 n c2) := (h1.cell 1).trans (cc_lens l n A1 c1 A2 c2 A3 c3).2
  have HOK := Lib.hid (right_ok hr)
  obtain ⟨b, o, rfl, _, hcj⟩ := h4.int hn hj
  obtain ⟨b2, o2, u, rfl, _, q3, q4⟩ := h5.at hj
  have hu : u = .int .u32 (wv l j : Nat) := by
    unfold wrow at q3
    rw [mr_get _ _ _ hj, if_pos hj] at q3
    injection q3 with q3; exact q3.symm
  subst hu
  rw [len_eq HOK.out j (by omega)] at hcj
  have hl15 := len_le HOK.out j
  have hwv := wv_32768 hr j (by omega)
  have HWB : Hid (bitsOf (rev (wv l j) (len l j)) (len l j) = wb l j) := Lib.hid (by
    have h := bitsOf_num (bitsOf (wv l j) (len l j)).reverse
    rw [List.length_reverse, bitsOf_length] at h
    exact h)
  have HREV : Hid (rev (wv l j) (len l j) < 32768) := Lib.hid (by have := rev_lt (wv l j) (len l j); have := pow_le15 hl15; omega)
  have HW := Lib.hid hW; clear hW
  clear hr h1 h4 h5 h6 q3
  obtain ⟨m, hm⟩ : ∃ m, len l j = m := ⟨_, rfl⟩
  obtain ⟨x, hx⟩ : ∃ x, wv l j = x := ⟨_, rfl⟩
  rw [hm] at hcj hl15 h0 HWB HREV
  rw [hx] at q4 hwv HWB HREV
  clear hm hx
  have d0 : (m == 0) = false := by simpa using h0
  have d0' : ((m : Int) == 0) = false := by simp; omega
  go_enter Tryz.func63, Tryz.ntmps63
  go_wp2_with (first
    | (go_at_call 83; refine (reverse_yes x m (by omega) (by omega) _).mono ?_; rintro e w1 ⟨rfl, rfl⟩)
    | (go_at_call 23; refine (put_yes (rev x m) m Bw gw sv bits (by have := HREV.out; omega) (by omega) _ HW.out hb).mono ?_; rintro e w1 ⟨rfl, hP⟩; rw [HWB.out] at hP; have HP := Lib.hid hP; clear hP))
  go_ret
  exact ⟨rfl, HP.out⟩
end Go.Proofs.YtkjhefjjacokjaaGreat

namespace Go.Proofs.YtkjhefjjacokjaaGreat
open Go.RowKit
set_option maxRecDepth 100000
/-- A block's cells: counts, lengths of signs, lengths of distances, what writes the header. -/
def blkC (F : Nat → Int) (A1 : Option Addr) (n1 c1 : Nat) (A2 : Option Addr) (n2 c2 : Nat) (K : Value) : Array Value := rz 317 F ++ #[.slice A1 n1 c1, .slice A2 n2 c2, K]
theorem blkC_size (F : Nat → Int) (A1 : Option Addr) (n1 c1 : Nat) (A2 : Option Addr) (n2 c2 : Nat) (K : Value) : (blkC F A1 n1 c1 A2 n2 c2 K).size = 320 := by simp [blkC, rz_size]
theorem blkC_get (F : Nat → Int) (A1 : Option Addr) (n1 c1 : Nat) (A2 : Option Addr) (n2 c2 : Nat) (K : Value) :
    (∀ i, i < 317 → (blkC F A1 n1 c1 A2 n2 c2 K)[i]? = some (.int .i64 (F i))) ∧ (blkC F A1 n1 c1 A2 n2 c2 K)[317]? = some (.slice A1 n1 c1) ∧ (blkC F A1 n1 c1 A2 n2 c2 K)[318]? = some (.slice A2 n2 c2) ∧ (blkC F A1 n1 c1 A2 n2 c2 K)[319]? = some K := by
  refine ⟨fun i hi => ?_, ?_, ?_, ?_⟩
  · unfold blkC
    rw [Array.getElem?_append_left (by rw [rz_size]; exact hi), rz_get _ _ _ hi]
  · unfold blkC
    rw [Array.getElem?_append_right (by rw [rz_size]; omega), rz_size]; rfl
  · unfold blkC
    rw [Array.getElem?_append_right (by rw [rz_size]; omega), rz_size]; rfl
  · unfold blkC
    rw [Array.getElem?_append_right (by rw [rz_size]; omega), rz_size]; rfl
theorem blkC_one (F : Nat → Int) (A1 : Option Addr) (n1 c1 : Nat) (A2 : Option Addr) (n2 c2 : Nat) (K : Value) (hK : K.oneCell' = true) : (blkC F A1 n1 c1 A2 n2 c2 K).all (·.oneCell') = true := by
  unfold blkC
  rw [Array.all_append, rz_one]
  simp only [Bool.true_and]
  rw [Array.all_eq_true]
  intro i hi
  have h3 : i = 0 ∨ i = 1 ∨ i = 2 := by simp at hi; omega
  rcases h3 with rfl | rfl | rfl
  · rfl
  · rfl
  · exact hK
theorem row65 : (Tryz.prog.info? 65).map (·.size) = some 320 := by kernel_rfl
theorem built65 (F : Nat → Int) (A1 : Option Addr) (n1 c1 : Nat) (A2 : Option Addr) (n2 c2 : Nat) (k : FuncId) (ts q : Array Value) :
    Tryz.prog.built 65 [(0, .agg (rz 317 F)), (1, .slice A1 n1 c1), (2, .slice A2 n2 c2), (3, .func (.func k) ts q)] = some (blkC F A1 n1 c1 A2 n2 c2 (.func (.func k) ts q)) := by kernel_rfl
/-- A code of right lengths. -/
def CodeRes (w : World) (l : List Int) (n : Nat) (e : Ending) (w' : World) : Prop :=
  ∃ g, e = .returned (.pointer (some ⟨g, 0, none⟩)) ∧ CodeOwn w' w.heap.size g l n ∧ Below w.heap.size w w'
theorem codeOf_any (A : Option Addr) (n c B : Nat) (l : List Int) (hn : l.length = n) (hl : n ≤ 1000) (hr : kindOf l ≠ 0) (w : World) (hs : Seen w B 1 A n c (iv l)) (hB : B ≤ w.heap.size) :
    Calls Tryz.prog 61 #[.slice A n c] w (CodeRes w l n) := by
  have CN := Lib.hid (new_any A n c B l hn hl hr w hs hB)
  clear hr hs hn
  go_enter Tryz.func61, Tryz.ntmps61
  go_wp2_with fail
  refine CN.out.mono ?_; rintro e w1 ⟨g, rfl, hc, hb⟩
  have HC := Lib.hid hc; have HB := Lib.hid hb; clear hc hb
  go_wp2_with fail
  go_ret
  exact ⟨g, rfl, HC.out, HB.out⟩
/-- What is written at a block's beginning. -/
def headB (kind : Nat) (last : Bool) : List Bool := bitsOf (if last then 1 else 0) 1 ++ bitsOf kind 2
/-- fixedBlock's answer. -/
def FixBlk (F : Nat → Int) (w : World) (e : Ending) (w' : World) : Prop :=
  ∃ g1 g2, e = .returned (.agg (blkC F (some ⟨g1, 0, none⟩) 288 288 (some ⟨g2, 0, none⟩) 32 32 (.func (.func 50) #[] #[]))) ∧ Whole w' g1 107 (rz 288 fixS) ∧ Whole w' g2 108 (rz 32 fun _ => 5) ∧ w.heap.size ≤ g1 ∧ w.heap.size ≤ g2 ∧ Below w.heap.size w w'
set_option maxHeartbeats 1000000 in
theorem fixedBlock_any (F : Nat → Int) (w : World) : Calls Tryz.prog 25 #[.agg (rz 317 F)] w (FixBlk F w) := by
  have HI59 := Lib.hid (fun f => show (Tryz.prog.info? 60).map (·.size) = some (rz 317 f).size by rw [rz_size]; exact (zero_of_info row59).2)
  have HI65 := Lib.hid (fun F A1 n1 c1 A2 n2 c2 K => show (Tryz.prog.info? 65).map (·.size) = some (blkC F A1 n1 c1 A2 n2 c2 K).size by rw [blkC_size]; exact row65)
  have hzs : Hid (Tryz.zeroCells65.size = 320) := Lib.hid (by kernel_rfl)
  have W1 : Hid (Whole ((w.alloc (.cells (rz 317 F) 60)).alloc (.cells Tryz.zeroCells65 65)) w.heap.size 60 (rz 317 F)) := Lib.hid ((Whole.new w 60 _).alloc _)
  have W2 : Hid (Whole ((w.alloc (.cells (rz 317 F) 60)).alloc (.cells Tryz.zeroCells65 65)) (w.heap.size + 1) 65 Tryz.zeroCells65) := Lib.hid (by
    have := Whole.new (w.alloc (.cells (rz 317 F) 60)) 65 Tryz.zeroCells65
    simpa using this)
  have B1 : Hid (Below w.heap.size w ((w.alloc (.cells (rz 317 F) 60)).alloc (.cells Tryz.zeroCells65 65))) := Lib.hid (((Below.refl _ _).alloc (Nat.le_refl _) _).alloc (by simp) _)
  go_enter Tryz.func25, Tryz.ntmps25
  go_wp2_with fail
  generalize (w.alloc (.cells (rz 317 F) 60)).alloc (.cells Tryz.zeroCells65 65) = W at *
  refine (fixedLengths_any W).mono ?_
  rintro e w2 ⟨rfl, hA, hB, hb2⟩
  obtain ⟨g1, hg1⟩ : ∃ g1, W.heap.size = g1 := ⟨_, rfl⟩
  have hbs := B1.out.size
  have V1 := Lib.hid (W1.out.only (Only.of_below hb2 Nob) (fun h => h))
  have V2 := Lib.hid (W2.out.only (Only.of_below hb2 Nob) (fun h => h))
  have hlt2 := W2.out.lt
  have BB := Lib.hid (B1.out.trans (hb2.mono B1.out.size))
  rw [hg1] at hA hB hbs hlt2 ⊢
  have HA := Lib.hid hA; have HB := Lib.hid hB
  clear hA hB hb2 hg1
  obtain ⟨C, hC⟩ : ∃ C, blkC F (some ⟨g1, 0, none⟩) 288 288 (some ⟨g1 + 1, 0, none⟩) 32 32 (.func (.func 50) #[] #[]) = C := ⟨_, rfl⟩
  have hb65 := built65 F (some ⟨g1, 0, none⟩) 288 288 (some ⟨g1 + 1, 0, none⟩) 32 32 50 #[] #[]
  have hcs := HI65.out F (some ⟨g1, 0, none⟩) 288 288 (some ⟨g1 + 1, 0, none⟩) 32 32 (.func (.func 50) #[] #[])
  have hc1 := blkC_one F (some ⟨g1, 0, none⟩) 288 288 (some ⟨g1 + 1, 0, none⟩) 32 32 (.func (.func 50) #[] #[]) rfl
  have hc2 := blkC_size F (some ⟨g1, 0, none⟩) 288 288 (some ⟨g1 + 1, 0, none⟩) 32 32 (.func (.func 50) #[] #[])
  rw [hC] at hb65 hcs hc1 hc2
  obtain ⟨R, hR⟩ : ∃ R, rz 317 F = R := ⟨_, rfl⟩
  have hrs := HI59.out F
  rw [hR] at hb65 V1 hrs ⊢
  have HB65 := Lib.hid hb65; have HCS := Lib.hid hcs; have HC1 := Lib.hid hc1; have HC2 := Lib.hid hc2; have HCC := Lib.hid hC; have HRS := Lib.hid hrs
  clear hb65 hcs hc1 hc2 hC hR hrs
  go_wp2_with (first
    | (refine wpList_load_row rfl 60 (.tmp 1) rfl w.heap.size rfl 60 R (0, 0) _ V1.out Tryz.underlying60 rfl HRS.out ?_)
    | (refine wpList_buildTo rfl 65 _ rfl (some 12) rfl C ?hf ?_; case hf => simpa [Act.eval] using HB65.out)
    | (refine wpList_store_row rfl 65 (.tmp 2) (.tmp 12) rfl (w.heap.size + 1) C rfl rfl 65 Tryz.zeroCells65 V2.out HCS.out (by rw [hzs.out, HC2.out]) HC1.out ?_))
  refine bodyPost_ret (v := .agg C) (results_cell_row (p := 2) (ty := 65) rfl _ _ (w.heap.size + 1) 65 C (0, 0) _ rfl (V2.out.setRow _) Tryz.underlying65 rfl HCS.out) rfl ⟨g1, g1 + 1, by rw [HCC.out], HA.out.setRow_far _ (by omega), HB.out.setRow_far _ (by omega), by omega, by omega, below_setRow BB.out _ (by omega)⟩
end Go.Proofs.YtkjhefjjacokjaaGreat
