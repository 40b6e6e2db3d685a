/-
  Contracts of start, codeOf, fixedBlock. Conditions: each theorem names its own.
-/
import Derived.Test.YtnnpiblnjflceaaFX
import Derived.Test.YtnnpiblnjflceaaW8
import Derived.Great.BuildSlice
namespace Go.Proofs.Ytnnpiblnjflceaa
open Go.RowKit
set_option maxRecDepth 100000

/-- A block's cells: counts, lengths of signs, lengths of distances, what writes the header. -/
def blkC (F : Nat → Int) (A1 : Option Addr) (n1 c1 : Nat) (A2 : Option Addr) (n2 c2 : Nat) (K : Value) : Array Value := rz 317 F ++ #[.slice A1 n1 c1, .slice A2 n2 c2, K]
theorem blkC_size (F : Nat → Int) (A1 : Option Addr) (n1 c1 : Nat) (A2 : Option Addr) (n2 c2 : Nat) (K : Value) : (blkC F A1 n1 c1 A2 n2 c2 K).size = 320 := by simp [blkC, rz_size]
theorem blkC_get (F : Nat → Int) (A1 : Option Addr) (n1 c1 : Nat) (A2 : Option Addr) (n2 c2 : Nat) (K : Value) :
    (∀ i, i < 317 → (blkC F A1 n1 c1 A2 n2 c2 K)[i]? = some (.int .i64 (F i))) ∧ (blkC F A1 n1 c1 A2 n2 c2 K)[317]? = some (.slice A1 n1 c1) ∧ (blkC F A1 n1 c1 A2 n2 c2 K)[318]? = some (.slice A2 n2 c2) ∧ (blkC F A1 n1 c1 A2 n2 c2 K)[319]? = some K := by
  refine ⟨fun i hi => ?_, ?_, ?_, ?_⟩
  · unfold blkC
    rw [Array.getElem?_append_left (by rw [rz_size]; exact hi), rz_get _ _ _ hi]
  · unfold blkC
    rw [Array.getElem?_append_right (by rw [rz_size]; omega), rz_size]; rfl
  · unfold blkC
    rw [Array.getElem?_append_right (by rw [rz_size]; omega), rz_size]; rfl
  · unfold blkC
    rw [Array.getElem?_append_right (by rw [rz_size]; omega), rz_size]; rfl
theorem blkC_one (F : Nat → Int) (A1 : Option Addr) (n1 c1 : Nat) (A2 : Option Addr) (n2 c2 : Nat) (K : Value) (hK : K.oneCell' = true) : (blkC F A1 n1 c1 A2 n2 c2 K).all (·.oneCell') = true := by
  unfold blkC
  rw [Array.all_append, rz_one]
  simp only [Bool.true_and]
  rw [Array.all_eq_true]
  intro i hi
  have h3 : i = 0 ∨ i = 1 ∨ i = 2 := by simp at hi; omega
  rcases h3 with rfl | rfl | rfl
  · rfl
  · rfl
  · exact hK

theorem row65 : (Try.prog.info? 65).map (·.size) = some 320 := by kernel_rfl
theorem built65 (F : Nat → Int) (A1 : Option Addr) (n1 c1 : Nat) (A2 : Option Addr) (n2 c2 : Nat) (k : FuncId) (ts q : Array Value) :
    Try.prog.built 65 [(0, .agg (rz 317 F)), (1, .slice A1 n1 c1), (2, .slice A2 n2 c2), (3, .func (.func k) ts q)] = some (blkC F A1 n1 c1 A2 n2 c2 (.func (.func k) ts q)) := by kernel_rfl

/-- A code of right lengths. -/
def CodeRes (w : World) (l : List Int) (n : Nat) (e : Ending) (w' : World) : Prop :=
  ∃ g, e = .returned (.pointer (some ⟨g, 0, none⟩)) ∧ CodeOwn w' w.heap.size g l n ∧ Below w.heap.size w w'

theorem codeOf_any (A : Option Addr) (n c B : Nat) (l : List Int) (hn : l.length = n) (hl : n ≤ 1000) (hr : kindOf l ≠ 0) (w : World) (hs : Seen w B 1 A n c (iv l)) (hB : B ≤ w.heap.size) :
    Calls Try.prog 56 #[.slice A n c] w (CodeRes w l n) := by
  have CN := Lib.hid (new_any A n c B l hn hl hr w hs hB)
  clear hr hs hn
  go_enter Try.func56, Try.ntmps56
  go_wp2_with fail
  refine CN.out.mono ?_; rintro e w1 ⟨g, rfl, hc, hb⟩
  have HC := Lib.hid hc; have HB := Lib.hid hb; clear hc hb
  go_wp2_with fail
  go_ret
  exact ⟨g, rfl, HC.out, HB.out⟩

/-- What is written at a block's beginning. -/
def headB (kind : Nat) (last : Bool) : List Bool := bitsOf (if last then 1 else 0) 1 ++ bitsOf kind 2

/-- fixedBlock's answer. -/
def FixBlk (F : Nat → Int) (w : World) (e : Ending) (w' : World) : Prop :=
  ∃ g1 g2, e = .returned (.agg (blkC F (some ⟨g1, 0, none⟩) 288 288 (some ⟨g2, 0, none⟩) 32 32 (.func (.func 47) #[] #[]))) ∧ Whole w' g1 86 (rz 288 fixS) ∧ Whole w' g2 87 (rz 32 fun _ => 5) ∧ w.heap.size ≤ g1 ∧ w.heap.size ≤ g2 ∧ Below w.heap.size w w'

set_option maxHeartbeats 1000000 in
theorem fixedBlock_any (F : Nat → Int) (w : World) : Calls Try.prog 34 #[.agg (rz 317 F)] w (FixBlk F w) := by
  have HI59 := Lib.hid (fun f => show (Try.prog.info? 59).map (·.size) = some (rz 317 f).size by rw [rz_size]; exact (zero_of_info row59).2)
  have HI65 := Lib.hid (fun F A1 n1 c1 A2 n2 c2 K => show (Try.prog.info? 65).map (·.size) = some (blkC F A1 n1 c1 A2 n2 c2 K).size by rw [blkC_size]; exact row65)
  have hzs : Hid (Try.zeroCells65.size = 320) := Lib.hid (by kernel_rfl)
  have W1 : Hid (Whole ((w.alloc (.cells (rz 317 F) 59)).alloc (.cells Try.zeroCells65 65)) w.heap.size 59 (rz 317 F)) := Lib.hid ((Whole.new w 59 _).alloc _)
  have W2 : Hid (Whole ((w.alloc (.cells (rz 317 F) 59)).alloc (.cells Try.zeroCells65 65)) (w.heap.size + 1) 65 Try.zeroCells65) := Lib.hid (by
    have := Whole.new (w.alloc (.cells (rz 317 F) 59)) 65 Try.zeroCells65
    simpa using this)
  have B1 : Hid (Below w.heap.size w ((w.alloc (.cells (rz 317 F) 59)).alloc (.cells Try.zeroCells65 65))) := Lib.hid (((Below.refl _ _).alloc (Nat.le_refl _) _).alloc (by simp) _)
  go_enter Try.func34, Try.ntmps34
  go_wp2_with fail
  generalize (w.alloc (.cells (rz 317 F) 59)).alloc (.cells Try.zeroCells65 65) = W at *
  refine (fixedLengths_any W).mono ?_
  rintro e w2 ⟨rfl, hA, hB, hb2⟩
  obtain ⟨g1, hg1⟩ : ∃ g1, W.heap.size = g1 := ⟨_, rfl⟩
  have hbs := B1.out.size
  have V1 := Lib.hid (W1.out.only (Only.of_below hb2 Nob) (fun h => h))
  have V2 := Lib.hid (W2.out.only (Only.of_below hb2 Nob) (fun h => h))
  have hlt2 := W2.out.lt
  have BB := Lib.hid (B1.out.trans (hb2.mono B1.out.size))
  rw [hg1] at hA hB hbs hlt2 ⊢
  have HA := Lib.hid hA; have HB := Lib.hid hB
  clear hA hB hb2 hg1
  obtain ⟨C, hC⟩ : ∃ C, blkC F (some ⟨g1, 0, none⟩) 288 288 (some ⟨g1 + 1, 0, none⟩) 32 32 (.func (.func 47) #[] #[]) = C := ⟨_, rfl⟩
  have hb65 := built65 F (some ⟨g1, 0, none⟩) 288 288 (some ⟨g1 + 1, 0, none⟩) 32 32 47 #[] #[]
  have hcs := HI65.out F (some ⟨g1, 0, none⟩) 288 288 (some ⟨g1 + 1, 0, none⟩) 32 32 (.func (.func 47) #[] #[])
  have hc1 := blkC_one F (some ⟨g1, 0, none⟩) 288 288 (some ⟨g1 + 1, 0, none⟩) 32 32 (.func (.func 47) #[] #[]) rfl
  have hc2 := blkC_size F (some ⟨g1, 0, none⟩) 288 288 (some ⟨g1 + 1, 0, none⟩) 32 32 (.func (.func 47) #[] #[])
  rw [hC] at hb65 hcs hc1 hc2
  obtain ⟨R, hR⟩ : ∃ R, rz 317 F = R := ⟨_, rfl⟩
  have hrs := HI59.out F
  rw [hR] at hb65 V1 hrs ⊢
  have HB65 := Lib.hid hb65; have HCS := Lib.hid hcs; have HC1 := Lib.hid hc1; have HC2 := Lib.hid hc2; have HCC := Lib.hid hC; have HRS := Lib.hid hrs
  clear hb65 hcs hc1 hc2 hC hR hrs
  go_wp2_with (first
    | (refine wpList_load_row rfl 59 (.tmp 1) rfl w.heap.size rfl 59 R (0, 0) _ V1.out Try.underlying59 rfl HRS.out ?_)
    | (refine wpList_buildTo rfl 65 _ rfl (some 12) rfl C ?hf ?_; case hf => simpa [Act.eval] using HB65.out)
    | (refine wpList_store_row rfl 65 (.tmp 2) (.tmp 12) rfl (w.heap.size + 1) C rfl rfl 65 Try.zeroCells65 V2.out HCS.out (by rw [hzs.out, HC2.out]) HC1.out ?_))
  refine bodyPost_ret (v := .agg C) (results_cell_row (p := 2) (ty := 65) rfl _ _ (w.heap.size + 1) 65 C (0, 0) _ rfl (V2.out.setRow _) Try.underlying65 rfl HCS.out) rfl ⟨g1, g1 + 1, by rw [HCC.out], HA.out.setRow_far _ (by omega), HB.out.setRow_far _ (by omega), by omega, by omega, below_setRow BB.out _ (by omega)⟩
end Go.Proofs.Ytnnpiblnjflceaa
