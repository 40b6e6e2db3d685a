/-
  A text's bytes as new memory; what is kept where only new memory is made. Conditions: none.
-/
import Derived.Test.YtmojclbejmnikaaXD
import Derived.Test.YtmojclbejmnikaaUC
import Derived.Test.YtmojclbejmnikaaE1
import Derived.Deep.DeepCutAuto
import Derived.OrdersHeld
import Derived.Deep.RegionHeld3
import Derived.Lib.ConvBytes
namespace Go.Proofs.Ytmojclbejmnikaa
open Go Go.RowKit
set_option maxRecDepth 100000

def txN (s : ByteArray) : List Nat := s.data.toList.map UInt8.toNat
theorem txN_len (s : ByteArray) : (txN s).length = s.size := by unfold txN; rw [List.length_map, Array.length_toList]; rfl
theorem Whole.bel {w w' : World} {g : Nat} {t : TypeId} {cs : Array Value} (h : Whole w g t cs) (hb : Below w.heap.size w w') : Whole w' g t cs := h.only (Only.of_below hb Nob) (fun h => h)
theorem Seen.bel {w w' : World} {size n c : Nat} {A : Option Addr} {xs : List Value} (h : Seen w w.heap.size size A n c xs) (hb : Below w.heap.size w w') : Seen w' w'.heap.size size A n c xs := (h.below hb).more hb.size
/-- Bytes that are owned. -/
def OwnB (w : World) (base n : Nat) (v : Value) (bs : List Nat) : Prop := w.ownsRow base 5 1 v n (bv bs)
theorem OwnB.bel {w w' : World} {base n : Nat} {v : Value} {bs : List Nat} (h : OwnB w base n v bs) (hb : Below w.heap.size w w') : OwnB w' base n v bs := own_only h (Only.of_below hb Nob) (fun _ _ h => h)
theorem conv_str (W : World) (s : ByteArray) : ∃ c W', (convert 9 22 (.string s)).run Try.prog W = .ok (.slice (some ⟨W.heap.size, 0, none⟩) s.size c) W' ∧ Below W.heap.size W W' ∧ Seen W' W'.heap.size 1 (some ⟨W.heap.size, 0, none⟩) s.size c (bv (txN s)) := by
  have hr := Go.Lib.run_convert_string_bytes (P := Try.prog) W 9 22 5 s Try.underlying9 Try.underlying22 Try.underlying5
  refine ⟨_, _, hr, ⟨?_, ?_, ?_, ?_, ?_⟩, ?_⟩
  · rfl
  · rfl
  · rfl
  · rw [Go.Lib.bytesWorld_size]; omega
  · intro k hk; exact Go.Lib.bytesWorld_at_old W 5 s k hk
  · refine ⟨by simp [bv, txN_len], grownCap_ge _ _ _ _, .inr ⟨_, rfl, fun _ => ⟨rfl, ?_, fun j u hu => ?_⟩⟩⟩
    · rw [Go.Lib.bytesWorld_size]; simp
    · have hj : j < (txN s).length := by
        have := (List.getElem?_eq_some_iff.1 hu).1
        simpa [bv] using this
      rw [bv_get _ _ hj] at hu
      rw [txN_len] at hj
      have h := Go.Lib.bytesWorld_cell W 5 s j hj
      simp only [Nat.zero_add]
      rw [h, ← hu]
      have hd : j < s.data.toList.length := hj
      congr 2
      simp only [txN, List.getElem_map]
      rw [List.getD_eq_getElem?_getD, List.getElem?_eq_getElem hd]
      rfl
theorem step_conv_str (w : World) {ops : Array Oper} {o : Oper} {a : Act} {K : Act → World → Prop} {Q : Exit → Act → World → Prop} {E : Prop} (hgd : o.guard = none) (x : Operand) (ho : o.op = .convert 9 22 x) (s : ByteArray) (hx : a.eval x = .string s)
    (h : ∀ c w', Below w.heap.size w w' → Seen w' w'.heap.size 1 (some ⟨w.heap.size, 0, none⟩) s.size c (bv (txN s)) → K (a.put o.dst (.slice (some ⟨w.heap.size, 0, none⟩) s.size c)) w') :
    if Region.wanted o (yielded ops a.tmps) = true then Oper.wp Try.prog o a w K Q else E := by
  have hw : Region.wanted o (yielded ops a.tmps) = true := by simp [Region.wanted, hgd]
  rw [if_pos hw]
  obtain ⟨c, w', hrun, hb, hs⟩ := conv_str w s
  unfold Oper.wp
  simp [execOp, ho, hx, hrun, Result.andThen]
  exact h c w' hb hs
end Go.Proofs.Ytmojclbejmnikaa
