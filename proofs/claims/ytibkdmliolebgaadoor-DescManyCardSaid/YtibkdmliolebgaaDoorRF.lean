/-
  A range over a function whose iterator keeps a state of its own in cells: a law for the caller, and what an iterator must do. Conditions: as each says. Nothing of the program stands here.
-/
import Derived.Test.YtibkdmliolebgaaDoorB
import Derived.RangeFuncRecord
import Derived.RangeFuncSeq
import Derived.RangeFuncIn
import Derived.RangeFuncLeaves
import Derived.TacticsInMore
namespace Go.Proofs.YtibkdmliolebgaaDoor
open Go.RowKit

variable {P : Program} {α : Type}

/-- Of an iterator's value (function gf with what it has captured), whose own blocks are those of c: it hands out xs one by one, whatever the rounds do, if they leave the blocks of d alone. -/
def Hands (P : Program) (gf : Nat) (lb : Array Value) (c d : Nat → Prop) (enc : α → Value) (xs : List α) (W : World) : Prop :=
  ∀ (l : Nat) (J Jx : List α → World → Prop),
    (∀ pre A B, J pre A → Only c A B → J pre B) → (∀ pre A B, Jx pre A → Only c A B → Jx pre B) →
    (∀ pre x W1, J pre W1 → pre ++ [x] <+: xs → YieldAt Fence.wide 2 P l #[enc x] W1 fun e W' =>
      (e = .returned (.bool true) ∧ J (pre ++ [x]) W' ∧ W1.heap.size ≤ W'.heap.size ∧ ∀ k, d k → W'.heap[k]? = W1.heap[k]?) ∨ (e = .returned (.bool false) ∧ Jx (pre ++ [x]) W')) →
    J [] W →
    CallsIn Fence.wide 3 P gf (#[.func (.yield l) #[] #[]] ++ lb) W fun e W' => (∃ v, e = .returned v) ∧ (J xs W' ∨ ∃ pre, Jx pre W')

/-- The blocks of the iterator and of the loop's book-keeping. -/
def Sx (c : Nat → Prop) (w : World) : Nat → Prop := fun k => c k ∨ k = w.heap.size ∨ k = w.heap.size + 1

/-- How the body of a round may be left. -/
def rPost (S : Nat → Prop) (I : List α → World → Prop) (Ix : Code → List α → World → Prop) (xs : List α) (W : World) : Exit → Act → World → Prop
  | .normal, _, W' => W.heap.size ≤ W'.heap.size ∧ (∀ k, S k → W'.heap[k]? = W.heap[k]?) ∧ I xs W'
  | .ret, _, W' => W.heap.size ≤ W'.heap.size ∧ (∀ k, S k → W'.heap[k]? = W.heap[k]?) ∧ Ix .ret xs W'
  | .exit id, _, W' => W.heap.size ≤ W'.heap.size ∧ (∀ k, S k → W'.heap[k]? = W.heap[k]?) ∧ Ix (.exit id) xs W'
  | .goto t, _, W' => W.heap.size ≤ W'.heap.size ∧ (∀ k, S k → W'.heap[k]? = W.heap[k]?) ∧ Ix (.goto t) xs W'
  | .panic _, _, _ => False
  | .outgrown, _, _ => False

theorem only_putObj {S : Nat → Prop} (W : World) (r : Nat) (o : Obj) (h : S r) : Only S W (W.putObj r o) :=
  ⟨rfl, rfl, rfl, by simp, fun k _ hn => World.putObj_heap_other (fun e => hn (e ▸ h))⟩

/-- A range over such a function. -/
theorem rf_law {g : Operand} {ps : Array Tmp} {assign body : Code} {Q : Exit → Act → World → Prop} {a : Act} {w : World}
    {gf : Nat} {lb : Array Value} (hg : a.eval g = .func (.func gf) #[] lb) (eg : ∀ args w, (callFunc gf args).run P w = .ok (.enter gf args) w)
    {c d : Nat → Prop} (hc : ∀ k, c k → k < w.heap.size) (hd : ∀ k, d k → k < w.heap.size) {enc : α → Value} {xs : List α} (hseq : ∀ W1, Only Nob w W1 → Hands P gf lb c d enc xs W1) (hps : ps.size = 1)
    (I : List α → World → Prop) (Ix : Code → List α → World → Prop)
    (hI : ∀ pre A B, I pre A → Only (Sx c w) A B → I pre B) (hIx : ∀ ch pre A B, Ix ch pre A → Only (Sx c w) A B → Ix ch pre B) (h0 : I [] w) (a₁ : α → Act)
    (hassign : ∀ (l : Nat) (x : α) (W : World) (K : Act → World → Prop), K (a₁ x) W →
      assign.wpIn (Fence.wide.inRound l) 2 P (Exit.then K (fun _ _ _ => False)) { tmps := (ps.zip #[enc x]).foldl (fun t (p, v) => t.setIfInBounds p v) a.tmps, defers := [] } W)
    (hbody : ∀ (l : Nat) (pre : List α) (x : α) (W : World), I pre W → w.heap.size + 2 ≤ W.heap.size → pre ++ [x] <+: xs → body.wpIn (Fence.wide.inRound l) 2 P (rPost (Sx d w) I Ix (pre ++ [x]) W) (a₁ x) W)
    (hdone : ∀ (W : World), I xs W → W.heap[w.heap.size]? = some (.deferred (some [])) → Q .normal { a with defers := { target := .collected w.heap.size, args := #[] } :: a.defers } W)
    (hstop : ∀ (ch : Code) (pre : List α) (W : World), Ix ch pre W → W.heap[w.heap.size]? = some (.deferred (some [])) → ch.wpIn Fence.wide 3 P Q { a with defers := { target := .collected w.heap.size, args := #[] } :: a.defers } W) :
    (Code.rangeFunc g ps assign body).wpIn Fence.wide 3 P Q a w := by
  refine wpIn_rangeFunc ?_
  intro fn hfn
  obtain ⟨rec, hrec⟩ : ∃ rec : LoopState → Option Code → Loop, rec = fun st pe => { state := st, pending := pe, fn, tmps := a.tmps, params := ps, assign, body, defers := w.heap.size } := ⟨_, rfl⟩
  obtain ⟨W1, hW1⟩ : ∃ W1, (w.alloc (.deferred (some []))).alloc (.loop (rec .ready none)) = W1 := ⟨_, rfl⟩
  have hL1 : W1.heap[w.heap.size + 1]? = some (.loop (rec .ready none)) := by
    rw [← hW1]; have := World.alloc_heap_new (w.alloc (.deferred (some []))) (.loop (rec .ready none)); rwa [World.size_alloc] at this
  have hK1 : W1.heap[w.heap.size]? = some (.deferred (some [])) := by
    rw [← hW1]; exact (Below.heap_alloc _ _ _ (by simp)).trans (World.alloc_heap_new w _)
  have ho1 : Only Nob w W1 := by rw [← hW1]; exact ((Only.refl _ w).alloc _).alloc _
  have hI1 : I [] W1 := hI _ _ _ h0 (ho1.mono (fun _ _ h => h.elim))
  have hdl : ∀ k, d k → k ≠ w.heap.size ∧ k ≠ w.heap.size + 1 := fun k h => by have := hd k h; omega
  have hcl : ∀ k, c k → k ≠ w.heap.size ∧ k ≠ w.heap.size + 1 := fun k h => by have := hc k h; omega
  refine ⟨w.heap.size + 1, [{ target := .collected w.heap.size, args := #[] }], W1, { target := .fn (.func gf) lb, args := #[.func (.yield (w.heap.size + 1)) #[] #[]] }, W1, gf,
    #[.func (.yield (w.heap.size + 1)) #[] #[]] ++ lb, W1, ?_, ?_, ?_, ?_, fun _ => by omega, ?_⟩
  · rw [← hW1, hrec]; exact run_enterLoop_outer _ _ _ _ _
  · simp only [resolve, hg]
    simp [go_sem]
  · intro f' _; trivial
  · simp [invoke, go_sem, eg]
  · refine callsIn_wide.2 ((callsIn_wide (n := 3)).1 ?_)
    refine (hseq W1 ho1 (w.heap.size + 1)
      (fun pre W => I pre W ∧ W.heap[w.heap.size + 1]? = some (.loop (rec .ready none)) ∧ W.heap[w.heap.size]? = some (.deferred (some [])) ∧ w.heap.size + 2 ≤ W.heap.size)
      (fun pre W => ∃ ch, Ix ch pre W ∧ W.heap[w.heap.size + 1]? = some (.loop (rec .done (some ch))) ∧ W.heap[w.heap.size]? = some (.deferred (some [])))
      (by
        rintro pre A B ⟨hi, hl, hk, hz⟩ ho
        exact ⟨hI _ _ _ hi (ho.mono fun _ _ h => .inl h), (ho.block _ (by omega) (fun h => (hcl _ h).2 rfl)).trans hl, (ho.block _ (by omega) (fun h => (hcl _ h).1 rfl)).trans hk, Nat.le_trans hz ho.size⟩)
      (by
        rintro pre A B ⟨ch, hi, hl, hk⟩ ho
        exact ⟨ch, hIx _ _ _ _ hi (ho.mono fun _ _ h => .inl h), (ho.block _ (Array.getElem?_eq_some_iff.1 hl).1 (fun h => (hcl _ h).2 rfl)).trans hl, (ho.block _ (Array.getElem?_eq_some_iff.1 hk).1 (fun h => (hcl _ h).1 rfl)).trans hk⟩)
      ?_ ⟨hI1, hL1, hK1, by rw [← hW1]; simp⟩).mono ?_
    · rintro pre x W ⟨hi, hl, hk, hz⟩ hpre
      have hy := run_yield (P := P) (args := #[enc x]) hl (by rw [hrec]; simp [hps])
      rw [hrec] at hy
      refine ⟨fn, _, assign, body, hy, roundIn_of_wpIn hfn (hassign _ x W _ ⟨_, run_beginRound hl (by rw [hrec]), ?_⟩)⟩
      have hl2 : (W.putObj (w.heap.size + 1) (.loop { rec .ready none with state := .busy })).heap[w.heap.size + 1]? = some (.loop { rec .ready none with state := .busy }) := World.putObj_heap_same (by omega)
      have hk2 : (W.putObj (w.heap.size + 1) (.loop { rec .ready none with state := .busy })).heap[w.heap.size]? = some (.deferred (some [])) := (World.putObj_heap_other (by omega)).trans hk
      have hkc : ∀ k, d k → (W.putObj (w.heap.size + 1) (.loop { rec .ready none with state := .busy })).heap[k]? = W.heap[k]? := fun k h => World.putObj_heap_other (hdl k h).2
      refine wpIn_mono (hbody _ pre x _ (hI _ _ _ hi (only_putObj _ _ _ (.inr (.inr rfl)))) (by simpa using hz) hpre) ?_
      have fin : ∀ (jump : Option Code) (W3 : World), (∀ k, Sx d w k → W3.heap[k]? = (W.putObj (w.heap.size + 1) (.loop { rec .ready none with state := .busy })).heap[k]?) →
          (Instr.endRound (w.heap.size + 1) jump).run P W3 = .ok (.bool jump.isNone) (W3.putObj (w.heap.size + 1) (.loop (rec (if jump.isNone then .ready else .done) jump))) ∧
          (W3.putObj (w.heap.size + 1) (.loop (rec (if jump.isNone then .ready else .done) jump))).heap[w.heap.size + 1]? = some (.loop (rec (if jump.isNone then .ready else .done) jump)) ∧
          (W3.putObj (w.heap.size + 1) (.loop (rec (if jump.isNone then .ready else .done) jump))).heap[w.heap.size]? = some (.deferred (some [])) ∧
          (∀ k, d k → (W3.putObj (w.heap.size + 1) (.loop (rec (if jump.isNone then .ready else .done) jump))).heap[k]? = W.heap[k]?) := fun jump W3 hk3 => by
        have hl3 := (hk3 _ (.inr (.inr rfl))).trans hl2
        have := run_endRound (P := P) jump hl3
        rw [hrec] at this ⊢
        exact ⟨this, World.putObj_heap_same (Array.getElem?_eq_some_iff.1 hl3).1, (World.putObj_heap_other (by omega)).trans ((hk3 _ (.inr (.inl rfl))).trans hk2),
          fun k h => (World.putObj_heap_other (hdl k h).2).trans ((hk3 k (.inl h)).trans (hkc k h))⟩
      rintro e a3 W3 hp
      cases e with
      | normal =>
        obtain ⟨hz3, hk3, hi3⟩ := hp
        obtain ⟨hr, hl4, hk4, hc4⟩ := fin none W3 hk3
        exact ⟨_, _, hr, .inl ⟨rfl, ⟨hI _ _ _ hi3 (only_putObj _ _ _ (.inr (.inr rfl))), hl4, hk4, by simp at hz3 ⊢; omega⟩, by simpa using hz3, hc4⟩⟩
      | ret =>
        obtain ⟨hz3, hk3, hi3⟩ := hp
        obtain ⟨hr, hl4, hk4, hc4⟩ := fin (some .ret) W3 hk3
        exact ⟨_, _, hr, .inr ⟨rfl, .ret, hIx _ _ _ _ hi3 (only_putObj _ _ _ (.inr (.inr rfl))), hl4, hk4⟩⟩
      | exit id =>
        obtain ⟨hz3, hk3, hi3⟩ := hp
        obtain ⟨hr, hl4, hk4, hc4⟩ := fin (some (.exit id)) W3 hk3
        exact ⟨_, _, hr, .inr ⟨rfl, .exit id, hIx _ _ _ _ hi3 (only_putObj _ _ _ (.inr (.inr rfl))), hl4, hk4⟩⟩
      | goto t =>
        obtain ⟨hz3, hk3, hi3⟩ := hp
        obtain ⟨hr, hl4, hk4, hc4⟩ := fin (some (.goto t)) W3 hk3
        exact ⟨_, _, hr, .inr ⟨rfl, .goto t, hIx _ _ _ _ hi3 (only_putObj _ _ _ (.inr (.inr rfl))), hl4, hk4⟩⟩
      | panic ch => exact hp.elim
      | outgrown => exact hp.elim
    · rintro e W2 ⟨⟨v, rfl⟩, (⟨hi, hl, hk, hz⟩ | ⟨pre, ch, hi, hl, hk⟩)⟩
      · exact ⟨none, _, by have := run_endLoop (P := P) hl (by rw [hrec]; simp); rw [hrec] at this; exact this, hdone _ (hI _ _ _ hi (only_putObj _ _ _ (.inr (.inr rfl)))) ((World.putObj_heap_other (by omega)).trans hk)⟩
      · exact ⟨some ch, _, by have := run_endLoop (P := P) hl (by rw [hrec]; simp); rw [hrec] at this; exact this, hstop ch pre _ (hIx _ _ _ _ hi (only_putObj _ _ _ (.inr (.inr rfl)))) ((World.putObj_heap_other (by omega)).trans hk)⟩
end Go.Proofs.YtibkdmliolebgaaDoor
