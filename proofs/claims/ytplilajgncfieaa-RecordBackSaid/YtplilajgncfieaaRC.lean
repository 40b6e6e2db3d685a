/-
  put, of numbers that are seen, behind bytes that are seen: the bytes are named, and how many. Loads and stores of records. Conditions: as put's.
-/
import Derived.Test.YtplilajgncfieaaRB
import Derived.Deep.RegionHeld3
import Derived.Deep.DeepCutAuto
import Derived.Deep.WholeRow
import Derived.Lib.AppendStr
namespace Go.Proofs.Ytplilajgncfieaa
open Go.RowKit

/-- A new block with just these bytes, of which there are n. -/
def GivesN (w : World) (n : Nat) (bs : List Nat) (e : Ending) (w' : World) : Prop :=
  ∃ g, e = .returned (.slice (some ⟨g, 0, none⟩) n n) ∧ Whole w' g 5 (bv bs).toArray ∧ w.heap.size ≤ g ∧ Below w.heap.size w w'
theorem GivesN.of {w : World} {bs : List Nat} {e : Ending} {w' : World} (h : GivesBlock w bs e w') {n : Nat} {l : List Nat} (hl : bs = l) (hn : l.length = n) : GivesN w n l e w' := by
  subst hl hn
  exact h
theorem seen_blockN {w : World} {g n : Nat} {bs : List Nat} (h : Whole w g 5 (bv bs).toArray) (hn : bs.length = n) : Seen w w.heap.size 1 (some ⟨g, 0, none⟩) n n (bv bs) := by
  subst hn
  exact seen_block h
theorem seen_ints {w : World} {g m : Nat} {ns : List Int} (h : Whole w g 3 (iv ns).toArray) (hm : ns.length = m) : Seen w w.heap.size 1 (some ⟨g, 0, none⟩) m m (iv ns) := by
  subst hm
  refine ⟨by simp, Nat.le_refl _, .inr ⟨_, rfl, fun _ => ⟨rfl, h.lt, fun j x hx => ?_⟩⟩⟩
  rw [show (0 + j) = j by omega, h.cell]
  simpa using hx
theorem put0 (k : Nat) (z : Int) (hk : Wide z) (hz : z = k) (ns : List Int) (m : Nat) (hm : ns.length = m) (hpos : 0 < m) (hle : m ≤ 100) (L : List Nat) (hL : putL ns k = L) (n : Nat) (hn : L.length = n) (W : World) (gn : Nat) (hN : Whole W gn 3 (iv ns).toArray) :
    Calls Try.prog 27 #[.slice none 0 0, .int .i64 z, .slice (some ⟨gn, 0, none⟩) m m] W (GivesN W n L) := by
  refine (put_any none 0 W.heap.size 0 [] rfl (some ⟨gn, 0, none⟩) m W.heap.size m ns hm k z hk hz W (seen_nil _ _) (Nat.le_refl _) (by omega) (seen_ints hN hm) (Nat.le_refl _) hpos).mono ?_
  intro e w' h
  exact GivesN.of h (by rw [← hL]; rfl) hn
theorem put1 (k : Nat) (z : Int) (hk : Wide z) (hz : z = k) (ns : List Int) (m : Nat) (hm : ns.length = m) (hpos : 0 < m) (hle : m ≤ 100) (L1 : List Nat) (n1 : Nat) (hn1 : L1.length = n1) (h1 : n1 ≤ 900000) (L : List Nat) (hL : L1 ++ putL ns k = L) (n : Nat) (hn : L.length = n) (W : World) (g gn : Nat) (hg : Whole W g 5 (bv L1).toArray) (hN : Whole W gn 3 (iv ns).toArray) :
    Calls Try.prog 27 #[.slice (some ⟨g, 0, none⟩) n1 n1, .int .i64 z, .slice (some ⟨gn, 0, none⟩) m m] W (GivesN W n L) := by
  refine (put_any (some ⟨g, 0, none⟩) n1 W.heap.size n1 L1 hn1 (some ⟨gn, 0, none⟩) m W.heap.size m ns hm k z hk hz W (seen_blockN hg hn1) (Nat.le_refl _) (by omega) (seen_ints hN hm) (Nat.le_refl _) hpos).mono ?_
  intro e w' h
  exact GivesN.of h hL hn

theorem own_put {w : World} {base : Nat} {e : TypeId} {n g cap : Nat} {xs : List Value} (h : w.ownsRow base e 1 (.slice (some ⟨g, 0, none⟩) n cap) n xs) (i : Nat) (u : Value) : (w.setCell ⟨g, i, none⟩ u).ownsRow base e 1 (.slice (some ⟨g, 0, none⟩) n cap) n (xs.set i u) := by
  refine ⟨by simpa using h.1, ?_⟩
  rcases h.2 with ⟨hv, _⟩ | ⟨g', cap', cur, hv, hb, hh, h1, h2, h3, ht⟩
  · cases hv
  · injection hv with e1 e2 e3
    injection e1 with e1
    injection e1 with e1
    subst e1 e3
    refine .inr ⟨g, cap, cur.setIfInBounds i u, rfl, hb, (Whole.put (w := w) (t := e) (cs := cur) hh i u), h1, h2, by simpa using h3, ?_⟩
    simp only [Nat.mul_one] at ht ⊢
    rw [← ht]
    simp [List.take_set]
theorem own_cell {w : World} {base : Nat} {e : TypeId} {n g cap : Nat} {xs : List Value} (h : w.ownsRow base e 1 (.slice (some ⟨g, 0, none⟩) n cap) n xs) {i : Nat} {u : Value} (hu : xs[i]? = some u) : w.cell? ⟨g, i, none⟩ = some u ∧ w.frozen? ⟨g, i, none⟩ = false ∧ base ≤ g := by
  have hw := own_whole h (k := g) rfl
  obtain ⟨h1, cs, hW⟩ := hw
  refine ⟨?_, hW.frozen i, h1⟩
  have := (Seen.of_own h).2.2
  rcases this with ⟨h5, _⟩ | ⟨a, ha, h5⟩
  · cases h5
  · injection ha with ha
    subst ha
    have h6 := (h5 (by rintro rfl; simp at hu)).2.2 i u hu
    simpa using h6
theorem Whole.setRow {w : World} {g : Nat} {t : TypeId} {cs : Array Value} (h : Whole w g t cs) (cs' : Array Value) : Whole (w.setRow g cs') g t cs' := setRow_heap w g cs cs' t _ h
theorem Whole.setRow_far {w : World} {g g' : Nat} {t : TypeId} {cs : Array Value} (h : Whole w g t cs) (cs' : Array Value) (hne : g ≠ g') : Whole (w.setRow g' cs') g t cs := (setRow_other w g' g cs' hne).trans h
theorem below_setRow {B : Nat} {a w : World} (h : Below B a w) {g : Nat} (cs : Array Value) (hp : B ≤ g) : Below B a (w.setRow g cs) :=
  ⟨h.os, h.tape, h.output, by simpa using h.size, fun i hi => (setRow_other w g i cs (by omega)).trans (h.block i hi)⟩

theorem load_yields {P : Program} (W : World) (g : Nat) (ty : TypeId) (cs : Array Value) (o : Oper) (a : Act) {x : Operand} (ho : o.op = .load ty x) (hx : a.eval x = .pointer (some ⟨g, 0, none⟩)) (hg : Whole W g ty cs) {d : TypeDesc}
    (hu : P.underlying ty = some d) (hd : (match d with | .struct _ | .array _ _ => true | _ => false) = true) (hi : (P.info? ty).map (·.size) = some cs.size) :
    (execOp a.eval o).run P W = .ok (.value (.agg cs)) W := by
  unfold execOp
  simp only [ho, hx, Instr.loadAt, Instr.sureAddr, Sem.run_bind, Sem.run_pure, Result.andThen_ok, run_loadVar_row W g ty ty cs (0, 0) d hg hu hd hi]
theorem step_store_row {P : Program} (w : World) {ops : Array Oper} {o : Oper} {a : Act} {K : Act → World → Prop} {Q : Exit → Act → World → Prop} {E : Prop} (hgd : o.guard = none) (ty : TypeId) (x y : Operand) (ho : o.op = .store ty x y)
    (g : Nat) (cells : Array Value) (hx : a.eval x = .pointer (some ⟨g, 0, none⟩)) (hy : a.eval y = .agg cells)
    (t : TypeId) (old : Array Value) (hg : w.heap[g]? = some (.cells old t (0, 0))) (hi : (P.info? ty).map (·.size) = some cells.size)
    (hold : old.size = cells.size) (h1 : cells.all (·.oneCell') = true) (h : K (a.put o.dst undef) (w.setRow g cells)) :
    if Region.wanted o (yielded ops a.tmps) = true then Oper.wp P o a w K Q else E := by
  have hw : Region.wanted o (yielded ops a.tmps) = true := by simp [Region.wanted, hgd]
  rw [if_pos hw]
  exact wp_store_row ty x y ho g cells hx hy t old hg hi hold h1 h
theorem rec_size (r : Rec) : (Try.prog.info? 27).map (·.size) = some (recC r).size := by kernel_rfl
theorem rec_one (r : Rec) : (recC r).all (·.oneCell') = true := by simp [recC, Value.oneCell']
theorem RecAt.bel {w w' : World} {g : Nat} {r : Rec} (h : RecAt w g r) (hb : Below w.heap.size w w') : RecAt w' g r := Whole.bel h hb
theorem RecAt.load (W : World) (g : Nat) (r : Rec) (o : Oper) (a : Act) {x : Operand} (ho : o.op = .load 27 x) (hx : a.eval x = .pointer (some ⟨g, 0, none⟩)) (hg : RecAt W g r) : (execOp a.eval o).run Try.prog W = .ok (.value (.agg (recC r))) W :=
  load_yields W g 27 (recC r) o a ho hx hg Try.underlying27 rfl (rec_size r)
/-- A text's bytes. -/
def strL (s : ByteArray) : List Nat := s.data.toList.map (·.toNat)
theorem strL_length (s : ByteArray) : (strL s).length = s.size := by
  unfold strL
  rw [List.length_map]
  rfl
theorem strCells_bv (s : ByteArray) : Go.Lib.strCells s = bv (strL s) := by
  unfold Go.Lib.strCells bv strL
  rw [List.map_map]
  rfl
theorem strL_lt (s : ByteArray) : ∀ x ∈ strL s, x < 256 := by
  intro x hx
  simp only [strL, List.mem_map] at hx
  obtain ⟨b, _, rfl⟩ := hx
  exact b.toNat_lt

/-- append of a text, as one step of a region that draws. -/
theorem step_append_str (w : World) {ops : Array Oper} {o : Oper} {a : Act} {K : Act → World → Prop} {Q : Exit → Act → World → Prop} {E : Prop} (hgd : o.guard = none) (sl x : Operand)
    (ho : o.op = .call { callee := .builtin .append, args := #[sl, x], argTypes := #[29, 9] })
    (g n : Nat) (bs : List Nat) (hn : bs.length = n) (hs : a.eval sl = .slice (some ⟨g, 0, none⟩) n n) (hW : Whole w g 5 (bv bs).toArray) (s : ByteArray) (hx : a.eval x = .string s) (hle : n + s.size ≤ 1000000)
    (h : ∀ v' w', w'.ownsRow g 5 1 v' (n + s.size) (bv (bs ++ strL s)) → Below g w w' → K (a.put o.dst v') w') :
    if Region.wanted o (yielded ops a.tmps) = true then Oper.wp Try.prog o a w K Q else E := by
  have hw : Region.wanted o (yielded ops a.tmps) = true := by simp [Region.wanted, hgd]
  rw [if_pos hw]
  obtain ⟨i0, hi0, hz0, hz1, hz2⟩ := info_parts byte_info
  have hown : w.ownsRow g 5 1 (.slice (some ⟨g, 0, none⟩) n n) n (bv bs) := own_of_whole hW (by simp [hn]) (by simp [maxLen]; omega) (Nat.le_refl _)
  have hlt := hW.lt
  obtain ⟨v', w', hrun, h2, h3, h4⟩ := Go.Lib.run_append_own_string (P := Try.prog) w g 29 9 o.type 5 i0 Try.underlying29 Try.underlying9 hi0 hz0 hz1 hz2 _ n (bv bs) hown s (by simp [maxLen]; omega) (by omega) (by omega)
  unfold Oper.wp
  simp [execOp, ho, resolve, invoke, builtin, hs, hx, hrun, Result.andThen]
  refine h v' w' (by rw [bv_append, ← strCells_bv]; exact h2) ?_
  exact (Below.refl _ _).grown h3 (by omega) (fun k hk => by simp [Value.ownBlock] at hk; omega)
end Go.Proofs.Ytplilajgncfieaa
