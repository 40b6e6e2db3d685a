/-
  A region that draws its order, whose last operations wait for all others: the others are walked in one order, as long as a condition on the world holds; then the last ones, in turn. Conditions: each theorem names its own. Nothing of the program stands here.
-/
import Derived.Test.YtobchlakjgeadaaB
import Derived.StillTail
import Derived.Deep.RegionHeld3
namespace Go.Proofs.Ytobchlakjgeadaa
open Go Go.RowKit

section
variable {P : Program} {ops : Array Oper} {md : Region.Mode} {Q : Exit → Act → World → Prop} {S : World → Prop} {T : Act → World → Prop} {n g : Nat}

/-- The first f operations in whatever order, S holding behind each; then T. -/
def wpAnyT (P : Program) (md : Region.Mode) (ops : Array Oper) (Q : Exit → Act → World → Prop) (S : World → Prop) (n g : Nat) (T : Act → World → Prop) : Nat → Array Bool → Act → World → Prop
  | 0, listed, a, w => Region.seqB md ops g n listed = true ∧ T a w
  | f + 1, listed, a, w => Region.ready md ops listed ≠ [] ∧ ∀ i ∈ Region.ready md ops listed, wpOp P ops Q i (fun a' w' => S w' ∧ wpAnyT P md ops Q S n g T f (listed.setIfInBounds i true) a' w') a w

theorem wpAny_of_T (hT : ∀ listed a w, Region.seqB md ops g n listed = true → T a w → wpAny P md ops Q g listed a w) :
    ∀ (f : Nat) (listed : Array Bool) (a : Act) (w : World), wpAnyT P md ops Q S n g T f listed a w → wpAny P md ops Q (f + g) listed a w
  | 0, listed, a, w, h => by rw [Nat.zero_add]; exact hT _ _ _ h.1 h.2
  | f + 1, listed, a, w, h => by
    rw [show f + 1 + g = (f + g) + 1 by omega]
    exact ⟨fun h0 => absurd h0 h.1, fun i hi => wpOp_mono (fun a' w' h' => wpAny_of_T hT f _ a' w' h'.2) (h.2 i hi)⟩

theorem wpAnyT_first {i : Nat} {oi : Oper} {v : Value} (hi : ops[i]? = some oi) (hsel : ∀ (j : Nat) (o : Oper) cs b, ops[j]? = some o → o.op ≠ .select cs b)
    (hQ : ∀ c a w, Q (.panic c) (a.put oi.dst v) w → Q (.panic c) a w) (hw : Region.waitsFor md ops n i = true) (hg : 0 < g) :
    ∀ (fuel : Nat) (listed : Array Bool) (a : Act) (w : World),
      (∀ j oj, ops[j]? = some oj → j ≠ i → listed.getD j true = false → (∀ e ∈ oj.after, Region.binds md e = true → e.on ≠ i) → oi.apart ops oj = true) →
      i ∈ Region.ready md ops listed → YieldsIf P ops S oi v a → S w →
      wpAnyT P md ops Q S n g T fuel (listed.setIfInBounds i true) (a.put oi.dst v) w → wpAnyT P md ops Q S n g T (fuel + 1) listed a w := by
  intro fuel
  have wait : ∀ listed : Array Bool, i ∈ Region.ready md ops listed → n ∉ Region.ready md ops listed := by
    intro listed hr hn
    obtain ⟨on, hon, e, he, hb, heq⟩ := Region.waitsFor_spec hw
    obtain ⟨_, on', hon', hall⟩ := mem_ready.1 hn
    have : on' = on := Option.some.inj (hon'.symm.trans hon)
    subst this
    have h1 := hall e he hb
    have h0 := (mem_ready.1 hr).1
    rw [heq] at h1
    rw [getD_both h0] at h1
    cases h1
  induction fuel with
  | zero =>
    intro listed a w _ hr hy hS H
    refine ⟨fun h => (by rw [h] at hr; cases hr), fun j hj => ?_⟩
    by_cases hji : j = i
    · subst hji; exact hy.wpOp hi hS ⟨hS, H⟩
    · have h1 := ready_mono hj hji
      have h2 : Region.ready md ops (listed.setIfInBounds i true) = [n] := by
        have h3 := H.1
        obtain ⟨g', rfl⟩ : ∃ g', g = g' + 1 := ⟨g - 1, by omega⟩
        simp only [Region.seqB, Bool.and_eq_true, decide_eq_true_eq] at h3
        exact h3.1
      rw [h2] at h1
      have h3 : j = n := by simpa using h1
      subst h3
      exact absurd hj (wait listed hr)
  | succ fuel ih =>
    intro listed a w hfree hr hy hS H
    refine ⟨fun h => (by rw [h] at hr; cases hr), fun j hj => ?_⟩
    by_cases hji : j = i
    · subst hji; exact hy.wpOp hi hS ⟨hS, H⟩
    · have h1 := H.2 j (ready_mono hj hji)
      obtain ⟨hjun, oj, hoj, hall⟩ := mem_ready.1 hj
      have hnot : ∀ e ∈ oj.after, Region.binds md e = true → e.on ≠ i := fun e he hb heq => by
        have h1 := hall e he hb
        have h0 := (mem_ready.1 hr).1
        rw [heq, getD_both h0] at h1
        cases h1
      have h2 := wpOp_putIf hoj (hfree j oj hoj hji hjun hnot) (fun cs b => hsel i oi cs b hi) (fun cs b => hsel j oj cs b hoj) hQ hy h1
      have hfree' : ∀ k ok, ops[k]? = some ok → k ≠ i → (listed.setIfInBounds j true).getD k true = false →
          (∀ e ∈ ok.after, Region.binds md e = true → e.on ≠ i) → oi.apart ops ok = true := fun k ok hk hki hun hno => by
        refine hfree k ok hk hki ?_ hno
        by_cases hjk : j = k
        · subst hjk; exact hjun
        · rw [getD_set_ne true hjk] at hun; exact hun
      refine wpOp_mono (fun a' w' h3 => ⟨h3.2.1, ih (listed.setIfInBounds j true) a' w' hfree' (ready_mono hr (Ne.symm hji)) h3.1 h3.2.1 ?_⟩) h2
      rw [Array.setIfInBounds_comm _ _ hji]
      exact h3.2.2

/-- Take number i first: it yields v in every world that meets S, and nobody who could come before it touches its temporaries. -/
theorem wpAnyT_take {i : Nat} {oi : Oper} {v : Value} {fuel : Nat} {listed : Array Bool} {a : Act} {w : World} (hi : ops[i]? = some oi)
    (hs : Region.noSelect ops = true) (hf : Region.free md ops listed i = true) (hr : (Region.ready md ops listed).contains i = true) (hw : (decide (0 < g) && Region.waitsFor md ops n i) = true)
    (hQ : ∀ c a w, Q (.panic c) (a.put oi.dst v) w → Q (.panic c) a w) (hy : YieldsIf P ops S oi v a) (hS : S w)
    (h : wpAnyT P md ops Q S n g T fuel (listed.setIfInBounds i true) (a.put oi.dst v) w) : wpAnyT P md ops Q S n g T (fuel + 1) listed a w := by
  simp only [Bool.and_eq_true, decide_eq_true_eq] at hw
  exact wpAnyT_first hi (Region.noSelect_spec hs) hQ hw.2 hw.1 fuel listed a w (Region.free_spec hi hf) (by simpa using hr) hy hS h

/-- The one that may come up comes up: behind it S is to be shown anew. -/
theorem wpAnyT_run {i : Nat} {o : Oper} {fuel : Nat} {listed : Array Bool} {a : Act} {w : World} (hr : Region.ready md ops listed = [i]) (ho : ops[i]? = some o)
    (h : ∀ K' : Act → World → Prop, Shut (∀ a w, S w → (S w → wpAnyT P md ops Q S n g T fuel (listed.setIfInBounds i true) a w) → K' a w) → if Region.wanted o (yielded ops a.tmps) = true then Oper.wp P o a w K' Q else K' (a.put o.dst undef) w) :
    wpAnyT P md ops Q S n g T (fuel + 1) listed a w := by
  refine ⟨by rw [hr]; simp, fun j hj => ?_⟩
  rw [hr] at hj
  have : j = i := by simpa using hj
  subst this
  exact wpOp_step ho (fun K' hK => h K' (fun a w hS hW => hK a w ⟨hS, hW hS⟩))

theorem wpAnyT_done {listed : Array Bool} {a : Act} {w : World} (hB : Region.seqB md ops g n listed = true) (h : T a w) : wpAnyT P md ops Q S n g T 0 listed a w := ⟨hB, h⟩
end

/-- The beginning. -/
theorem wp_region_heldTail {P : Program} {id : Nat} {Q : Exit → Act → World → Prop} {S : World → Prop} {a : Act} {w : World} {l : List Oper} (n g : Nat) (hm : P.follows .mixedOrders = true) (hn : n + g = l.length) (hS : S w.drew)
    (h : S w.drew → wpAnyT P .any l.toArray Q S n g (wpList P l.toArray Q (l.drop n)) n (Array.replicate l.toArray.size false) a w.drew) : (Code.region id l.toArray true).wp P Q a w := by
  refine wp_region_any hm ?_
  have := wpAny_of_T (Q := Q) (fun listed a w hB h => by
    have hd : (l.drop n).length = g := by simp; omega
    have := wpAny_of_seq (md := .any) (Q' := Q) (ops := l.toArray) (P := P) (l.drop n) n listed a w (fun j => by simp [List.getElem?_drop]) (by rw [hd]; exact hB) h
    rwa [hd] at this) _ _ _ _ (h hS)
  rw [hn] at this
  simpa using this

/-- Append to a row of one's own: what stood in the row's block stands there still. -/
theorem run_append_keep {P : Program} (w : World) (base : Nat) (t ty e : TypeId) (i : TypeInfo) (z : Value) (bytes : Nat) (ht : P.underlying t = some (.slice e)) (hi : P.info? e = some i) (hz : i.zero = some z)
    (hsize : i.size = 1) (hby : i.bytes = bytes) (hzs : z.cells.size = 1)
    (r cap n : Nat) (xs : List Value) (hown : w.ownsRow base e 1 (.slice (some ⟨r, 0, none⟩) n cap) n xs)
    (B : Nat) (A : Addr) (m c : Nat) (news : List Value) (hr : Seen w B 1 (some A) m c news) (hm : 0 < m) (h1 : ∀ u ∈ news, u.oneCell' = true)
    (h63 : n + m ≤ maxLen) (hbytes : (n + m) * bytes ≤ 140737488355328) (hbase : base ≤ w.heap.size) :
    ∃ v' w', (Builtin.append_ #[t, t] ty #[.slice (some ⟨r, 0, none⟩) n cap, .slice (some A) m c]).run P w = .ok v' w' ∧ w'.ownsRow base e 1 v' (n + m) (xs ++ news) ∧ w.grownBy w' (some r) ∧ (∀ j u, xs[j]? = some u → w'.cell? ⟨r, j, none⟩ = some u) := by
  obtain ⟨v', w', hrun, h2, h3, h4⟩ := run_append_seen (P := P) w base t ty e i z 1 bytes ht hi hz hsize hby hzs (by omega) _ n xs hown B (some A) m c news hr h1 h63 hbytes hbase
  refine ⟨v', w', hrun, h2, h3, fun j u hu => ?_⟩
  have hj : j < xs.length := (List.getElem?_eq_some_iff.1 hu).1
  have hlt := hown.lt r rfl
  by_cases hroom : n + m ≤ cap
  · rcases h2.2 with ⟨hv, hn⟩ | ⟨g, cap', cur, rfl, hb, hh, k1, k2, k3, k4⟩
    · omega
    · have hg : g = r := by
        rcases h4 with h4 | h4
        · simpa [Value.ownBlock] using h4
        · exfalso
          simp [Value.ownBlock] at h4
          rcases hown.2 with ⟨hv, _⟩ | ⟨g', cap2, cur', hv, hb', hh', q1, q2, q3, q4⟩
          · cases hv
          · injection hv with hv1 hv2 hv3
            injection hv1 with hv1; injection hv1 with hv1
            subst hv1 hv3
            obtain ⟨r1, r2, r3⟩ := hr
            have hnn : news ≠ [] := by rintro rfl; simp at r1; omega
            rcases r3 with ⟨hx, _⟩ | ⟨a, ha, r3⟩
            · cases hx
            · injection ha with ha
              subst ha
              obtain ⟨g1, g2, g3⟩ := r3 hnn
              have := run_append_room (P := P) w t ty e i ht hi r n cap cur' hh' A m c news (by rw [hsize]; exact r1) (fun j u hu => by
                obtain ⟨b, o, s⟩ := A
                simp only at g1 g2 g3
                subst g1
                rw [Addr.add_lit]
                exact g3 j u hu) h1 hroom (by rw [hsize] ; simp at r1 q3; omega)
              rw [this] at hrun
              injection hrun with e1 e2
              injection e1 with e1
              injection e1 with e1
              injection e1 with e1
              have := (Array.getElem?_eq_some_iff.1 hh').1
              omega
      subst hg
      rw [cell_of_row w' g j cur e (0, 0) hh]
      have : (xs ++ news)[j]? = some u := by rw [List.getElem?_append_left hj]; exact hu
      rw [← k4, List.getElem?_take] at this
      split at this
      · simpa using this
      · cases this
  · obtain ⟨r1, r2, r3⟩ := hr
    have hnn : news ≠ [] := by rintro rfl; simp at r1; omega
    rcases r3 with ⟨hx, _⟩ | ⟨a, ha, r3⟩
    · cases hx
    · injection ha with ha
      subst ha
      obtain ⟨g1, g2, g3⟩ := r3 hnn
      have holds : ∀ j u, xs[j]? = some u → w.cell? ((⟨r, 0, none⟩ : Addr).add j) = some u := hown.cells (g := r) rfl
      have := run_append_grow (P := P) w t ty e i z ht hi hz ⟨r, 0, none⟩ n cap xs (by rw [hsize]; exact hown.1) holds A m c news (by rw [hsize]; exact r1) (fun j u hu => by
        obtain ⟨b, o, s⟩ := A
        simp only at g1 g2 g3
        subst g1
        rw [Addr.add_lit]
        exact g3 j u hu) (by omega) (by simp only [maxLen] at h63; omega) (growslice_fits (by omega) (by rw [hby]; exact hbytes))
      rw [this] at hrun
      injection hrun with e1 e2
      subst e2
      have h5 := holds j u hu
      rw [Addr.add_lit, Nat.zero_add] at h5
      rw [← h5]
      exact World.cell?_of_block (Below.heap_alloc w.drew _ r hlt.2)

theorem step_append_keep {P : Program} (w : World) {ops : Array Oper} {o : Oper} {a : Act} {K : Act → World → Prop} {Q : Exit → Act → World → Prop} {E : Prop} (hgd : o.guard = none) (s x : Operand) (t : TypeId)
    (ho : o.op = .call { callee := .builtin .append, args := #[s, x], argTypes := #[t, t] })
    (base : Nat) (e : TypeId) (i : TypeInfo) (z : Value) (bytes : Nat) (ht : P.underlying t = some (.slice e)) (hi : P.info? e = some i) (hz : i.zero = some z)
    (hsize : i.size = 1) (hby : i.bytes = bytes) (hzs : z.cells.size = 1)
    (r cap n : Nat) (xs : List Value) (hs : a.eval s = .slice (some ⟨r, 0, none⟩) n cap) (hown : w.ownsRow base e 1 (.slice (some ⟨r, 0, none⟩) n cap) n xs)
    (B : Nat) (A : Addr) (m c : Nat) (news : List Value) (hx : a.eval x = .slice (some A) m c) (hr : Seen w B 1 (some A) m c news) (hm : 0 < m) (h1 : ∀ u ∈ news, u.oneCell' = true)
    (h63 : n + m ≤ maxLen) (hbytes : (n + m) * bytes ≤ 140737488355328) (hbase : base ≤ w.heap.size)
    (h : ∀ v' w', w'.ownsRow base e 1 v' (n + m) (xs ++ news) → w.grownBy w' (some r) → (∀ j u, xs[j]? = some u → w'.cell? ⟨r, j, none⟩ = some u) → K (a.put o.dst v') w') :
    if Region.wanted o (yielded ops a.tmps) = true then Oper.wp P o a w K Q else E := by
  have hw : Region.wanted o (yielded ops a.tmps) = true := by simp [Region.wanted, hgd]
  rw [if_pos hw]
  obtain ⟨v', w', hrun, h2, h3, h4⟩ := run_append_keep (P := P) w base t o.type e i z bytes ht hi hz hsize hby hzs r cap n xs hown B A m c news hr hm h1 h63 hbytes hbase
  unfold Oper.wp
  simp [execOp, ho, resolve, invoke, builtin, hs, hx, hrun, Result.andThen]
  exact h v' w' h2 h3 h4
end Go.Proofs.Ytobchlakjgeadaa
