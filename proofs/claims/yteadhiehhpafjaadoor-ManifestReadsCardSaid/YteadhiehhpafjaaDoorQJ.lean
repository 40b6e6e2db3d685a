/-
  Rows of rows of texts, each of the call's own and apart from the others. Conditions: none.
-/
import Derived.Test.YteadhiehhpafjaaDoorPF
import Derived.Test.YteadhiehhpafjaaDoorQA
import Derived.Laws.OwnMore
namespace Go.Proofs.YteadhiehhpafjaaDoor
open Go Go.RowKit
set_option maxRecDepth 100000

theorem slice38_info : (Tryd.prog.info? 38).map (fun i => (i.zero, i.size, i.bytes)) = some (some (.slice none 0 0), 1, 24) := by kernel_rfl
/-- Lines as values. -/
def lsv (s : List (List UInt8)) : List Value := sv (s.map tx)
theorem lsv_length (s : List (List UInt8)) : (lsv s).length = s.length := by simp [lsv, sv]
theorem lsv_snoc (s : List (List UInt8)) (l : List UInt8) : lsv (s ++ [l]) = lsv s ++ [.string (tx l)] := by simp [lsv, sv]
theorem lsv_set (s : List (List UInt8)) (z y : List UInt8) : (lsv (s ++ [z])).set s.length (.string (tx y)) = lsv (s ++ [y]) := by
  rw [lsv_snoc, lsv_snoc, ← lsv_length s, List.set_append_right _ _ (Nat.le_refl _)]
  simp
theorem lsv_at (s : List (List UInt8)) (z : List UInt8) : (lsv (s ++ [z]))[s.length]? = some (.string (tx z)) := by
  rw [lsv_snoc, List.getElem?_append_right (by rw [lsv_length]; exact Nat.le_refl _), lsv_length, Nat.sub_self]; rfl
theorem lsv_get (s : List (List UInt8)) (k : Nat) (h : k < s.length) : (lsv s)[k]? = some (.string (tx s[k])) := by
  simp [lsv, sv, h]

def RRow (W : World) (base : Nat) (v : Value) (rows : List Value) (out : Secs) : Prop :=
  rows.length = out.length ∧ W.ownsRow base 38 1 v out.length rows ∧
  (∀ i (h : i < out.length), ∃ u, rows[i]? = some u ∧ W.ownsRow base 9 1 u out[i].length (lsv out[i])) ∧
  (∀ (i j : Nat) (u u' : Value) (k : Nat), i ≠ j → rows[i]? = some u → rows[j]? = some u' → u.ownBlock = some k → u'.ownBlock ≠ some k)
theorem RRow.nil (W : World) (base : Nat) : RRow W base (.slice none 0 0) [] [] :=
  ⟨rfl, World.ownsRow_nil _ _ _ _, fun i h => absurd h (Nat.not_lt_zero _), fun i j u u' k _ h => by simp at h⟩
theorem RRow.only {W W' : World} {base : Nat} {v : Value} {rows : List Value} {out : Secs} (h : RRow W base v rows out) (ho : Only Nob W W') : RRow W' base v rows out :=
  ⟨h.1, own_only h.2.1 ho (fun _ _ h => h), fun i hi => by
    obtain ⟨u, h1, h2⟩ := h.2.2.1 i hi
    exact ⟨u, h1, own_only h2 ho (fun _ _ h => h)⟩, h.2.2.2⟩
theorem RRow.one {W : World} {base : Nat} {v : Value} {rows : List Value} {out : Secs} (h : RRow W base v rows out) : ∀ u ∈ rows, u.oneCell' = true := by
  intro u hu
  obtain ⟨i, hi, rfl⟩ := List.mem_iff_getElem.1 hu
  obtain ⟨u2, h1, h2⟩ := h.2.2.1 i (by have := h.1; omega)
  rw [List.getElem?_eq_getElem hi] at h1
  obtain ⟨A, c, e, _⟩ := own_form h2
  rw [Option.some.inj h1, e]; rfl
theorem RRow.blocks {W : World} {base : Nat} {v : Value} {rows : List Value} {out : Secs} (h : RRow W base v rows out) {i : Nat} {u : Value} (hu : rows[i]? = some u) {k : Nat} (hk : u.ownBlock = some k) : base ≤ k ∧ k < W.heap.size ∧ v.ownBlock ≠ some k := by
  have hi : i < out.length := by have := (List.getElem?_eq_some_iff.1 hu).1; have := h.1; omega
  obtain ⟨u2, h1, h2⟩ := h.2.2.1 i hi
  rw [hu] at h1
  cases h1
  obtain ⟨hb, cs, hw⟩ := own_whole h2 hk
  exact ⟨hb, hw.lt, own_ne_own h2 h.2.1 (by decide) k hk⟩
/-- A section more. -/
theorem RRow.push {W W3 : World} {base : Nat} {v v' : Value} {rows : List Value} {out : Secs} {l : List UInt8} (h : RRow W base v rows out) (hb : base ≤ W.heap.size)
    (h3 : W3.ownsRow base 38 1 v' (out.length + 1) (rows ++ [.slice (some ⟨W.heap.size, 0, none⟩) 1 1]))
    (hg : ((W.alloc (.cells #[.string (tx l)] 9)).alloc (.cells #[.slice (some ⟨W.heap.size, 0, none⟩) 1 1] 38)).grownBy W3 v.ownBlock) :
    RRow W3 base v' (rows ++ [.slice (some ⟨W.heap.size, 0, none⟩) 1 1]) (out ++ [[l]]) := by
  have hO : Only (fun k => v.ownBlock = some k) W W3 := (((Only.refl _ W).alloc _).alloc _).grown hg (fun k hk _ => hk)
  have hn : (W.alloc (.cells #[.string (tx l)] 9)).ownsRow base 9 1 (.slice (some ⟨W.heap.size, 0, none⟩) 1 1) 1 [.string (tx l)] :=
    World.ownsRow_lit W #[.string (tx l)] 1 hb (by simp [maxLen]) rfl
  have hO2 : Only (fun k => v.ownBlock = some k) (W.alloc (.cells #[.string (tx l)] 9)) W3 := ((Only.refl _ _).alloc _).grown hg (fun k hk _ => hk)
  have hvl : ∀ k, v.ownBlock = some k → k < W.heap.size := fun k hk => by
    obtain ⟨_, cs, hw⟩ := own_whole h.2.1 hk
    exact hw.lt
  have hrl := h.1
  refine ⟨by simp [hrl], by rw [List.length_append]; exact h3, fun i hi => ?_, ?_⟩
  · by_cases hio : i < out.length
    · obtain ⟨u, h1, h2⟩ := h.2.2.1 i hio
      refine ⟨u, by rw [List.getElem?_append_left (by omega)]; exact h1, ?_⟩
      rw [List.getElem_append_left hio]
      exact own_only h2 hO (fun k hk hk2 => (h.blocks h1 hk).2.2 hk2)
    · have hie : i = out.length := by simp at hi; omega
      subst hie
      refine ⟨_, by rw [List.getElem?_append_right (by omega), hrl, Nat.sub_self]; rfl, ?_⟩
      rw [List.getElem_append_right (Nat.le_refl _)]
      simp only [Nat.sub_self, List.getElem_cons_zero]
      refine own_only hn hO2 (fun k hk hk2 => ?_)
      have := hvl k hk2
      have : k = W.heap.size := by simpa [Value.ownBlock] using hk.symm
      omega
  · intro i j u u' k hij hu hu' hk hk'
    have ci : ∀ {i u}, (rows ++ [Value.slice (some ⟨W.heap.size, 0, none⟩) 1 1])[i]? = some u → (rows[i]? = some u) ∨ (i = rows.length ∧ u = .slice (some ⟨W.heap.size, 0, none⟩) 1 1) := by
      intro i u hu
      by_cases hi : i < rows.length
      · rw [List.getElem?_append_left hi] at hu; exact .inl hu
      · rw [List.getElem?_append_right (by omega)] at hu
        have hi2 : i - rows.length = 0 := by
          have := (List.getElem?_eq_some_iff.1 hu).1
          simp at this; omega
        rw [hi2] at hu
        exact .inr ⟨by omega, (Option.some.inj hu).symm⟩
    rcases ci hu with h1 | ⟨h1, rfl⟩
    · rcases ci hu' with h2 | ⟨h2, rfl⟩
      · exact h.2.2.2 i j u u' k hij h1 h2 hk hk'
      · have := (h.blocks h1 hk).2.1
        have : k = W.heap.size := by simpa [Value.ownBlock] using hk'.symm
        omega
    · rcases ci hu' with h2 | ⟨h2, rfl⟩
      · have := (h.blocks h2 hk').2.1
        have : k = W.heap.size := by simpa [Value.ownBlock] using hk.symm
        omega
      · exact hij (h1.trans h2.symm)
/-- The last section. -/
theorem RRow.last {W : World} {base : Nat} {v : Value} {rows : List Value} {init : Secs} {s : List (List UInt8)} (h : RRow W base v rows (init ++ [s])) :
    ∃ rowsI u, rows = rowsI ++ [u] ∧ rowsI.length = init.length ∧ W.ownsRow base 9 1 u s.length (lsv s) := by
  have hl := h.1
  have hne : rows ≠ [] := by rintro rfl; simp at hl
  obtain ⟨u, h1, h2⟩ := h.2.2.1 init.length (by simp)
  rw [List.getElem_append_right (Nat.le_refl _)] at h2
  simp only [Nat.sub_self, List.getElem_cons_zero] at h2
  have hd : rows = rows.dropLast ++ [rows.getLast hne] := (List.dropLast_concat_getLast hne).symm
  have hdl : rows.dropLast.length = init.length := by rw [List.length_dropLast, hl]; simp
  refine ⟨rows.dropLast, u, ?_, hdl, h2⟩
  rw [hd, List.getElem?_append_right (by omega), hdl, Nat.sub_self] at h1
  have : rows.getLast hne = u := by simpa using h1
  rw [← this]; exact hd
/-- The last section, changed. -/
theorem RRow.change {W W' : World} {base : Nat} {v u u' : Value} {rowsI : List Value} {init : Secs} {s s' : List (List UInt8)} (h : RRow W base v (rowsI ++ [u]) (init ++ [s]))
    (h9 : W'.ownsRow base 9 1 u' s'.length (lsv s')) (h38 : W'.ownsRow base 38 1 v (init.length + 1) (rowsI ++ [u'])) (hO : Only (fun k => u.ownBlock = some k ∨ v.ownBlock = some k) W W')
    (hu : u'.ownBlock = u.ownBlock ∨ ∀ k, u'.ownBlock = some k → W.heap.size ≤ k) : RRow W' base v (rowsI ++ [u']) (init ++ [s']) := by
  have hl : rowsI.length = init.length := by have := h.1; simp at this; omega
  have hlast : (rowsI ++ [u])[init.length]? = some u := by rw [List.getElem?_append_right (by omega), hl, Nat.sub_self]; rfl
  have hle : ∀ {i : Nat} {x : Value}, i < init.length → (rowsI ++ [u'])[i]? = some x → (rowsI ++ [u])[i]? = some x := by
    intro i x hi hx
    rw [List.getElem?_append_left (by omega)] at hx ⊢
    exact hx
  have hla : ∀ {i : Nat} {x : Value}, (rowsI ++ [u'])[i]? = some x → i < init.length ∨ (i = init.length ∧ x = u') := by
    intro i x hx
    by_cases hi : i < init.length
    · exact .inl hi
    · rw [List.getElem?_append_right (by omega)] at hx
      have hi2 : i - rowsI.length = 0 := by
        have := (List.getElem?_eq_some_iff.1 hx).1
        simp at this; omega
      rw [hi2] at hx
      exact .inr ⟨by omega, (Option.some.inj hx).symm⟩
  have hdis : ∀ {i : Nat} {x : Value} {k : Nat}, i < init.length → (rowsI ++ [u'])[i]? = some x → x.ownBlock = some k → u'.ownBlock ≠ some k := by
    intro i x k hi hx hk hk2
    have hx2 := hle hi hx
    rcases hu with hu | hu
    · exact h.2.2.2 i init.length x u k (by omega) hx2 hlast hk (hu ▸ hk2)
    · have := (h.blocks hx2 hk).2.1
      have := hu k hk2
      omega
  refine ⟨by simp [hl], by simpa using h38, fun i hi => ?_, ?_⟩
  · by_cases hio : i < init.length
    · obtain ⟨x, h1, h2⟩ := h.2.2.1 i (by simp; omega)
      rw [List.getElem_append_left hio] at h2 ⊢
      have hx : (rowsI ++ [u'])[i]? = some x := by rw [List.getElem?_append_left (by omega)] at h1 ⊢; exact h1
      refine ⟨x, hx, own_only h2 hO (fun k hk hk2 => ?_)⟩
      rcases hk2 with hk2 | hk2
      · exact h.2.2.2 i init.length x u k (by omega) h1 hlast hk hk2
      · exact (h.blocks h1 hk).2.2 hk2
    · have hie : i = init.length := by simp at hi; omega
      subst hie
      refine ⟨u', by rw [List.getElem?_append_right (by omega), hl, Nat.sub_self]; rfl, ?_⟩
      rw [List.getElem_append_right (Nat.le_refl _)]
      simpa using h9
  · intro i j x x' k hij hx hx' hk hk'
    rcases hla hx with h1 | ⟨h1, rfl⟩
    · rcases hla hx' with h2 | ⟨h2, rfl⟩
      · exact h.2.2.2 i j x x' k hij (hle h1 hx) (hle h2 hx') hk hk'
      · exact hdis h1 hx hk hk'
    · rcases hla hx' with h2 | ⟨h2, rfl⟩
      · exact hdis h2 hx' hk' hk
      · exact hij (h1.trans h2.symm)
end Go.Proofs.YteadhiehhpafjaaDoor
