/-
  Contracts of lengths: packRows. Conditions: as many packs as the sorts serve.
-/
import Derived.Test.YtijjcecboepiiaaK3
import Derived.Test.YtijjcecboepiiaaY3
namespace Go.Proofs.Ytijjcecboepiiaa
open Go.Proofs Go.Shelf Go.RowKit Go.Sort Go.Lib

theorem own_putS {w : World} {base : Nat} {e : TypeId} {n g cap size : Nat} {xs : List Value} (h : w.ownsRow base e size (.slice (some ⟨g, 0, none⟩) n cap) n xs) (i : Nat) (u : Value) : (w.setCell ⟨g, i, none⟩ u).ownsRow base e size (.slice (some ⟨g, 0, none⟩) n cap) n (xs.set i u) := by
  refine ⟨by simpa using h.1, ?_⟩
  rcases h.2 with ⟨hv, _⟩ | ⟨g', cap', cur, hv, hb, hh, h1, h2, h3, ht⟩
  · cases hv
  · injection hv with e1 e2 e3
    injection e1 with e1
    injection e1 with e1
    subst e1 e3
    refine .inr ⟨g, cap, cur.setIfInBounds i u, rfl, hb, (Whole.put (w := w) (t := e) (cs := cur) hh i u), h1, h2, by simpa using h3, ?_⟩
    rw [← ht]
    simp [List.take_set]
theorem own_cellS {w : World} {base : Nat} {e : TypeId} {n g cap size : Nat} {xs : List Value} (h : w.ownsRow base e size (.slice (some ⟨g, 0, none⟩) n cap) n xs) {i : Nat} {u : Value} (hu : xs[i]? = some u) : w.cell? ⟨g, i, none⟩ = some u ∧ w.frozen? ⟨g, i, none⟩ = false ∧ base ≤ g := by
  have hw := own_whole h (k := g) rfl
  obtain ⟨h1, cs, hW⟩ := hw
  refine ⟨?_, hW.frozen i, h1⟩
  have := (Seen.of_own h).2.2
  rcases this with ⟨h5, _⟩ | ⟨a, ha, h5⟩
  · cases h5
  · injection ha with ha
    subst ha
    have h6 := (h5 (by rintro rfl; simp at hu)).2.2 i u hu
    simpa using h6
theorem pv_set : ∀ (r : List Pk) (i : Nat) (x : Nat) (h : i < r.length), (pv r).set (i * 2) (.int .i64 (x : Nat)) = pv (r.set i (x, r[i].2))
  | [], i, x, h => by simp at h
  | a :: r, 0, x, h => by simp [pv, encP]
  | a :: r, i + 1, x, h => by
    have ih := pv_set r i x (by simpa using h)
    have e : ∀ (a : Pk) (r : List Pk), pv (a :: r) = .int .i64 (a.1 : Nat) :: .bool a.2 :: pv r := fun a r => by simp [pv, encP]
    rw [e, show (i + 1) * 2 = i * 2 + 1 + 1 by omega, List.set_cons_succ, List.set_cons_succ, ih, List.set_cons_succ, e]
    rfl

/-- How often the signs come. -/
def wsOf (lo : List Int) (ss : List Nat) : List Nat := ss.map fun s => (lo.getD s 0).toNat
/-- The rows, the last bit's first. -/
def rowAt {N : Nat} (S : Sorter N) (ws : List Nat) : Nat → List Pk
  | 0 => singles ws
  | k + 1 => S.sP (singles ws ++ pairs (rowAt S ws k))
theorem rowAt_props {N : Nat} (S : Sorter N) (ws : List Nat) (hN : 2 * ws.length ≤ N) (hw : ∀ x ∈ ws, x ≤ 16777216) : ∀ k, ws.length ≤ (rowAt S ws k).length ∧ (rowAt S ws k).length ≤ 2 * ws.length ∧ ∀ x ∈ rowAt S ws k, x.1 ≤ 16777216 * 2 ^ k
  | 0 => by
    refine ⟨by simp [rowAt, singles], by simp [rowAt, singles]; omega, ?_⟩
    intro x hx
    simp only [rowAt, singles, List.mem_map] at hx
    obtain ⟨y, hy, rfl⟩ := hx
    have := hw y hy
    simpa using this
  | k + 1 => by
    obtain ⟨h1, h2, h3⟩ := rowAt_props S ws hN hw k
    have hl : (singles ws ++ pairs (rowAt S ws k)).length = ws.length + (rowAt S ws k).length / 2 := by simp [singles, pairs_length]
    have hp := (S.permP (singles ws ++ pairs (rowAt S ws k)) (by omega)).1
    have hpl := hp.length_eq
    refine ⟨by simp only [rowAt]; omega, by simp only [rowAt]; omega, ?_⟩
    intro x hx
    have hx2 := hp.mem_iff.1 hx
    rw [Nat.pow_succ]
    rcases List.mem_append.1 hx2 with h | h
    · simp only [singles, List.mem_map] at h
      obtain ⟨y, hy, rfl⟩ := h
      have := hw y hy
      have := Nat.two_pow_pos k
      simp only
      omega
    · have key : ∀ (l : List Pk) (C : Nat), (∀ x ∈ l, x.1 ≤ C) → ∀ x ∈ pairs l, x.1 ≤ 2 * C := by
        intro l C
        induction l using pairs.induct with
        | case1 a b l ih =>
          intro hl x hx
          simp only [pairs, List.mem_cons] at hx
          rcases hx with rfl | hx
          · have := hl a (by simp); have := hl b (by simp); simp only; omega
          · exact ih (fun y hy => hl y (by simp [hy])) x hx
        | case2 l hne => intro _ x hx; rw [pairs] at hx; simp at hx; exact hne
      have := key _ _ h3 x h
      omega
theorem rowAt_cost {N : Nat} (S : Sorter N) (ws : List Nat) (hN : 2 * ws.length ≤ N) (hw : ∀ x ∈ ws, x ≤ 16777216) (k : Nat) (hk : k ≤ 15) : ∀ x ∈ rowAt S ws k, x.1 ≤ 1099511627776 := by
  intro x hx
  have h1 := (rowAt_props S ws hN hw k).2.2 x hx
  have h2 : 2 ^ k ≤ 32768 := Nat.pow_le_pow_right (n := 2) (i := k) (j := 15) (by omega) hk
  omega

/-- Rows, each of the call's own. -/
def OwnRows (w : World) (B : Nat) (f : Nat → List Pk) (vs : List Value) : Prop := ∀ i, i < vs.length → ∃ u, vs[i]? = some u ∧ w.ownsRow B 93 2 u (f i).length (pv (f i))
theorem OwnRows.keep {w w' : World} {B : Nat} {f : Nat → List Pk} {vs : List Value} (h : OwnRows w B f vs) (hb : Below w.heap.size w w') : OwnRows w' B f vs := fun i hi => by
  obtain ⟨u, h1, h2⟩ := h i hi
  exact ⟨u, h1, own_only h2 (Only.of_below hb Nob) (fun _ _ h => h)⟩

theorem sl_info : (Try.prog.info? 91).map (fun i => (i.zero, i.size, i.bytes)) = some (some (.slice none 0 0), 1, 24) := by kernel_rfl
def PackIn {N : Nat} (S : Sorter N) (w : World) (ws : List Nat) (g m : Nat) (t : Nat) (v : Value) (vs : List Value) (wr : World) : Prop :=
  vs.length = t ∧ wr.ownsRow w.heap.size 91 1 v t vs ∧ OwnRows wr w.heap.size (rowAt S ws) vs ∧ wr.ownsRow w.heap.size 93 2 (.slice (some ⟨g, 0, none⟩) m m) m (pv (rowAt S ws 0)) ∧ Below w.heap.size w wr

def PackRes {N : Nat} (S : Sorter N) (w : World) (ws : List Nat) (L : Nat) (e : Ending) (w' : World) : Prop :=
  ∃ v vs, e = .returned v ∧ vs.length = L ∧ w'.ownsRow w.heap.size 91 1 v L vs ∧ OwnRows w' w.heap.size (rowAt S ws) vs ∧ Below w.heap.size w w'

/-- The first row, filled up to k. -/
def part (ws : List Nat) (k : Nat) : List Pk := (List.range ws.length).map fun j => (if j < k then ws.getD j 0 else 0, false)
theorem part_len (ws : List Nat) (k : Nat) : (part ws k).length = ws.length := by simp [part]
theorem part_zero (ws : List Nat) : part ws 0 = List.replicate ws.length (0, false) := by
  apply List.ext_getElem?
  intro i
  by_cases h : i < ws.length
  · simp [part, h]
  · rw [List.getElem?_eq_none (by simp [part]; omega), List.getElem?_eq_none (by simp; omega)]
theorem part_all (ws : List Nat) : part ws ws.length = singles ws := by
  apply List.ext_getElem?
  intro i
  by_cases h : i < ws.length
  · simp [part, singles, h]
  · rw [List.getElem?_eq_none (by simp [part]; omega), List.getElem?_eq_none (by simp [singles]; omega)]
theorem part_succ (ws : List Nat) (k : Nat) (h : k < ws.length) : (part ws k).set k (ws.getD k 0, ((part ws k)[k]'(by rw [part_len]; exact h)).2) = part ws (k + 1) := by
  apply List.ext_getElem?
  intro i
  by_cases hi : i < ws.length
  · rw [List.getElem?_set]
    by_cases hk : k = i
    · subst hk
      simp [part, h]
    · rw [if_neg hk]
      have : (i < k) ↔ (i < k + 1) := by omega
      simp [part, hi, this]
  · rw [List.getElem?_eq_none (by simp [part]; omega), List.getElem?_eq_none (by simp [part]; omega)]

theorem made_pk (n : Nat) : (madeCells #[.int .i64 0, .bool false] (n * 2)).toList = pv (List.replicate n (0, false)) := by
  apply List.ext_getElem?
  intro i
  by_cases h : i < n * 2
  · unfold pv
    rw [flat_at _ _ (by simpa using h), Array.getElem?_toList, Array.getElem?_eq_getElem (by rw [size_madeCells]; exact h)]
    simp only [madeCells, Array.getElem_map, Array.getElem_range]
    have h2 : i / 2 < n := by omega
    have e : (List.replicate n ((0, false) : Pk)).getD (i / 2) default = (0, false) := by simp [List.getD, h2]
    rw [e]
    rcases Nat.mod_two_eq_zero_or_one i with h3 | h3
    · simp [h3, encP]
    · simp [h3, encP]
  · unfold pv
    rw [List.getElem?_eq_none (by rw [Array.length_toList, size_madeCells]; omega), List.getElem?_eq_none (by rw [flat_len]; simp; omega)]

set_option maxHeartbeats 2000000 in
set_option maxRecDepth 100000 in
theorem packRows_any {N : Nat} (S : Sorter N) (A A1 : Option Addr) (n c m c1 B L : Nat) (lo : List Int) (ss : List Nat) (hn : lo.length = n) (hm : ss.length = m) (hN0 : N ≤ 100000) (h0 : 0 < m) (hN : 2 * m ≤ N) (hss : ∀ s ∈ ss, s < n) (hw : ∀ x ∈ wsOf lo ss, x ≤ 16777216) (hlo : ∀ x ∈ lo, 0 ≤ x) (hL1 : 1 ≤ L) (hL : L ≤ 15) (w : World)
    (hs : Seen w B 1 A n c (iv lo)) (hs1 : Seen w B 1 A1 m c1 (sv' ss)) (hB : B ≤ w.heap.size) :
    Calls Try.prog 37 #[.slice A n c, .slice A1 m c1, .int .i64 L] w (PackRes S w (wsOf lo ss) L) := by
  obtain ⟨i0, hi0, hz0, hz1, hz2⟩ := info_parts pk_info
  have HZ0 := Lib.hid hz0; clear hz0
  have HZ1 := Lib.hid hz1; clear hz1
  have HZ2 := Lib.hid hz2; clear hz2
  have HI0 := Lib.hid hi0; clear hi0
  have HS := Lib.hid hs; clear hs
  have HS1 := Lib.hid hs1; clear hs1
  have HN := Lib.hid hn; clear hn
  have HM := Lib.hid hm; clear hm
  have HSS := Lib.hid hss; clear hss
  have HWs := Lib.hid hw; clear hw
  have HLo := Lib.hid hlo; clear hlo
  have HWL : Hid ((wsOf lo ss).length = m) := Lib.hid (by simp [wsOf, HM.out])
  go_enter Try.func37, Try.ntmps37
  go_wp2_with (refine wpList_make_full _ rfl (.tmp 12) (.tmp 12) 91 rfl w.heap.size 93 i0 _ 2 Try.underlying91 HI0.out HZ0.out HZ1.out .i64 .i64 m m m rfl rfl rfl rfl (by rw [HZ2.out]; omega) (by simp [maxLen]; omega) (by omega) ?_; intro w3 hown hg3)
  have H0 : Hid (w3.ownsRow w.heap.size 93 2 (.slice (some ⟨w.heap.size, 0, none⟩) m m) m (pv (part (wsOf lo ss) 0)) ∧ Below w.heap.size w w3) := Lib.hid (by
    refine ⟨?_, (Below.refl _ _).grown hg3 (Nat.le_refl _) (by simp)⟩
    rw [part_zero, HWL.out, ← made_pk]
    exact hown)
  clear hown hg3
  obtain ⟨g, hg⟩ : ∃ g, w.heap.size = g := ⟨_, rfl⟩
  have HG := Lib.hid hg
  have H0' : Hid (w3.ownsRow w.heap.size 93 2 (.slice (some ⟨g, 0, none⟩) m m) m (pv (part (wsOf lo ss) 0)) ∧ Below w.heap.size w w3) := by rw [← hg]; exact H0
  rw [hg]
  clear hg H0
  go_loopw [8, 9, 16] (fun _ _ i wr => ∃ k : Nat, k ≤ m ∧ i = .int .i64 k ∧ wr.ownsRow w.heap.size 93 2 (.slice (some ⟨g, 0, none⟩) m m) m (pv (part (wsOf lo ss) k)) ∧ Below w.heap.size w wr) (fun _ _ i _ => m - (intOf i).toNat)
  case atStart => exact ⟨0, by omega, rfl, H0'.out⟩
  case round =>
    clear H0'
    obtain ⟨k, hk, rfl, hown, hbel⟩ := hrel
    have HO := Lib.hid hown; clear hown
    have HB := Lib.hid hbel; clear hbel
    by_cases hlt : k < m
    · have hkl : k < ss.length := by rw [HM.out]; exact hlt
      obtain ⟨b1, o1, u1, rfl, hb1, q1, x1⟩ := (HS1.out.below (HB.out.mono hB)).at hlt
      have hu : u1 = .int .i64 (ss[k] : Nat) := by
        unfold sv' at q1
        rw [List.getElem?_map, List.getElem?_eq_getElem hkl] at q1
        simpa using q1.symm
      subst hu
      have hsn := HSS.out _ (List.getElem_mem hkl)
      obtain ⟨b, o, rfl, hb, x2⟩ := (HS.out.below (HB.out.mono hB)).int HN.out hsn
      have hsl : ss[k] < lo.length := by rw [HN.out]; exact hsn
      have hx0 := HLo.out _ (List.getElem_mem hsl)
      have eW : (wsOf lo ss).getD k 0 = (lo[ss[k]]).toNat := by simp [wsOf, List.getD, hkl, hsl]
      have ES := Lib.hid (part_succ (wsOf lo ss) k (by rw [HWL.out]; exact hlt))
      have hpl : k < (part (wsOf lo ss) k).length := by rw [part_len, HWL.out]; exact hlt
      have EV := Lib.hid (pv_set (part (wsOf lo ss) k) k ((wsOf lo ss).getD k 0) hpl)
      rw [ES.out] at EV
      obtain ⟨hck, hfk, _⟩ := own_cellS HO.out (pv_get (part (wsOf lo ss) k) k hpl).1
      rw [eW] at EV
      obtain ⟨x, hx⟩ : ∃ x, lo[ss[k]] = x := ⟨_, rfl⟩
      rw [hx] at x2 hx0 EV
      obtain ⟨y, rfl⟩ := Int.eq_ofNat_of_zero_le hx0
      rw [Int.toNat_natCast] at EV
      obtain ⟨s, hs⟩ : ∃ s, ss[k] = s := ⟨_, rfl⟩
      simp only [hs] at x1 hsn x2
      generalize (part (wsOf lo ss) k)[k].1 = old at hck
      clear hs hx eW q1 ES hpl hsl hkl
      go_wp2
      go_roundw
      case rel =>
        refine ⟨k + 1, by omega, by go_num, ?_, HB.out.setCell (by show w.heap.size ≤ g; have := HG.out; omega) _⟩
        rw [← EV.out]
        exact own_putS HO.out (k * 2) (.int .i64 (y : Nat))
      case measure => simp [intOf]; omega
    · obtain rfl : k = m := by omega
      have HO0 : Hid (wr.ownsRow w.heap.size 93 2 (.slice (some ⟨g, 0, none⟩) k k) k (pv (rowAt S (wsOf lo ss) 0))) := Lib.hid (by
        have h := HO.out
        have e := part_all (wsOf lo ss)
        rw [HWL.out] at e
        rw [e] at h
        exact h)
      clear HO
      obtain ⟨j0, hj0, hy0, hy1, hy2⟩ := info_parts sl_info
      have HY0 := Lib.hid hy0; clear hy0
      have HY1 := Lib.hid hy1; clear hy1
      have HY2 := Lib.hid hy2; clear hy2
      have HJ0 := Lib.hid hj0; clear hj0
      have hz := HB.out.size
      have HI : Hid (PackIn S w (wsOf lo ss) g k 1 (.slice (some ⟨wr.heap.size, 0, none⟩) 1 1) [.slice (some ⟨g, 0, none⟩) k k] (wr.alloc (.cells #[.slice (some ⟨g, 0, none⟩) k k] 91))) := Lib.hid (by
        refine ⟨rfl, ?_, ?_, HO0.out.alloc _, HB.out.alloc hz _⟩
        · exact ⟨rfl, .inr ⟨wr.heap.size, 1, _, rfl, hz, Whole.new _ _ _, Nat.le_refl _, by simp [maxLen], rfl, rfl⟩⟩
        · intro i hi
          obtain rfl : i = 0 := by simpa using hi
          refine ⟨_, rfl, ?_⟩
          have e : (rowAt S (wsOf lo ss) 0).length = k := by simp [rowAt, singles, HWL.out]
          rw [e]
          exact HO0.out.alloc _)
      obtain ⟨g2, hg2⟩ : ∃ g2, wr.heap.size = g2 := ⟨_, rfl⟩
      have HI' : Hid (PackIn S w (wsOf lo ss) g k 1 (.slice (some ⟨g2, 0, none⟩) 1 1) [.slice (some ⟨g, 0, none⟩) k k] (wr.alloc (.cells #[.slice (some ⟨g, 0, none⟩) k k] 91))) := by rw [← hg2]; exact HI
      go_wp2_with fail
      clear hg2 HI HO0 HB hz
      go_loopg [10] (L - 1) (fun q v wr => ∃ (t : Nat) (vs : List Value), 1 ≤ t ∧ t ≤ L ∧ q = L - t ∧ PackIn S w (wsOf lo ss) g k t v vs wr)
      case atStart => exact ⟨1, _, by omega, hL1, rfl, HI'.out⟩
      case round =>
        clear HI'
        obtain ⟨t, vs, ht1, htL, rfl, hvl, hown, hrows, hsing, hbel⟩ := hrel
        have HO := Lib.hid hown; clear hown
        have HR := Lib.hid hrows; clear hrows
        have HSg := Lib.hid hsing; clear hsing
        have HB := Lib.hid hbel; clear hbel
        have HVL := Lib.hid hvl; clear hvl
        obtain ⟨g10, cap, rfl, hcap, _⟩ := own_pos HO.out (by omega)
        by_cases hlt : t < L
        · obtain ⟨t', ht'⟩ : ∃ t', t = t' + 1 := ⟨t - 1, by omega⟩
          obtain ⟨u, hu1, hu2⟩ := HR.out t' (by rw [HVL.out]; omega)
          obtain ⟨Au, cu, rfl, _, hsu⟩ := own_seen hu2
          obtain ⟨hcell, _, _⟩ := own_cell HO.out hu1
          obtain ⟨p1, p2, _⟩ := rowAt_props S (wsOf lo ss) (by rw [HWL.out]; exact hN) HWs.out t'
          have hcost := rowAt_cost S (wsOf lo ss) (by rw [HWL.out]; exact hN) HWs.out t' (by omega)
          rw [HWL.out] at p1 p2
          have e0 : (rowAt S (wsOf lo ss) 0).length = k := by simp [rowAt, singles, HWL.out]
          have CM := Lib.hid (merged_any S (some ⟨g, 0, none⟩) Au k k (rowAt S (wsOf lo ss) t').length cu wr.heap.size (rowAt S (wsOf lo ss) 0) (rowAt S (wsOf lo ss) t') e0 rfl (by omega) (by omega) (by omega) hN0 hcost wr (Seen.of_own HSg.out) hsu (Nat.le_refl _))
          have ER : Hid (S.sP (rowAt S (wsOf lo ss) 0 ++ pairs (rowAt S (wsOf lo ss) t')) = rowAt S (wsOf lo ss) t) := Lib.hid (by rw [ht']; rfl)
          have EL : Hid ((rowAt S (wsOf lo ss) 0 ++ pairs (rowAt S (wsOf lo ss) t')).length = (rowAt S (wsOf lo ss) t).length) := Lib.hid (by
            have h := (S.permP (singles (wsOf lo ss) ++ pairs (rowAt S (wsOf lo ss) t')) (by simp [singles, pairs_length, HWL.out]; omega)).1.length_eq
            rw [ht']
            exact h.symm)
          obtain ⟨nb, hnb⟩ : ∃ nb, (rowAt S (wsOf lo ss) t').length = nb := ⟨_, rfl⟩
          rw [hnb] at CM hcell
          have hz := HB.out.size
          have wt : IntKind.i64.wrap ((t : Int) - 1) = t' := by rw [IntWalk.i64_in _ (by omega)]; omega
          have wt2 : (t : Int) - 1 = t' := by omega
          have HT := Lib.hid ht'
          clear hsu hu1 hu2 hcost hnb p1 p2 e0
          have t0 : (0 : Int) ≤ t' := by omega
          have tn : (t' : Int) < t := by omega
          clear ht'
          -- what an append leaves
          have hAp : ∀ (v2 : Value) (w2 v7 w7), w2.ownsRow wr.heap.size 93 2 v2 (rowAt S (wsOf lo ss) t).length (pv (rowAt S (wsOf lo ss) t)) → Below wr.heap.size wr w2 →
              w7.ownsRow w.heap.size 91 1 v7 (t + 1) (vs ++ [v2]) → (w2.alloc (.cells #[v2] 91)).grownBy w7 (some g10) → PackIn S w (wsOf lo ss) g k (t + 1) v7 (vs ++ [v2]) w7 := by
            intro v2 w2 v7 w7 ho2 hb2 hown7 hg7
            have hz2 := hb2.size
            have hO10 : w2.ownsRow w.heap.size 91 1 (.slice (some ⟨g10, 0, none⟩) t cap) t vs := own_only HO.out (Only.of_below hb2 Nob) (fun _ _ h => h)
            have hg10 := (own_whole HO.out (k := g10) rfl).1
            have keep : ∀ {B n : Nat} {u : Value} {xs : List Value}, w2.ownsRow B 93 2 u n xs → w7.ownsRow B 93 2 u n xs := by
              intro B n u xs h
              refine (h.alloc _).kept hg7 ?_
              cases hv : u.ownBlock with
              | none => exact .inl rfl
              | some q => exact .inr (fun e => own_ne_own h hO10 (by decide) q hv (by rw [e]; rfl))
            refine ⟨by rw [List.length_append, HVL.out]; rfl, hown7, ?_, keep (own_only HSg.out (Only.of_below hb2 Nob) (fun _ _ h => h)), ?_⟩
            · intro i hi
              rw [List.length_append, HVL.out] at hi
              rcases Nat.lt_or_ge i t with h | h
              · obtain ⟨u, h1, h2⟩ := HR.out.keep hb2 i (by rw [HVL.out]; exact h)
                exact ⟨u, by rw [List.getElem?_append_left (by rw [HVL.out]; exact h)]; exact h1, keep h2⟩
              · obtain rfl : i = t := by simp at hi; omega
                refine ⟨v2, by rw [List.getElem?_append_right (by rw [HVL.out]; exact Nat.le_refl _), HVL.out]; simp, keep (own_base ho2 hz)⟩
            · exact ((HB.out.trans (hb2.mono hz)).alloc (by omega) _).grown hg7 (by simp; omega) (by intro i hi; injection hi with hi; omega)
          have HAp := Lib.hid hAp; clear hAp
          go_wp2_with (first
            | (go_at_call 53; refine CM.out.mono ?_; rintro e w2 ⟨v2, rfl, ho2, hb2⟩; rw [ER.out, EL.out] at ho2; obtain ⟨A9, c9, rfl, _⟩ := own_form ho2; have HO2 := Lib.hid ho2; have HB2 := Lib.hid hb2; clear ho2 hb2; have hz2 := HB2.out.size; have HO10 := Lib.hid (own_only HO.out (Only.of_below HB2.out Nob) (fun _ _ h => h)))
            | (at_builtin; refine wpList_append_seen _ rfl (.tmp 36) (.tmp 45) _ rfl w.heap.size 91 j0 _ 1 24 Try.underlying68 HJ0.out HY0.out HY1.out HY2.out rfl (by omega) (.slice (some ⟨g10, 0, none⟩) t cap) t _ rfl (HO10.out.alloc _) _ _ 1 1 _ rfl (seen_one _ _ _) (by simp [Value.oneCell']) (by simp only [maxLen]; omega) (by omega) (by simp only [World.size_alloc]; omega) ?_; intro v7 w7 hown7 hg7 hat7; have HP := Lib.hid (HAp.out _ w2 v7 w7 HO2.out HB2.out hown7 hg7); clear hown7 hg7 hat7))
          go_roundg (L - (t + 1))
          case measure => omega
          case rel => exact ⟨t + 1, _, by omega, by omega, rfl, HP.out⟩
        · obtain rfl : t = L := by omega
          go_wp2_with fail
          go_ret
          exact ⟨_, vs, rfl, HVL.out, HO.out, HR.out, HB.out⟩
end Go.Proofs.Ytijjcecboepiiaa
