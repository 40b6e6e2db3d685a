/-
  Packages merged: rows of packs, how many single ones are taken of each, what they cost; no other lengths cost less. Conditions: none. Nothing of the program stands here.
  The library's insertion sort at this program's two kinds of rows; a row of the call's own behind a sort. Conditions: each theorem names the range of its arguments.
  Sorts of this program's two kinds of rows, of fewer than twenty. Conditions: fewer than twenty.
  Contracts of lengths: isBeyond, rarestFirst. Conditions: as many signs as the sorts serve.
  Contracts of lengths: merged. Conditions: as many packs as the sorts serve.
-/
import Derived.WalkKit
import Derived.Test.YtkjhefjjacokjaaGreatW5
import Derived.Shelf.SlSortCmp.KitK
import Derived.Shelf.SlSortCmp.Insertion1
import Derived.Lib.OwnBridge
import Derived.Deep.QuietTactic
import Derived.BigQuiet
import Derived.Test.YtkjhefjjacokjaaGreatH
namespace Go.Proofs.YtkjhefjjacokjaaGreat

/-- A pack: its cost; is it made of two? -/
abbrev Pk := Nat × Bool
def costs (r : List Pk) : List Nat := r.map (·.1)
def pcost (r : List Pk) : Nat := (costs r).sum
/-- Two by two. -/
def pairs : List Pk → List Pk
  | a :: b :: r => (a.1 + b.1, true) :: pairs r
  | _ => []
def singles (ws : List Nat) : List Pk := ws.map fun x => (x, false)
def SortedN (l : List Nat) : Prop := l.Pairwise (· ≤ ·)
theorem pairs_length : ∀ r : List Pk, (pairs r).length = r.length / 2
  | [] => rfl
  | [_] => by simp [pairs]
  | a :: b :: r => by simp only [pairs, List.length_cons, pairs_length r]; omega
theorem pairs_true : ∀ (r : List Pk) x, x ∈ pairs r → x.2 = true
  | [], x, h => by simp [pairs] at h
  | [_], x, h => by simp [pairs] at h
  | a :: b :: r, x, h => by
    simp only [pairs, List.mem_cons] at h
    rcases h with rfl | h
    · rfl
    · exact pairs_true r x h
/-- The first t pairs are of the first 2t packs. -/
theorem pairs_take : ∀ (r : List Pk) (t : Nat), 2 * t ≤ r.length → pcost ((pairs r).take t) = pcost (r.take (2 * t))
  | _, 0, _ => by simp
  | [], t + 1, h => by simp at h
  | [_], t + 1, h => by simp at h; omega
  | a :: b :: r, t + 1, h => by
    have := pairs_take r t (by simp at h; omega)
    rw [show 2 * (t + 1) = 2 * t + 1 + 1 by omega]
    simp only [pairs, List.take_succ_cons, pcost, costs, List.map_cons, List.sum_cons] at this ⊢
    omega
theorem pairs_get : ∀ (r : List Pk) (t : Nat) (h : 2 * t + 1 < r.length), (pairs r)[t]? = some (r[2 * t].1 + r[2 * t + 1].1, true)
  | [], t, h => by simp at h
  | [_], t, h => by simp at h
  | a :: b :: r, 0, h => by simp [pairs]
  | a :: b :: r, t + 1, h => by
    have := pairs_get r t (by simp at h; omega)
    simp only [pairs, List.getElem?_cons_succ, this]
    rfl
theorem pairs_sorted : ∀ r : List Pk, SortedN (costs r) → SortedN (costs (pairs r))
  | [], _ => List.Pairwise.nil
  | [_], _ => List.Pairwise.nil
  | a :: b :: r, h => by
    simp only [SortedN, costs, List.map_cons, List.pairwise_cons] at h
    obtain ⟨h1, h2, h3⟩ := h
    have ih := pairs_sorted r h3
    simp only [SortedN, pairs, costs, List.map_cons, List.pairwise_cons] at ih ⊢
    refine ⟨?_, ih⟩
    have key : ∀ (r : List Pk) x y, (∀ z ∈ r.map (·.1), x ≤ z ∧ y ≤ z) → ∀ c ∈ (pairs r).map (·.1), x + y ≤ c := by
      intro r
      induction r using pairs.induct with
      | case1 a b r ih =>
        intro x y hz c hc
        simp only [pairs, List.map_cons, List.mem_cons] at hc
        rcases hc with rfl | hc
        · have h1 := hz a.1 (by simp)
          have h2 := hz b.1 (by simp)
          omega
        · exact ih x y (fun z hz' => hz z (by simp only [List.map_cons, List.mem_cons]; exact .inr (.inr hz'))) c hc
      | case2 r hne =>
        intro x y _ c hc
        rw [pairs] at hc
        · simp at hc
        · exact hne
    exact key r a.1 b.1 fun z hz => ⟨h1 z (List.mem_cons_of_mem _ hz), h2 z hz⟩
/-- The rows, the top one first: each one is in order, and has the single packs and the pairs of the row below. -/
def Rows (ws : List Nat) : List (List Pk) → Prop
  | [] => False
  | [r] => r = singles ws
  | r :: r' :: rest => SortedN (costs r) ∧ r.Perm (singles ws ++ pairs r') ∧ Rows ws (r' :: rest)
theorem rows_sorted {ws : List Nat} (hw : SortedN ws) {r : List Pk} {rest : List (List Pk)} (h : Rows ws (r :: rest)) : SortedN (costs r) := by
  cases rest with
  | nil =>
    have h : r = singles ws := h
    subst h
    have e : costs (singles ws) = ws := by simp [costs, singles, Function.comp_def]
    rw [e]; exact hw
  | cons r' rest => exact h.1
/-- How many single ones are taken of each row. -/
def cut : List (List Pk) → Nat → List Nat
  | [], _ => []
  | r :: rest, m => ((r.take m).filter (!·.2)).length :: cut rest (2 * (m - ((r.take m).filter (!·.2)).length))
theorem cut_length : ∀ (rows : List (List Pk)) m, (cut rows m).length = rows.length
  | [], _ => rfl
  | r :: rest, m => by simp [cut, cut_length rest]
theorem sorted_eq {a b : List Nat} (ha : SortedN a) (hb : SortedN b) (h : a.Perm b) : a = b :=
  List.Perm.eq_of_pairwise (fun _ _ _ _ h1 h2 => Nat.le_antisymm h1 h2) ha hb h
theorem costs_append (a b : List Pk) : costs (a ++ b) = costs a ++ costs b := by simp [costs]
theorem singles_costs (ws : List Nat) : costs (singles ws) = ws := by simp [costs, singles, Function.comp_def]
theorem pcost_filter (l : List Pk) : pcost (l.filter (!·.2)) + pcost (l.filter (·.2)) = pcost l := by
  induction l with
  | nil => rfl
  | cons a l ih =>
    obtain ⟨c, b⟩ := a
    cases b <;> simp [pcost, costs] at ih ⊢ <;> omega
theorem len_filter (l : List Pk) : (l.filter (!·.2)).length + (l.filter (·.2)).length = l.length := by
  induction l with
  | nil => rfl
  | cons a l ih =>
    obtain ⟨c, b⟩ := a
    cases b <;> simp at ih ⊢ <;> omega
/-- What the first m packs of a row are. -/
structure Split (ws : List Nat) (q : List Nat) (r : List Pk) (m : Nat) where
  wa : List Nat
  wb : List Nat
  qa : List Nat
  qb : List Nat
  hw : ws = wa ++ wb
  hq : q = qa ++ qb
  hs : wa.length = ((r.take m).filter (!·.2)).length
  hm : wa.length + qa.length = m
  hc : pcost (r.take m) = wa.sum + qa.sum
  h1 : ∀ x ∈ wa, ∀ y ∈ qb, x ≤ y
  h2 : ∀ x ∈ qa, ∀ y ∈ wb, x ≤ y
theorem split_row {ws : List Nat} {q : List Pk} {r : List Pk} {m : Nat} (hws : SortedN ws) (hqs : SortedN (costs q)) (hqt : ∀ x ∈ q, x.2 = true) (hr : SortedN (costs r)) (hp : r.Perm (singles ws ++ q)) (hm : m ≤ r.length) :
    Nonempty (Split ws (costs q) r m) := by
  have hsq : ∀ p : Pk → Bool, (r.filter p).Perm ((singles ws).filter p ++ q.filter p) := fun p => by rw [← List.filter_append]; exact hp.filter p
  have f1 : (singles ws).filter (!·.2) = singles ws := List.filter_eq_self.2 (by intro a ha; simp only [singles, List.mem_map] at ha; obtain ⟨x, _, rfl⟩ := ha; rfl)
  have f2 : q.filter (!·.2) = [] := List.filter_eq_nil_iff.2 (by intro a ha; simp [hqt a ha])
  have f3 : (singles ws).filter (·.2) = [] := List.filter_eq_nil_iff.2 (by intro a ha; simp only [singles, List.mem_map] at ha; obtain ⟨x, _, rfl⟩ := ha; simp)
  have f4 : q.filter (·.2) = q := List.filter_eq_self.2 (by intro a ha; simp [hqt a ha])
  have sub : ∀ p : Pk → Bool, SortedN (costs (r.filter p)) := fun p => by
    have h := hr
    simp only [SortedN, costs, List.pairwise_map] at h ⊢
    exact h.filter p
  have e1 : costs (r.filter (!·.2)) = ws := by
    refine sorted_eq (sub _) hws ?_
    have := (hsq (!·.2)).map (·.1)
    rw [f1, f2, List.append_nil] at this
    have e := singles_costs ws
    rw [costs] at e
    rwa [e] at this
  have e2 : costs (r.filter (·.2)) = costs q := by
    refine sorted_eq (sub _) hqs ?_
    have := (hsq (·.2)).map (·.1)
    rwa [f3, f4, List.nil_append] at this
  have hcut : ∀ p : Pk → Bool, costs (r.filter p) = costs ((r.take m).filter p) ++ costs ((r.drop m).filter p) := fun p => by
    rw [← costs_append, ← List.filter_append, List.take_append_drop]
  have hle : ∀ x ∈ r.take m, ∀ y ∈ r.drop m, x.1 ≤ y.1 := by
    have h := hr
    rw [← List.take_append_drop m r] at h
    simp only [SortedN, costs, List.pairwise_map] at h
    exact (List.pairwise_append.1 h).2.2
  have mem : ∀ (p : Pk → Bool) (l : List Pk) x, x ∈ costs (l.filter p) → ∃ y ∈ l, y.1 = x := by
    intro p l x hx
    simp only [costs, List.mem_map] at hx
    obtain ⟨y, hy, rfl⟩ := hx
    exact ⟨y, (List.mem_filter.1 hy).1, rfl⟩
  refine ⟨⟨costs ((r.take m).filter (!·.2)), costs ((r.drop m).filter (!·.2)), costs ((r.take m).filter (·.2)), costs ((r.drop m).filter (·.2)), ?_, ?_, ?_, ?_, ?_, ?_, ?_⟩⟩
  · rw [← hcut, e1]
  · rw [← hcut, e2]
  · simp [costs]
  · have := len_filter (r.take m)
    simp only [costs, List.length_map]
    rw [this, List.length_take]
    omega
  · exact (pcost_filter (r.take m)).symm
  · intro x hx y hy
    obtain ⟨x', hx', rfl⟩ := mem _ _ _ hx
    obtain ⟨y', hy', rfl⟩ := mem _ _ _ hy
    exact hle x' hx' y' hy'
  · intro x hx y hy
    obtain ⟨x', hx', rfl⟩ := mem _ _ _ hx
    obtain ⟨y', hy', rfl⟩ := mem _ _ _ hy
    exact hle x' hx' y' hy'
end Go.Proofs.YtkjhefjjacokjaaGreat

namespace Go.Proofs.YtkjhefjjacokjaaGreat
open Go.Proofs Go.Shelf Go.RowKit Go.Sort Go.Lib
set_option maxRecDepth 100000
def Tryz.insI_ren : Go.Shelf.Ren := ⟨fun | 20 => 119 | n => n, fun | 24 => 3 | 22 => 54 | 3 => 3 | 25 => 66 | 4 => 4 | 0 => 0 | n => n, fun | n => n⟩
theorem Tryz.insI : Go.Proofs.SlLaysF.n20 Tryz.prog Tryz.insI_ren := {
  mixed := by kernel_rfl
  f20 := ⟨Tryz.f119.name, by decide, Tryz.func119.trans (congrArg some (by kernel_rfl))⟩
  t0 := Tryz.underlying0
  a0 := Tryz.isAgg0
  z0 := Tryz.sizeOf0
  v0 := Tryz.zeroValue0
  t3 := Tryz.underlying3
  a3 := Tryz.isAgg3
  z3 := Tryz.sizeOf3
  v3 := Tryz.zeroValue3
  t4 := Tryz.underlying4
  a4 := Tryz.isAgg4
  z4 := Tryz.sizeOf4
  v4 := Tryz.zeroValue4
  t22 := Tryz.underlying54
  a22 := Tryz.isAgg54
  z22 := Tryz.sizeOf54
  v22 := Tryz.zeroValue54
  a24 := Tryz.isAgg3
  z24 := Tryz.sizeOf3
  t25 := Tryz.underlying66
  a25 := Tryz.isAgg66
  z25 := Tryz.sizeOf66
  v25 := Tryz.zeroValue66 }
def Tryz.insP_ren : Go.Shelf.Ren := ⟨fun | 20 => 123 | n => n, fun | 24 => 151 | 22 => 149 | 3 => 3 | 25 => 157 | 4 => 4 | 0 => 0 | n => n, fun | n => n⟩
theorem Tryz.insP : Go.Proofs.SlLaysF0.n20 Tryz.prog Tryz.insP_ren := {
  mixed := by kernel_rfl
  f20 := ⟨Tryz.f123.name, by decide, Tryz.func123.trans (congrArg some (by kernel_rfl))⟩
  t0 := Tryz.underlying0
  a0 := Tryz.isAgg0
  z0 := Tryz.sizeOf0
  v0 := Tryz.zeroValue0
  t3 := Tryz.underlying3
  a3 := Tryz.isAgg3
  z3 := Tryz.sizeOf3
  v3 := Tryz.zeroValue3
  t4 := Tryz.underlying4
  a4 := Tryz.isAgg4
  z4 := Tryz.sizeOf4
  v4 := Tryz.zeroValue4
  t22 := Tryz.underlying149
  a22 := Tryz.isAgg149
  z22 := Tryz.sizeOf149
  v22 := Tryz.zeroValue149
  t25 := Tryz.underlying157
  a25 := Tryz.isAgg157
  z25 := Tryz.sizeOf157
  v25 := Tryz.zeroValue157 }
section
variable {α : Type} [Inhabited α]
theorem onlyPut (enc : α → Value) (w : World) (q g off : Nat) (d : Array α) (os : Array Obj) : Only (fun k => k = g) w (grow (putRow enc (Sort.ahead w q) g off d) os) := by
  refine ⟨rfl, rfl, rfl, ?_, ?_⟩
  · simp [grow, putRow, mapBlock, Sort.ahead]
  · intro i hi hn
    have hgi : ¬ g = i := fun e => hn e.symm
    show (w.heap.modify g (onCells (putCells enc off d)) ++ os)[i]? = w.heap[i]?
    rw [Array.getElem?_append_left (by simpa using hi), Array.getElem?_modify, if_neg hgi]
theorem ownPut (enc : α → Value) {w : World} {base : Nat} {e : TypeId} {g n cap size : Nat} {xs : List Value} (h : w.ownsRow base e size (.slice (some ⟨g, 0, none⟩) n cap) n xs) (q : Nat) (d : Array α) (hd : d.size = n * size) (os : Array Obj) :
    (grow (putRow enc (Sort.ahead w q) g 0 d) os).ownsRow base e size (.slice (some ⟨g, 0, none⟩) n cap) n (d.toList.map enc) := by
  rcases h.2 with ⟨e0, _⟩ | ⟨g', cap', cur, e0, hb, hg, hn, hm, hs, ht⟩
  · cases e0
  · injection e0 with e1 _ e3
    injection e1 with e1
    injection e1 with e1
    subst e1; subst e3
    have hgl := (Array.getElem?_eq_some_iff.1 hg).1
    have hmul : n * size ≤ cap * size := Nat.mul_le_mul_right _ hn
    refine ⟨by simp; omega, .inr ⟨g, cap, putCells enc 0 d cur, rfl, hb, ?_, hn, hm, by simpa [putCells] using hs, ?_⟩⟩
    · show (w.heap.modify g (onCells (putCells enc 0 d)) ++ os)[g]? = _
      rw [Array.getElem?_append_left (by simpa using hgl), Array.getElem?_modify, if_pos rfl, hg]
      rfl
    · apply List.ext_getElem?
      intro j
      rw [List.getElem?_take, List.getElem?_map, Array.getElem?_toList]
      by_cases hj : j < n * size
      · have hjc : j < cur.size := by omega
        simp only [if_pos hj, putCells, Array.getElem?_mapIdx, Array.getElem?_eq_getElem hjc, Option.map_some]
        rw [if_pos (by omega), Array.getElem?_toList, Array.getElem?_eq_getElem (by omega)]
        simp [getElem!_pos, show j < d.size by omega]
      · rw [if_neg hj, List.getElem?_eq_none (by simp; omega)]; rfl
end

/-- cmp.Compare of integers. -/
def cmpI (x y : Int) : Int := if x < y then -1 else if y < x then 1 else 0
theorem nan_no (x : Int) (w : World) : Calls Tryz.prog 115 #[.int .i64 x] w fun e w' => e = .returned (.bool false) ∧ w = w' := by
  have hx : (x != x) = false := by simp
  go_enter Tryz.func115, Tryz.ntmps115
  go_wp2
  go_ret
  exact ⟨by simp, rfl⟩
theorem compare_any (x y : Int) (w : World) : Calls Tryz.prog 108 #[.int .i64 x, .int .i64 y] w fun e w' => e = .returned (.int .i64 (cmpI x y)) ∧ w = w' := by
  unfold cmpI
  by_cases h1 : x < y
  · rw [if_pos h1]
    have d1 : decide (x < y) = true := by simpa using h1
    go_enter Tryz.func108, Tryz.ntmps108
    go_wp2_with (go_at_call 115; refine (nan_no _ _).mono ?_; rintro e w1 ⟨rfl, rfl⟩)
    go_ret
    exact ⟨rfl, rfl⟩
  · rw [if_neg h1]
    have d1 : decide (x < y) = false := by simpa using h1
    by_cases h2 : y < x
    · rw [if_pos h2]
      have d2 : decide (y < x) = true := by simpa using h2
      go_enter Tryz.func108, Tryz.ntmps108
      go_wp2_with (go_at_call 115; refine (nan_no _ _).mono ?_; rintro e w1 ⟨rfl, rfl⟩)
      go_ret
      exact ⟨rfl, rfl⟩
    · rw [if_neg h2]
      have d2 : decide (y < x) = false := by simpa using h2
      go_enter Tryz.func108, Tryz.ntmps108
      go_wp2_with (go_at_call 115; refine (nan_no _ _).mono ?_; rintro e w1 ⟨rfl, rfl⟩)
      go_ret
      exact ⟨rfl, rfl⟩
/-- A pack's two cells. -/
def encP (p : Pk) : List Value := [.int .i64 (p.1 : Nat), .bool p.2]
theorem cloP (x y : Pk) (W : World) : Calls Tryz.prog 118 #[.agg (encP x).toArray, .agg (encP y).toArray] W fun e w' => e = .returned (.int .i64 (cmpI x.1 y.1)) ∧ ∃ q os', w' = grow (W.drewN q) os' := by
  obtain ⟨x, b⟩ := x
  obtain ⟨y, c⟩ := y
  have hcon := Lib.hid (fun W' => compare_any x y W')
  simp only [encP]
  generalize cmpI (x : Int) y = r at hcon ⊢
  go_enter Tryz.func118, Tryz.ntmps118
  go_wp2_with (go_at_call 108; refine (hcon.out _).mono ?_; rintro e w1 ⟨rfl, rfl⟩)
  go_ret
  exact ⟨rfl, 0, _, by rw [alloc_eq_grow, alloc_eq_grow, grow_grow]; rfl⟩
end Go.Proofs.YtkjhefjjacokjaaGreat

namespace Go.Proofs.YtkjhefjjacokjaaGreat
open Go.Proofs Go.Shelf Go.RowKit Go.Sort Go.Lib
set_option maxRecDepth 100000
theorem compare_quiet (x y : Int) (w : World) (n : Nat) : Calls Tryz.prog 108 #[.int .i64 x, .int .i64 y] (w.drewN n) fun e w'' => e = .returned (.int .i64 (cmpI x y)) ∧ ∃ m, w'' = w.drewN m :=
  (compare_any x y (w.drewN n)).mono fun _ _ ⟨he, hw⟩ => ⟨he, n, hw.symm⟩
theorem cloI (lo : List Int) (n bx b o c : Nat) (hn : lo.length = n) (W : World) (hbx : W.cell? ⟨bx, 0, none⟩ = some (.slice (some ⟨b, o, none⟩) n c)) (hc : ∀ i (h : i < lo.length), W.cell? ⟨b, o + i, none⟩ = some (.int .i64 lo[i])) (x y : Nat) (hx : x < n) (hy : y < n) :
    Calls Tryz.prog 107 #[.int .i64 (x : Nat), .int .i64 (y : Nat), .pointer (some ⟨bx, 0, none⟩)] W fun e w' => e = .returned (.int .i64 (cmpI (lo.getD x 0) (lo.getD y 0))) ∧ ∃ q os', w' = grow (W.drewN q) os' := by
  have cx := hc x (by omega)
  have cy := hc y (by omega)
  have ex : lo[x]'(by omega) = lo.getD x 0 := by simp [List.getD, show x < lo.length by omega]
  have ey : lo[y]'(by omega) = lo.getD y 0 := by simp [List.getD, show y < lo.length by omega]
  rw [ex] at cx
  rw [ey] at cy
  clear hc ex ey hn
  generalize lo.getD x 0 = u at *
  generalize lo.getD y 0 = v at *
  have x0 : (0 : Int) ≤ x := by omega
  have y0 : (0 : Int) ≤ y := by omega
  have xn : (x : Int) < n := by omega
  have yn : (y : Int) < n := by omega
  go_enter Tryz.func107, Tryz.ntmps107
  go_wp2_with fail
  go_quiet ((go_at_call 108; exact compare_quiet _ _ _ _))
  go_wp2_with fail
  go_ret
  exact ⟨rfl, _, #[], by rw [grow_empty]⟩
/-- Values of signs. -/
def sv' (ps : List Nat) : List Value := ps.map fun s => .int .i64 (s : Nat)
/-- Signs, so that each of them is one. -/
def fins (n : Nat) (h : 0 < n) (ss : List Nat) : Array (Fin n) := (ss.map fun s => if hs : s < n then ⟨s, hs⟩ else ⟨0, h⟩).toArray
def encF (n : Nat) (x : Fin n) : Value := .int .i64 (x.val : Nat)
theorem fins_enc (n : Nat) (h : 0 < n) (ss : List Nat) (hs : ∀ s ∈ ss, s < n) : (fins n h ss).toList.map (encF n) = sv' ss := by
  simp only [fins, List.map_map, sv', encF, Function.comp_def]
  apply List.map_congr_left
  intro s hs'
  rw [dif_pos (hs s hs')]
theorem fins_val (n : Nat) (h : 0 < n) (ss : List Nat) (hs : ∀ s ∈ ss, s < n) : (fins n h ss).toList.map (·.val) = ss := by
  simp only [fins, List.map_map, Function.comp_def]
  conv => rhs; rw [← List.map_id ss]
  apply List.map_congr_left
  intro s hs'
  rw [dif_pos (hs s hs')]; rfl
def cfI (lo : List Int) (n : Nat) (x y : Fin n) : Int := cmpI (lo.getD x.val 0) (lo.getD y.val 0)
theorem lt_cmp (a b : Int) : decide (cmpI a b < 0) = decide (a < b) := by
  unfold cmpI
  by_cases h : a < b
  · simp [h]
  · by_cases h2 : b < a <;> simp [h, h2]
theorem swoOf {α : Type} (f : α → Int) : SWO (ltOf fun x y : α => cmpI (f x) (f y)) := by
  refine ⟨fun x => ?_, fun x y z h1 h2 => ?_, fun x y z h1 h2 => ?_⟩
  · simp [ltOf, lt_cmp]
  · simp only [ltOf, lt_cmp, decide_eq_true_eq] at *; omega
  · simp only [ltOf, lt_cmp, decide_eq_false_iff_not] at *; omega
theorem swoI (lo : List Int) (n : Nat) : SWO (ltOf (cfI lo n)) := swoOf fun x : Fin n => lo.getD x.val 0
def cfP (x y : Pk) : Int := cmpI x.1 y.1
theorem swoP : SWO (ltOf cfP) := swoOf fun x : Pk => (x.1 : Int)
/-- The insertion sort of a row of packs, from a world of the sort's to a world of the sort's. -/
theorem insP_w (blk cap a b : Nat) (d0 d : Array Pk) (w0 w : World) (hcmp : CmpLays Tryz.prog 118 #[] encP 2 cfP blk 0 d0.size w0) (R : RowK encP 2 w0 blk 0 d0) (hs : d0.size = d.size) (S : SWK encP 2 w0 blk 0 d w) (hab : a ≤ b) (hb : b ≤ d.size) (hsz : d.size < 4611686018427387904) :
    Calls Tryz.prog 123 #[.slice (some ⟨blk, 0, none⟩) d.size cap, .int .i64 a, .int .i64 b, .func (.func 118) #[] #[]] w fun e w' => e = .returned (.tuple #[]) ∧ SWK encP 2 w0 blk 0 (Sort.insertionSort (ltOf cfP) d a b) w' := by
  have eg : ∀ args w, (callFunc 118 args).run Tryz.prog w = .ok (.enter 118 args) w := enters_of Tryz.func118 (by kernel_rfl) rfl
  have hs' : (Sort.insertionSort (ltOf cfP) d a b).size = d.size := (insertionSort_holds swoP d a b hab hb).1.1
  have hC : CmpLays Tryz.prog 118 #[] encP 2 cfP blk 0 d.size w := fun m os dk hdk x y => by
    obtain ⟨n0, os0, rfl⟩ := S
    rw [sortWorldK_on encP 2 w0 blk 0 n0 m d dk os0 os R.hblk hdk]
    exact hcmp _ _ dk (by omega) x y
  refine (AnyQ.insertionSortCmpFunc Tryz.insP 2 Tryz.isAgg151 Tryz.sizeOf151 encP R.hk R.h1 cfP 118 #[] blk 0 cap a b d w eg hC (S.holds R.hblk R.hH hs.symm) (S.lt R.hblk) hab hb hsz).mono ?_
  rintro e w' ⟨rfl, n, os, rfl⟩
  exact ⟨rfl, S.on R.hblk n _ os hs'⟩
theorem cmpLaysP (blk off size : Nat) (w : World) : CmpLays Tryz.prog 118 #[] encP 2 cfP blk off size w := fun _ _ _ _ x y => cloP x y _
theorem cmpLaysI (lo : List Int) (n bx b o c : Nat) [Inhabited (Fin n)] (hn : lo.length = n) (blk size : Nat) (w : World) (hbx : w.cell? ⟨bx, 0, none⟩ = some (.slice (some ⟨b, o, none⟩) n c)) (hc : ∀ i (h : i < lo.length), w.cell? ⟨b, o + i, none⟩ = some (.int .i64 lo[i])) (h1 : bx ≠ blk) (h2 : b ≠ blk) :
    CmpLays1 Tryz.prog 107 #[.pointer (some ⟨bx, 0, none⟩)] (encF n) (cfI lo n) blk 0 size w := by
  intro m os dk _ x y
  unfold sortWorld
  have hO := onlyPut (encF n) w m blk 0 dk os
  exact cloI lo n bx b o c hn _ (hO.cell hbx h1) (fun i h => hO.cell (hc i h) h2) x.val y.val x.isLt y.isLt
/-- What is used of the two sorts, up to N. -/
structure Sorter (N : Nat) where
  sI : List Int → List Nat → List Nat
  sP : List Pk → List Pk
  permI : ∀ (lo : List Int) (ss : List Nat), (∀ s ∈ ss, s < lo.length) → ss.length ≤ N → (sI lo ss).Perm ss ∧ (sI lo ss).Pairwise (fun a b => lo.getD a 0 ≤ lo.getD b 0)
  permP : ∀ r : List Pk, r.length ≤ N → (sP r).Perm r ∧ SortedN (costs (sP r))
  callI : ∀ (lo : List Int) (n bx b o c : Nat) (_ : lo.length = n) (base blk cap : Nat) (ss : List Nat) (w : World) (_ : ∀ s ∈ ss, s < n) (_ : 0 < ss.length) (_ : ss.length ≤ N)
    (_ : w.cell? ⟨bx, 0, none⟩ = some (.slice (some ⟨b, o, none⟩) n c)) (_ : ∀ i (h : i < lo.length), w.cell? ⟨b, o + i, none⟩ = some (.int .i64 lo[i])) (_ : bx ≠ blk) (_ : b ≠ blk)
    (_ : w.ownsRow base 3 1 (.slice (some ⟨blk, 0, none⟩) ss.length cap) ss.length (sv' ss)),
    Calls Tryz.prog 106 #[.slice (some ⟨blk, 0, none⟩) ss.length cap, .func (.func 107) #[] #[.pointer (some ⟨bx, 0, none⟩)]] w fun e w' =>
      e = .returned (.tuple #[]) ∧ w'.ownsRow base 3 1 (.slice (some ⟨blk, 0, none⟩) ss.length cap) ss.length (sv' (sI lo ss)) ∧ Only (fun k => k = blk) w w'
  callP : ∀ (base blk cap : Nat) (r : List Pk) (w : World) (_ : 0 < r.length) (_ : r.length ≤ N) (_ : w.ownsRow base 151 2 (.slice (some ⟨blk, 0, none⟩) r.length cap) r.length (r.flatMap encP)),
    Calls Tryz.prog 117 #[.slice (some ⟨blk, 0, none⟩) r.length cap, .func (.func 118) #[] #[]] w fun e w' =>
      e = .returned (.tuple #[]) ∧ w'.ownsRow base 151 2 (.slice (some ⟨blk, 0, none⟩) r.length cap) r.length ((sP r).flatMap encP) ∧ Only (fun k => k = blk) w w'
theorem sorted_toList {α : Type} [Inhabited α] (f : α → Int) (d : Array α) (h : SortedIn (ltOf fun x y => cmpI (f x) (f y)) 0 d.size d) : d.toList.Pairwise (fun a b => f a ≤ f b) := by
  rw [List.pairwise_iff_getElem]
  intro i j hi hj hij
  have := h i j (Nat.zero_le _) hij (by simpa using hj)
  simp only [ltOf, lt_cmp, decide_eq_false_iff_not] at this
  rw [getElem!_pos d i (by simpa using hi), getElem!_pos d j (by simpa using hj)] at this
  simp only [Array.getElem_toList]
  omega
theorem perm_toList {α : Type} [Inhabited α] (d d' : Array α) (h : PermIn 0 d.size d d') : d'.toList.Perm d.toList := by
  have h3 := h.2.2
  have e1 : d'.extract 0 d.size = d' := by rw [← h.1]; simp
  have e2 : d.extract 0 d.size = d := by simp
  rwa [e1, e2] at h3
theorem flat_at : ∀ (l : List Pk) (i : Nat), i < l.length * 2 → (l.flatMap encP)[i]? = some ((encP (l.getD (i / 2) default))[i % 2]!)
  | [], i, h => by simp at h
  | a :: l, 0, _ => by simp [encP]
  | a :: l, 1, _ => by simp [encP]
  | a :: l, i + 2, h => by
    have ih := flat_at l i (by simp at h; omega)
    have e : ((a :: l).flatMap encP)[i + 2]? = (l.flatMap encP)[i]? := by
      rw [List.flatMap_cons, List.getElem?_append_right (by simp [encP])]
      simp [encP]
    rw [e, ih, show (i + 2) / 2 = i / 2 + 1 by omega, show (i + 2) % 2 = i % 2 by omega]
    rfl
theorem flat_len (l : List Pk) : (l.flatMap encP).length = l.length * 2 := by
  induction l with
  | nil => rfl
  | cons a l ih => simp [encP] at ih ⊢; omega
theorem flat_encP (d : Array Pk) : (flatK encP 2 d).toList = d.toList.flatMap encP := by
  apply List.ext_getElem?
  intro i
  by_cases h : i < d.size * 2
  · rw [flat_at _ _ (by simpa using h), Array.getElem?_toList, Array.getElem?_eq_getElem (by simpa using h), ← getElem!_pos (flatK encP 2 d) i (by simpa using h), get_flatK encP 2 d i h]
    congr 3
    have : i / 2 < d.size := by omega
    simp [List.getD, this]
  · rw [List.getElem?_eq_none (by simp; omega), List.getElem?_eq_none (by rw [flat_len]; simp; omega)]
@[reducible] def inhF (n : Nat) (h : 0 < n) : Inhabited (Fin n) := ⟨⟨0, h⟩⟩
/-- Signs sorted by how often they come, the sort being f. -/
def sortI (lo : List Int) (ss : List Nat) : List Nat := if h : 0 < lo.length then (@Sort.insertionSort (Fin lo.length) (inhF _ h) (ltOf (cfI lo lo.length)) (fins lo.length h ss) 0 ss.length).toList.map (·.val) else ss
end Go.Proofs.YtkjhefjjacokjaaGreat

namespace Go.Proofs.YtkjhefjjacokjaaGreat
open Go.Proofs Go.Shelf Go.RowKit Go.Sort Go.Lib
set_option maxRecDepth 100000
/-- May a number be? -/
def beyond (x : Int) : Bool := decide (x < 0 ∨ 16777216 < x)
theorem isBeyond_any (x : Int) (w : World) : Calls Tryz.prog 90 #[.int .i64 x] w fun e w' => e = .returned (.bool (beyond x)) ∧ w = w' := by
  by_cases h0 : x < 0
  · have e : beyond x = true := by simp [beyond, h0]
    rw [e]
    have d0 : decide (x < 0) = true := by simpa using h0
    clear e
    go_enter Tryz.func90, Tryz.ntmps90
    go_wp2
    go_ret
    exact ⟨rfl, rfl⟩
  · have d0 : decide (x < 0) = false := by simpa using h0
    by_cases h1 : 16777216 < x
    · have e : beyond x = true := by simp [beyond, h1]
      rw [e]
      have d1 : decide (16777216 < x) = true := by simpa using h1
      clear e
      go_enter Tryz.func90, Tryz.ntmps90
      go_wp2
      go_ret
      exact ⟨rfl, rfl⟩
    · have e : beyond x = false := by simp [beyond]; omega
      rw [e]
      have d1 : decide (16777216 < x) = false := by simpa using h1
      clear e
      go_enter Tryz.func90, Tryz.ntmps90
      go_wp2
      go_ret
      exact ⟨rfl, rfl⟩
/-- The place of the first one that may not be, or -1. -/
theorem indexFunc_any (A : Option Addr) (n c B : Nat) (l : List Int) (hn : l.length = n) (hl : n ≤ 1000) (w : World) (hs : Seen w B 1 A n c (iv l)) :
    Calls Tryz.prog 105 #[.slice A n c, .func (.func 90) #[] #[]] w fun e w' => (∃ r : Int, e = .returned (.int .i64 r) ∧ decide (0 ≤ r) = l.any beyond) ∧ w = w' := by
  have HS := Lib.hid hs; clear hs
  have HN := Lib.hid hn; clear hn
  go_enter Tryz.func105, Tryz.ntmps105
  go_wp2
  go_loop [5, 8] (fun _ i => ∃ k : Nat, k ≤ n ∧ i = .int .i64 k ∧ (l.take k).any beyond = false) (fun _ i => n - (intOf i).toNat)
  case atStart => exact ⟨0, by omega, rfl, rfl⟩
  case round =>
    obtain ⟨k, hk, rfl, hno⟩ := hrel
    have HNo := Lib.hid hno; clear hno
    by_cases hlt : k < n
    · obtain ⟨b, o, rfl, _, hc⟩ := HS.out.int HN.out hlt
      have hkl : k < l.length := by rw [HN.out]; exact hlt
      have E1 : Hid ((l.take (k + 1)).any beyond = beyond l[k]) := Lib.hid (by rw [take_snoc l k hkl, List.any_append, HNo.out]; simp)
      have E2 : Hid (beyond l[k] = true → l.any beyond = true) := Lib.hid fun h => List.any_eq_true.2 ⟨_, List.getElem_mem hkl, h⟩
      obtain ⟨x, hx⟩ : ∃ x, l[k] = x := ⟨_, rfl⟩
      rw [hx] at hc E1 E2
      clear hx
      have CB := Lib.hid (isBeyond_any x)
      cases hb : beyond x with
      | true =>
        have HT := Lib.hid (E2.out hb)
        rw [hb] at CB
        clear hb E1 E2
        go_wp2_with (go_at_call 90; refine (CB.out _).mono ?_; rintro e w1 ⟨rfl, rfl⟩)
        go_ret
        exact ⟨⟨k, rfl, by rw [HT.out]; simp⟩, rfl⟩
      | false =>
        rw [hb] at CB E1
        clear hb E2
        go_wp2_with (go_at_call 90; refine (CB.out _).mono ?_; rintro e w1 ⟨rfl, rfl⟩)
        go_round
        case rel => exact ⟨k + 1, by omega, by go_num, E1.out⟩
        case measure => simp [intOf]; omega
    · have HA : Hid (l.any beyond = false) := Lib.hid (by have h := HNo.out; rwa [List.take_of_length_le (by rw [HN.out]; omega)] at h)
      go_wp2
      go_ret
      exact ⟨⟨-1, rfl, by rw [HA.out]; rfl⟩, rfl⟩
theorem contains_any (A : Option Addr) (n c B : Nat) (l : List Int) (hn : l.length = n) (hl : n ≤ 1000) (w : World) (hs : Seen w B 1 A n c (iv l)) :
    Calls Tryz.prog 89 #[.slice A n c, .func (.func 90) #[] #[]] w fun e w' => e = .returned (.bool (l.any beyond)) ∧ w = w' := by
  have HC := Lib.hid (indexFunc_any A n c B l hn hl w hs)
  clear hs
  generalize l.any beyond = r at HC ⊢
  go_enter Tryz.func89, Tryz.ntmps89
  go_wp2_with (go_at_call 105; refine HC.out.mono ?_; rintro e w1 ⟨⟨q, rfl, hq⟩, rfl⟩)
  go_ret
  exact ⟨rfl, rfl⟩
/-- The signs that come, of the first k. -/
def cm (lo : List Int) (k : Nat) : List Nat := (List.range k).filter fun i => decide (0 < lo.getD i 0)
theorem cm_succ (lo : List Int) (k : Nat) : cm lo (k + 1) = cm lo k ++ if 0 < lo.getD k 0 then [k] else [] := by
  unfold cm
  rw [List.range_succ, List.filter_append]
  congr 1
  by_cases h : 0 < lo.getD k 0
  · rw [if_pos h, List.filter_cons_of_pos (by simpa using h)]; rfl
  · rw [if_neg h, List.filter_cons_of_neg (by simpa using h)]; rfl
theorem cm_len (lo : List Int) (k : Nat) : (cm lo k).length ≤ k := by
  unfold cm
  have := List.length_filter_le (fun i => decide (0 < lo.getD i 0)) (List.range k)
  simpa using this
theorem cm_mem (lo : List Int) (k : Nat) : ∀ s ∈ cm lo k, s < k := by
  intro s hs
  exact List.mem_range.1 (List.mem_filter.1 hs).1
theorem ins_empty (A : Option Addr) (cap : Nat) (fv : Value) (w : World) : Calls Tryz.prog 119 #[.slice A 0 cap, .int .i64 0, .int .i64 0, fv] w fun e w' => e = .returned (.tuple #[]) ∧ w = w' := by
  go_enter Tryz.func119, Tryz.ntmps119
  go_wp2_with fail
  refine wp_loop_rounds 1 ?_
  rw [rounds_succ]
  go_wp2_with fail
  go_end0
  exact ⟨rfl, rfl⟩
theorem stab_empty (A : Option Addr) (cap : Nat) (fv : Value) (w : World) : Calls Tryz.prog 114 #[.slice A 0 cap, .int .i64 0, fv] w fun e w' => e = .returned (.tuple #[]) ∧ w = w' := by
  go_enter Tryz.func114, Tryz.ntmps114
  go_wp2_with fail
  refine wp_loop_rounds 1 ?_
  rw [rounds_succ]
  go_wp2_with (go_at_call 119; refine (ins_empty _ _ _ _).mono ?_; rintro e w1 ⟨rfl, rfl⟩)
  refine wp_loop_rounds 1 ?_
  rw [rounds_succ]
  go_wp2_with fail
  go_end0
  exact ⟨rfl, rfl⟩
theorem sortI_empty (A : Option Addr) (cap : Nat) (fv : Value) (w : World) : Calls Tryz.prog 106 #[.slice A 0 cap, fv] w fun e w' => e = .returned (.tuple #[]) ∧ w = w' := by
  go_enter Tryz.func106, Tryz.ntmps106
  go_wp2_with (go_at_call 114; refine (stab_empty _ _ _ _).mono ?_; rintro e w1 ⟨rfl, rfl⟩)
  go_end0
  exact ⟨rfl, rfl⟩
def RareRes {N : Nat} (S : Sorter N) (w : World) (lo : List Int) (e : Ending) (w' : World) : Prop :=
  ∃ v, e = .returned v ∧ w'.ownsRow w.heap.size 3 1 v (cm lo lo.length).length (sv' (S.sI lo (cm lo lo.length))) ∧ Below w.heap.size w w'
def RareIn (w : World) (lo : List Int) (A : Option Addr) (n c k : Nat) (v : Value) (wr : World) : Prop :=
  wr.cell? ⟨w.heap.size, 0, none⟩ = some (.slice A n c) ∧ wr.ownsRow (w.heap.size + 1) 3 1 v (cm lo k).length (sv' (cm lo k)) ∧ Below w.heap.size w wr ∧ w.heap.size < wr.heap.size
set_option maxRecDepth 10000 in
set_option maxHeartbeats 1000000 in
theorem rare_any {N : Nat} (S : Sorter N) (A : Option Addr) (n c B : Nat) (lo : List Int) (hn : lo.length = n) (hl : n ≤ N) (hN : N ≤ 100000) (w : World) (hs : Seen w B 1 A n c (iv lo)) (hB : B ≤ w.heap.size) :
    Calls Tryz.prog 91 #[.slice A n c] w (RareRes S w lo) := by
  obtain ⟨i0, hi0, hz0, hz1, hz2⟩ := info_parts int_info
  have HZ0 := Lib.hid hz0; clear hz0
  have HZ1 := Lib.hid hz1; clear hz1
  have HZ2 := Lib.hid hz2; clear hz2
  have HI0 := Lib.hid hi0; clear hi0
  have HS := Lib.hid hs; clear hs
  have HN := Lib.hid hn; clear hn
  go_enter Tryz.func91, Tryz.ntmps91
  go_wp2_with fail
  have H0 : Hid (RareIn w lo A n c 0 (.slice (some ⟨w.heap.size + 1, 0, none⟩) 0 0) ((w.alloc (.cells #[.slice A n c] 54)).alloc (.cells #[] 3))) := Lib.hid (by
    refine ⟨?_, ?_, ((Below.refl _ _).alloc (Nat.le_refl _) _).alloc (by simp) _, by simp; omega⟩
    · exact ((Whole.new w 54 #[.slice A n c]).alloc (.cells #[] 3)).cell 0
    · have := World.ownsRow_made (w.alloc (.cells #[.slice A n c] 54)) #[] 0 (base := w.heap.size + 1) (e := 3) (size := 1) (by simp) (by simp [maxLen]) rfl
      simpa [cm, sv'] using this)
  obtain ⟨g1, hg1⟩ : ∃ g1, w.heap.size + 1 = g1 := ⟨_, rfl⟩
  rw [hg1] at H0 ⊢
  clear hg1
  go_loopw [3, 4, 5, 9] (fun v _ _ i wr => ∃ k : Nat, k ≤ n ∧ i = .int .i64 k ∧ RareIn w lo A n c k v wr) (fun _ _ _ i _ => n - (intOf i).toNat)
  case atStart => exact ⟨0, by omega, rfl, H0.out⟩
  case round =>
    clear H0
    obtain ⟨k, hk, rfl, hbx, hown, hbel, hsz⟩ := hrel
    have HBX := Lib.hid hbx; clear hbx
    have HO := Lib.hid hown; clear hown
    have HB := Lib.hid hbel; clear hbel
    have hcl := cm_len lo k
    by_cases hlt : k < n
    · obtain ⟨b, o, rfl, hbB, hc⟩ := (HS.out.below (HB.out.mono hB)).int HN.out hlt
      have hkl : k < lo.length := by rw [HN.out]; exact hlt
      have E : Hid (cm lo (k + 1) = cm lo k ++ if 0 < lo[k] then [k] else []) := Lib.hid (by rw [cm_succ]; simp [List.getD, hkl])
      obtain ⟨x, hx⟩ : ∃ x, lo[k] = x := ⟨_, rfl⟩
      rw [hx] at hc E
      clear hx hkl
      by_cases h0 : 0 < x
      · have d0 : decide (0 < x) = true := by simpa using h0
        rw [if_pos h0] at E
        have hAp : ∀ (v7 : Value) (w7 : World), w7.ownsRow (w.heap.size + 1) 3 1 v7 ((cm lo k).length + 1) (sv' (cm lo k) ++ [.int .i64 (k : Int)]) → (wr.alloc (.cells #[.int .i64 (k : Int)] 3)).grownBy w7 u3.ownBlock → RareIn w lo (some ⟨b, o, none⟩) n c (k + 1) v7 w7 := by
          intro v7 w7 hown7 hg7
          have hne : ∀ i, u3.ownBlock = some i → w.heap.size + 1 ≤ i := fun i hi => (own_whole HO.out hi).1
          refine ⟨?_, ?_, (HB.out.alloc HB.out.size _).grown hg7 (by simp; omega) (fun i hi => by have := hne i hi; omega), by have := hg7.size; simp at this; omega⟩
          · have h1 := (Below.alloc (Below.refl wr.heap.size wr) (Nat.le_refl _) (.cells #[.int .i64 (k : Int)] 3)).cell (p := ⟨w.heap.size, 0, none⟩) hsz
            have h2 := hg7.block w.heap.size (by simp; omega) (fun e => by have := hne _ e.symm; omega)
            have h3 : w7.cell? ⟨w.heap.size, 0, none⟩ = (wr.alloc (.cells #[.int .i64 (k : Int)] 3)).cell? ⟨w.heap.size, 0, none⟩ := by
              simp only [World.cell?, h2]
            rw [h3, h1]; exact HBX.out
          · rw [E.out]
            have e : sv' (cm lo k ++ [k]) = sv' (cm lo k) ++ [.int .i64 (k : Int)] := by simp [sv']
            rw [e, List.length_append]
            exact hown7
        have HAp := Lib.hid hAp; clear hAp
        go_wp2_with (at_builtin; refine wpList_append_seen _ rfl (.tmp 16) (.tmp 18) _ rfl (w.heap.size + 1) 3 i0 _ 1 8 Tryz.underlying54 HI0.out HZ0.out HZ1.out HZ2.out rfl (by omega) u3 (cm lo k).length _ rfl (HO.out.alloc _) _ _ 1 1 _ rfl (seen_one _ _ _) (by simp [Value.oneCell']) (by simp only [maxLen]; omega) (by omega) (by simp only [World.size_alloc]; omega) ?_; intro v7 w7 hown7 hg7 hat7; have HR := Lib.hid (HAp.out v7 w7 hown7 hg7); clear hown7 hg7 hat7)
        go_roundw
        case rel => exact ⟨k + 1, by omega, by go_num, HR.out⟩
        case measure => simp [intOf]; omega
      · have d0 : decide (0 < x) = false := by simpa using h0
        rw [if_neg h0, List.append_nil] at E
        go_wp2
        go_roundw
        case rel => exact ⟨k + 1, by omega, by go_num, HBX.out, by rw [E.out]; exact HO.out, HB.out, hsz⟩
        case measure => simp [intOf]; omega
    · obtain rfl : k = n := by omega
      have hmem := cm_mem lo k
      have hm : (cm lo k).length ≤ N := by omega
      have HRes : Hid (∀ v w', w'.ownsRow w.heap.size 3 1 v (cm lo k).length (sv' (S.sI lo (cm lo k))) → Below w.heap.size w w' → RareRes S w lo (.returned v) w') := Lib.hid (by
        intro v w' h1 h2
        refine ⟨v, rfl, ?_, h2⟩
        rw [HN.out]; exact h1)
      have hperm := S.permI lo (cm lo k) (by rw [HN.out]; exact hmem) hm
      by_cases h0 : (cm lo k).length = 0
      · have hnil : cm lo k = [] := List.eq_nil_of_length_eq_zero h0
        have hs0 : S.sI lo (cm lo k) = [] := List.eq_nil_of_length_eq_zero (by rw [hperm.1.length_eq, h0])
        obtain ⟨A9, c9, rfl, _⟩ := own_form HO.out
        have H2 : Hid (∀ w', wr = w' → RareRes S w lo (.returned (.slice A9 (cm lo k).length c9)) w') := Lib.hid (by
          rintro w' rfl
          refine HRes.out _ _ ?_ HB.out
          have := own_base HO.out (Nat.le_succ _)
          rw [hs0]
          rwa [hnil] at this ⊢)
        rw [h0] at H2 ⊢
        clear hperm hnil hs0 hmem h0 HRes
        go_wp2_with (go_at_call 106; refine (sortI_empty _ _ _ _).mono ?_; rintro e w1 ⟨rfl, rfl⟩)
        go_ret
        exact H2.out _ rfl
      · obtain ⟨g, cap, rfl, hcap, _⟩ := own_pos HO.out (by omega)
        have hk0 : 0 < k := by omega
        obtain ⟨b, o, rfl, hbB, _⟩ := (HS.out.below (HB.out.mono hB)).int HN.out hk0
        have hg := (own_whole HO.out (k := g) rfl).1
        have HC := Lib.hid (S.callI lo k w.heap.size b o c HN.out (w.heap.size + 1) g cap (cm lo k) wr hmem (by omega) hm HBX.out (by
          intro i hi
          obtain ⟨b', o', hA, _, hc'⟩ := (HS.out.below (HB.out.mono hB)).int HN.out (k := i) (by rw [← HN.out]; exact hi)
          injection hA with hA
          injection hA with h1 h2
          subst h1 h2
          exact hc') (by omega) (by omega) HO.out)
        clear hperm hmem HO
        go_wp2_with (go_at_call 106; refine HC.out.mono ?_; rintro e w1 ⟨rfl, ho1, hO1⟩; have HO1 := Lib.hid ho1; have HO2 := Lib.hid hO1; clear ho1 hO1)
        go_ret
        exact HRes.out _ _ (own_base HO1.out (Nat.le_succ _)) (HB.out.trans (HO2.out.below HB.out.size (by intro q hq; have : q = g := hq; omega)))
end Go.Proofs.YtkjhefjjacokjaaGreat

namespace Go.Proofs.YtkjhefjjacokjaaGreat
open Go.Proofs Go.Shelf Go.RowKit Go.Sort Go.Lib
set_option maxRecDepth 100000
theorem pk_info : (Tryz.prog.info? 151).map (fun i => (i.zero, i.size, i.bytes)) = some (some (.agg #[.int .i64 0, .bool false]), 2, 16) := by kernel_rfl
/-- Packs as cells. -/
def pv (r : List Pk) : List Value := r.flatMap encP
theorem pv_append (a b : List Pk) : pv (a ++ b) = pv a ++ pv b := by simp [pv]
theorem pv_one (r : List Pk) : ∀ u ∈ pv r, u.oneCell' = true := by
  intro u hu
  simp only [pv, List.mem_flatMap, encP] at hu
  obtain ⟨p, _, hp⟩ := hu
  simp at hp
  rcases hp with rfl | rfl <;> rfl
theorem pv_get (r : List Pk) (k : Nat) (h : k < r.length) : (pv r)[k * 2]? = some (.int .i64 (r[k].1 : Nat)) ∧ (pv r)[k * 2 + 1]? = some (.bool r[k].2) := by
  unfold pv
  rw [flat_at r (k * 2) (by omega), flat_at r (k * 2 + 1) (by omega), show k * 2 / 2 = k by omega, show (k * 2 + 1) / 2 = k by omega, show k * 2 % 2 = 0 by omega, show (k * 2 + 1) % 2 = 1 by omega]
  simp [encP, List.getD, h]
/-- A pack of a slice that is read. -/
theorem Seen.pk {w : World} {B : Nat} {A : Option Addr} {n c : Nat} {r : List Pk} (h : Seen w B 2 A n c (pv r)) (hn : r.length = n) {k : Nat} (hk : k < n) :
    ∃ b o, A = some ⟨b, o, none⟩ ∧ b < B ∧ w.cell? ⟨b, o + k * 2, none⟩ = some (.int .i64 ((r[k]'(by omega)).1 : Nat)) ∧ w.cell? ⟨b, o + (k * 2 + 1), none⟩ = some (.bool (r[k]'(by omega)).2) := by
  obtain ⟨h1, h2, h3⟩ := h
  obtain ⟨g1, g2⟩ := pv_get r k (by omega)
  rcases h3 with ⟨rfl, rfl⟩ | ⟨a, rfl, h3⟩
  · omega
  · obtain ⟨q1, q2, q3⟩ := h3 (by intro e; rw [e] at g1; simp at g1)
    obtain ⟨b, o, s⟩ := a
    simp only at q1 q2 q3
    subst q1
    exact ⟨b, o, rfl, q2, q3 _ _ g1, q3 _ _ g2⟩
theorem seen_pk (w : World) (p : Pk) : Seen ((w.alloc (.cells #[.int .i64 (p.1 : Nat), .bool p.2] 151)).drew) (w.heap.size + 1) 2 (some ⟨w.heap.size, 0, none⟩) 1 1 (pv [p]) := by
  have hW := (Whole.new w 151 #[.int .i64 (p.1 : Nat), .bool p.2]).drew
  refine ⟨rfl, Nat.le_refl _, .inr ⟨_, rfl, fun _ => ⟨rfl, Nat.lt_succ_self _, fun j u hu => ?_⟩⟩⟩
  show _ = some u
  simp only [Nat.zero_add]
  rw [hW.cell j]
  have e : pv [p] = [.int .i64 (p.1 : Nat), .bool p.2] := rfl
  rw [e] at hu
  rw [← hu]
  simp
theorem step_append_seen {P : Program} (w : World) {ops : Array Oper} {o : Oper} {a : Act} {K : Act → World → Prop} {Q : Exit → Act → World → Prop} {E : Prop} (hgd : o.guard = none) (s x : Operand) (t : TypeId)
    (ho : o.op = .call { callee := .builtin .append, args := #[s, x], argTypes := #[t, t] })
    (base : Nat) (e : TypeId) (i : TypeInfo) (z : Value) (size bytes : Nat) (ht : P.underlying t = some (.slice e)) (hi : P.info? e = some i) (hz : i.zero = some z)
    (hsize : i.size = size) (hby : i.bytes = bytes) (hzs : z.cells.size = size) (hsz : 0 < size)
    (v : Value) (n : Nat) (xs : List Value) (hs : a.eval s = v) (hown : w.ownsRow base e size v n xs)
    (B : Nat) (A : Option Addr) (m c : Nat) (news : List Value) (hx : a.eval x = .slice A m c) (hr : Seen w B size A m c news) (h1 : ∀ u ∈ news, u.oneCell' = true)
    (h63 : n + m ≤ maxLen) (hbytes : (n + m) * bytes ≤ 140737488355328) (hbase : base ≤ w.heap.size)
    (h : ∀ v' w', w'.ownsRow base e size v' (n + m) (xs ++ news) → w.grownBy w' v.ownBlock → (v'.ownBlock = v.ownBlock ∨ v'.ownBlock = some w.heap.size) → K (a.put o.dst v') w') :
    if Region.wanted o (yielded ops a.tmps) = true then Oper.wp P o a w K Q else E := by
  have hw : Region.wanted o (yielded ops a.tmps) = true := by simp [Region.wanted, hgd]
  rw [if_pos hw]
  obtain ⟨v', w', hrun, h2, h3, h4⟩ := run_append_seen (P := P) w base t o.type e i z size bytes ht hi hz hsize hby hzs hsz v n xs hown B A m c news hr h1 h63 hbytes hbase
  unfold Oper.wp
  simp [execOp, ho, resolve, invoke, builtin, hs, hx, hrun, Result.andThen]
  exact h v' w' h2 h3 h4
theorem clonePk_any (A : Option Addr) (n c B : Nat) (r : List Pk) (w : World) (hs : Seen w B 2 A n c (pv r)) (hB : B ≤ w.heap.size) (hn : n ≤ 1000000) :
    Calls Tryz.prog 116 #[.slice A n c] w (GivesRow w 151 2 n (pv r)) := by
  obtain ⟨i0, hi0, hz0, hz1, hz2⟩ := info_parts pk_info
  have HS := Lib.hid hs
  have q33 : ∀ (w : World) (a : Option Addr) (n c n' c' : Nat), (binOp .eql 149 (.slice a n c) (.slice none n' c')).run Tryz.prog w = .ok (.bool a.isNone) w := fun w a n c n' c' => Lib.run_eql_slice_nil w _ _ a n c n' c' Tryz.underlying149
  cases A with
  | none =>
    obtain ⟨g1, g2, g3⟩ := hs
    obtain rfl : c = 0 := by simpa using g3
    obtain rfl : n = 0 := by omega
    have hnil : pv r = [] := List.eq_nil_of_length_eq_zero (by simpa using g1)
    rw [hnil]
    clear g1 g2 g3 hnil HS
    go_enter Tryz.func116, Tryz.ntmps116
    go_wp2
    go_ret
    exact ⟨_, rfl, World.ownsRow_nil _ _ _ _, Below.refl _ _⟩
  | some a =>
    clear hs
    go_enter Tryz.func116, Tryz.ntmps116
    go_wp2_with (at_builtin; refine wpList_append_seen _ rfl (.tmp 5) (.tmp 6) _ rfl w.heap.size 151 i0 _ 2 16 Tryz.underlying149 hi0 hz0 hz1 hz2 rfl (by omega) (.slice (some ⟨w.heap.size, 0, none⟩) 0 0) 0 [] rfl (World.ownsRow_made w #[] 0 (Nat.le_refl _) (by simp [maxLen]) rfl) B (some a) n c (pv r) rfl (HS.out.below ((Below.refl _ _).alloc hB _)) (pv_one r) (by simp [maxLen]; omega) (by omega) (by simp) ?_; intro v1 w1 hown1 hg1 hat1)
    go_ret
    refine ⟨_, rfl, by simpa using hown1, ((Below.refl _ _).alloc (Nat.le_refl _) _).grown hg1 (by simp) (by simp [Value.ownBlock])⟩
def MergedRes {N : Nat} (S : Sorter N) (w : World) (r : List Pk) (e : Ending) (w' : World) : Prop :=
  ∃ v, e = .returned v ∧ w'.ownsRow w.heap.size 151 2 v r.length (pv (S.sP r)) ∧ Below w.heap.size w w'
def MergedIn (w : World) (r : List Pk) (v : Value) (wr : World) : Prop := wr.ownsRow w.heap.size 151 2 v r.length (pv r) ∧ Below w.heap.size w wr
theorem built93 (x : Int) : Tryz.prog.built 151 [(0, .int .i64 x), (1, .bool true)] = some #[.int .i64 x, .bool true] := by kernel_rfl
set_option maxHeartbeats 2000000 in
set_option maxRecDepth 100000 in
theorem merged_any {N : Nat} (S : Sorter N) (A A2 : Option Addr) (n c n2 c2 B : Nat) (sg be : List Pk) (hn : sg.length = n) (hn2 : be.length = n2) (h0 : 0 < n) (hl : n + n2 / 2 ≤ N) (hl2 : n2 ≤ 100000) (hN : N ≤ 100000) (hc : ∀ x ∈ be, x.1 ≤ 1099511627776) (w : World) (hs : Seen w B 2 A n c (pv sg)) (hs2 : Seen w B 2 A2 n2 c2 (pv be)) (hB : B ≤ w.heap.size) :
    Calls Tryz.prog 109 #[.slice A n c, .slice A2 n2 c2] w (MergedRes S w (sg ++ pairs be)) := by
  obtain ⟨i0, hi0, hz0, hz1, hz2⟩ := info_parts pk_info
  have HZ0 := Lib.hid hz0; clear hz0
  have HZ1 := Lib.hid hz1; clear hz1
  have HZ2 := Lib.hid hz2; clear hz2
  have HI0 := Lib.hid hi0; clear hi0
  have HS := Lib.hid hs; clear hs
  have HS2 := Lib.hid hs2; clear hs2
  have HN := Lib.hid hn; clear hn
  have HN2 := Lib.hid hn2; clear hn2
  have HC := Lib.hid hc; clear hc
  go_enter Tryz.func109, Tryz.ntmps109
  go_wp2_with fail
  refine (clonePk_any A n c B sg w HS.out hB (by omega)).mono ?_
  rintro e w1 ⟨v1, rfl, ho1, hb1⟩
  have H0 : Hid (MergedIn w (sg ++ (pairs be).take 0) v1 w1) := Lib.hid (by
    rw [List.take_zero, List.append_nil]
    exact ⟨by rw [HN.out]; exact ho1, hb1⟩)
  clear ho1 hb1
  go_wp2_with fail
  go_loopw [5, 6] (fun v i wr => ∃ t : Nat, 2 * t ≤ n2 + 1 ∧ i = .int .i64 (2 * t + 1 : Nat) ∧ MergedIn w (sg ++ (pairs be).take t) v wr) (fun _ i _ => n2 + 2 - (intOf i).toNat)
  case atStart => exact ⟨0, by omega, rfl, H0.out⟩
  case round =>
    clear H0
    obtain ⟨t, ht, rfl, hown, hbel⟩ := hrel
    have HO := Lib.hid hown; clear hown
    have HB := Lib.hid hbel; clear hbel
    obtain ⟨j, hj⟩ : ∃ j, 2 * t + 1 = j := ⟨_, rfl⟩
    have hpl := pairs_length be
    rw [HN2.out] at hpl
    have hlen : (sg ++ (pairs be).take t).length ≤ N := by rw [List.length_append, List.length_take, HN.out]; omega
    by_cases hlt : 2 * t + 1 < n2
    · obtain ⟨b, o, rfl, hbB, x1, _⟩ := (HS2.out.below (HB.out.mono hB)).pk HN2.out (k := 2 * t) (by omega)
      obtain ⟨b', o', hA, _, x2, _⟩ := (HS2.out.below (HB.out.mono hB)).pk HN2.out (k := 2 * t + 1) hlt
      injection hA with hA
      injection hA with hb' ho'
      subst hb' ho'
      have hpg := pairs_get be t (by rw [HN2.out]; exact hlt)
      have hc1 := HC.out _ (List.getElem_mem (show 2 * t < be.length by rw [HN2.out]; omega))
      have hc2 := HC.out _ (List.getElem_mem (show 2 * t + 1 < be.length by rw [HN2.out]; omega))
      obtain ⟨p, hp⟩ : ∃ p, (be[2 * t]'(by rw [HN2.out]; omega)).1 = p := ⟨_, rfl⟩
      obtain ⟨q, hq⟩ : ∃ q, (be[2 * t + 1]'(by rw [HN2.out]; omega)).1 = q := ⟨_, rfl⟩
      rw [hp] at x1 hc1 hpg
      rw [hq] at x2 hc2 hpg
      have EP : Hid (sg ++ (pairs be).take (t + 1) = (sg ++ (pairs be).take t) ++ [(p + q, true)]) := Lib.hid (by
        rw [List.take_add_one, hpg, List.append_assoc]; rfl)
      have hz := HB.out.size
      have hbz : b < wr.heap.size := by omega
      obtain ⟨i2, hi2⟩ : ∃ i2, 2 * t = i2 := ⟨_, rfl⟩
      obtain ⟨pq, hpq⟩ : ∃ pq, p + q = pq := ⟨_, rfl⟩
      rw [hj] at x2 hlt ⊢
      rw [hi2] at x1
      rw [hpq] at EP
      have hwj : IntKind.i64.wrap ((j : Int) - 1) = i2 := by rw [IntWalk.i64_in _ (by omega)]; omega
      have hws : IntKind.i64.wrap ((p : Int) + q) = pq := by rw [IntWalk.i64_in _ (by omega)]; omega
      have t0 : (0 : Int) ≤ (i2 : Int) := by omega
      have tn : (i2 : Int) < n2 := by omega
      have j0 : (0 : Int) ≤ j := by omega
      have jn : (j : Int) < n2 := by omega
      have hpqb : pq ≤ 2199023255552 := by omega
      have X1 := Lib.hid x1
      have X2 := Lib.hid x2
      have HJ : Hid (2 * t + 1 = j) := Lib.hid hj
      have HI2 := Lib.hid hi2
      have HBW : Hid (∀ w7, ((wr.alloc (.cells #[.int .i64 (pq : Int), .bool true] 151)).drew).grownBy w7 u5.ownBlock → Below w.heap.size wr w7) := Lib.hid (fun w7 hg7 => (((Below.refl w.heap.size wr).alloc hz _).drew).grown hg7 (by simp; omega) (fun i hi => (own_whole HO.out hi).1))
      clear hp hq hpg x1 x2 hj hi2 hpq hc1 hc2
      go_wp2_with fail
      refine wp_region_held_drew (S := fun W => Below w.heap.size wr W) (by kernel_rfl) ((Below.refl _ _).drew) (fun hHeld => ?_)
      refine wpAnyH_take (i := 0) (oi := ⟨some 15, _, _, _, _, _⟩) (v := ?v0) rfl (by kernel_rfl) (by kernel_rfl) (by kernel_rfl) (fun _ _ _ h => h) (Or.inl ⟨by rfl, ?hy0⟩) (by assumption) ?rest0
      case hy0 => intro W hSW; go_simp; try rfl
      try simp only [Act.put, List.setIfInBounds_toArray, List.set_cons_zero, List.set_cons_succ]
      refine wpAnyH_take (i := 1) (oi := ⟨some 16, _, _, _, _, _⟩) (v := ?v1) rfl (by kernel_rfl) (by kernel_rfl) (by kernel_rfl) (fun _ _ _ h => h) (Or.inl ⟨by rfl, ?hy1⟩) (by assumption) ?rest1
      case hy1 => intro W hSW; go_simp; try rfl
      try simp only [Act.put, List.setIfInBounds_toArray, List.set_cons_zero, List.set_cons_succ]
      refine wpAnyH_take (i := 2) (oi := ⟨some 17, _, _, _, _, _⟩) (v := ?v2) rfl (by kernel_rfl) (by kernel_rfl) (by kernel_rfl) (fun _ _ _ h => h) (Or.inl ⟨by rfl, ?hy2⟩) (by assumption) ?rest2
      case hy2 => intro W hSW; go_simp; try rfl
      try simp only [Act.put, List.setIfInBounds_toArray, List.set_cons_zero, List.set_cons_succ]
      refine wpAnyH_take (i := 3) (oi := ⟨some 18, _, _, _, _, _⟩) (v := ?v3) rfl (by kernel_rfl) (by kernel_rfl) (by kernel_rfl) (fun _ _ _ h => h) (Or.inl ⟨by rfl, ?hy3⟩) (by assumption) ?rest3
      case hy3 => intro W hSW; go_simp; try rfl
      try simp only [Act.put, List.setIfInBounds_toArray, List.set_cons_zero, List.set_cons_succ]
      refine wpAnyH_take (i := 4) (oi := ⟨some 19, _, _, _, _, _⟩) (v := ?v4) rfl (by kernel_rfl) (by kernel_rfl) (by kernel_rfl) (fun _ _ _ h => h) (Or.inl ⟨by rfl, ?hy4⟩) (by assumption) ?rest4
      case hy4 => intro W hSW; go_simp; try rfl
      try simp only [Act.put, List.setIfInBounds_toArray, List.set_cons_zero, List.set_cons_succ]
      refine wpAnyH_take (i := 5) (oi := ⟨some 20, _, _, _, _, _⟩) (v := ?v5) rfl (by kernel_rfl) (by kernel_rfl) (by kernel_rfl) (fun _ _ _ h => h) (Or.inl ⟨by rfl, ?hy5⟩) (by assumption) ?rest5
      case hy5 => intro W hSW; go_simp; try rfl
      try simp only [Act.put, List.setIfInBounds_toArray, List.set_cons_zero, List.set_cons_succ]
      refine wpAnyH_take (i := 6) (oi := ⟨some 21, _, _, _, _, _⟩) (v := ?v6) rfl (by kernel_rfl) (by kernel_rfl) (by kernel_rfl) (fun _ _ _ h => h) (Or.inl ⟨by rfl, ?hy6⟩) (by assumption) ?rest6
      case hy6 => intro W hSW; have lx := (hSW.cell (p := ⟨b, o + i2 * 2, none⟩) (by show b < w.heap.size; omega)).trans X1.out; go_simp; try rfl
      try simp only [Act.put, List.setIfInBounds_toArray, List.set_cons_zero, List.set_cons_succ]
      refine wpAnyH_take (i := 7) (oi := ⟨some 22, _, _, _, _, _⟩) (v := ?v7) rfl (by kernel_rfl) (by kernel_rfl) (by kernel_rfl) (fun _ _ _ h => h) (Or.inl ⟨by rfl, ?hy7⟩) (by assumption) ?rest7
      case hy7 => intro W hSW; go_simp; try rfl
      try simp only [Act.put, List.setIfInBounds_toArray, List.set_cons_zero, List.set_cons_succ]
      refine wpAnyH_take (i := 8) (oi := ⟨some 23, _, _, _, _, _⟩) (v := ?v8) rfl (by kernel_rfl) (by kernel_rfl) (by kernel_rfl) (fun _ _ _ h => h) (Or.inl ⟨by rfl, ?hy8⟩) (by assumption) ?rest8
      case hy8 => intro W hSW; go_simp; try rfl
      try simp only [Act.put, List.setIfInBounds_toArray, List.set_cons_zero, List.set_cons_succ]
      refine wpAnyH_take (i := 9) (oi := ⟨some 24, _, _, _, _, _⟩) (v := ?v9) rfl (by kernel_rfl) (by kernel_rfl) (by kernel_rfl) (fun _ _ _ h => h) (Or.inl ⟨by rfl, ?hy9⟩) (by assumption) ?rest9
      case hy9 => intro W hSW; go_simp; try rfl
      try simp only [Act.put, List.setIfInBounds_toArray, List.set_cons_zero, List.set_cons_succ]
      refine wpAnyH_take (i := 10) (oi := ⟨some 25, _, _, _, _, _⟩) (v := ?v10) rfl (by kernel_rfl) (by kernel_rfl) (by kernel_rfl) (fun _ _ _ h => h) (Or.inl ⟨by rfl, ?hy10⟩) (by assumption) ?rest10
      case hy10 => intro W hSW; go_simp; try rfl
      try simp only [Act.put, List.setIfInBounds_toArray, List.set_cons_zero, List.set_cons_succ]
      refine wpAnyH_take (i := 11) (oi := ⟨some 26, _, _, _, _, _⟩) (v := ?v11) rfl (by kernel_rfl) (by kernel_rfl) (by kernel_rfl) (fun _ _ _ h => h) (Or.inl ⟨by rfl, ?hy11⟩) (by assumption) ?rest11
      case hy11 => intro W hSW; have lx := (hSW.cell (p := ⟨b, o + j * 2, none⟩) (by show b < w.heap.size; omega)).trans X2.out; go_simp; try rfl
      try simp only [Act.put, List.setIfInBounds_toArray, List.set_cons_zero, List.set_cons_succ]
      refine wpAnyH_take (i := 12) (oi := ⟨some 27, _, _, _, _, _⟩) (v := ?v12) rfl (by kernel_rfl) (by kernel_rfl) (by kernel_rfl) (fun _ _ _ h => h) (Or.inl ⟨by rfl, ?hy12⟩) (by assumption) ?rest12
      case hy12 => intro W hSW; go_simp; try rfl
      try simp only [Act.put, List.setIfInBounds_toArray, List.set_cons_zero, List.set_cons_succ]
      refine wpAnyH_take (i := 13) (oi := ⟨some 28, _, _, _, _, _⟩) (v := (.agg #[.int .i64 (pq : Int), .bool true])) rfl (by kernel_rfl) (by kernel_rfl) (by kernel_rfl) (fun _ _ _ h => h) (Or.inl ⟨by rfl, ?hy13⟩) (by assumption) ?rest13
      case hy13 => intro W hSW; exact exec_build_of (run_build (P := Tryz.prog) W 151 _ _ (built93 (pq : Int))) (by rfl) (by simp [Act.eval])
      try simp only [Act.put, List.setIfInBounds_toArray, List.set_cons_zero, List.set_cons_succ]
      refine wpAnyH_ready (rs := [14]) (by kernel_rfl) (by simp) ?_
      refine AllReadyH.cons (o := ⟨some 29, _, _, _, _, _⟩) rfl (fun K hK => ?_) AllReadyH.nil
      go_simp
      skip
      refine hK.out _ _ ?_ (fun hHeld2 => ?_)
      · exact ((Below.refl _ _).drew).alloc hz _
      clear hK K hHeld
      have hHeld := hHeld2; clear hHeld2
      try simp only [Act.put, List.setIfInBounds_toArray, List.set_cons_zero, List.set_cons_succ]
      refine wpAnyH_ready (rs := [15]) (by kernel_rfl) (by simp) ?_
      refine AllReadyH.cons (o := ⟨some 30, _, _, _, _, _⟩) rfl (fun K hK => ?_) AllReadyH.nil
      refine step_append_seen _ (by rfl) _ _ _ (by rfl) w.heap.size 151 i0 _ 2 16 Tryz.underlying149 HI0.out HZ0.out HZ1.out HZ2.out rfl (by omega) u5 (sg ++ (pairs be).take t).length (pv (sg ++ (pairs be).take t)) (by rfl) ((HO.out.alloc _).drew) (wr.heap.size + 1) _ 1 1 (pv [(pq, true)]) (by rfl) (seen_pk wr (pq, true)) (pv_one _) (by simp only [maxLen]; omega) (by omega) (by simp; omega) ?_
      intro v7 w7 hown7 hg7 hat7
      have HG7 := Lib.hid hg7; have HO7 := Lib.hid hown7; clear hg7 hown7 hat7
      refine hK.out _ _ ?_ (fun hHeld2 => ?_)
      · exact HBW.out w7 HG7.out
      clear hK K hHeld
      have hHeld := hHeld2; clear hHeld2
      try simp only [Act.put, List.setIfInBounds_toArray, List.set_cons_zero, List.set_cons_succ]
      refine wpAnyH_take (i := 16) (oi := ⟨some 5, _, _, _, _, _⟩) (v := ?v16) rfl (by kernel_rfl) (by kernel_rfl) (by kernel_rfl) (fun _ _ _ h => h) (Or.inl ⟨by rfl, ?hy16⟩) (by assumption) ?rest16
      case hy16 => intro W hSW; go_simp; try rfl
      try simp only [Act.put, List.setIfInBounds_toArray, List.set_cons_zero, List.set_cons_succ]
      refine wpAnyH_done (by kernel_rfl) ?_ _
      have HM : Hid (MergedIn w (sg ++ (pairs be).take (t + 1)) v7 w7) := Lib.hid (by
        rw [EP.out]
        refine ⟨?_, HB.out.trans (HBW.out w7 HG7.out)⟩
        rw [pv_append, List.length_append]
        exact HO7.out)
      go_wp2_with fail
      go_roundw
      case rel => exact ⟨t + 1, by have := HJ.out; omega, by rw [show 2 * (t + 1) + 1 = j + 2 by have := HJ.out; omega]; go_num, HM.out⟩
      case measure => simp [intOf]; have := HJ.out; omega
    · rw [hj] at hlt ⊢
      have hall : (pairs be).take t = pairs be := List.take_of_length_le (by omega)
      rw [hall] at HO hlen
      have hpos : 0 < (sg ++ pairs be).length := by rw [List.length_append, HN.out]; omega
      obtain ⟨R, hR⟩ : ∃ R, sg ++ pairs be = R := ⟨_, rfl⟩
      rw [hR] at HO hlen hpos
      have HR := Lib.hid hR; clear hR
      obtain ⟨g, cap, rfl, hcap, _⟩ := own_pos HO.out hpos
      have hg := (own_whole HO.out (k := g) rfl).1
      have CP := Lib.hid (S.callP w.heap.size g cap R wr hpos hlen HO.out)
      clear hall hj
      go_wp2_with (go_at_call 117; refine CP.out.mono ?_; rintro e w7 ⟨rfl, ho7, hO7⟩; have HO7 := Lib.hid ho7; have HO8 := Lib.hid hO7; clear ho7 hO7)
      go_ret
      refine ⟨_, rfl, ?_, HB.out.trans (HO8.out.below HB.out.size (by intro k hk; have : k = g := hk; omega))⟩
      rw [HR.out]
      exact HO7.out
end Go.Proofs.YtkjhefjjacokjaaGreat
