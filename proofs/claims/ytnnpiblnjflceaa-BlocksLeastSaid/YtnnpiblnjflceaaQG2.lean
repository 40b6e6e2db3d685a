/-
  Sorts of this program's two kinds of rows, of fewer than twenty. Conditions: fewer than twenty.
-/
import Derived.Test.YtnnpiblnjflceaaQG1
namespace Go.Proofs.Ytnnpiblnjflceaa
open Go.Proofs Go.Shelf Go.RowKit Go.Sort Go.Lib
set_option maxRecDepth 100000

theorem compare_quiet (x y : Int) (w : World) (n : Nat) : Calls Try.prog 86 #[.int .i64 x, .int .i64 y] (w.drewN n) fun e w'' => e = .returned (.int .i64 (cmpI x y)) ∧ ∃ m, w'' = w.drewN m :=
  (compare_any x y (w.drewN n)).mono fun _ _ ⟨he, hw⟩ => ⟨he, n, hw.symm⟩

theorem cloI (lo : List Int) (n bx b o c : Nat) (hn : lo.length = n) (W : World) (hbx : W.cell? ⟨bx, 0, none⟩ = some (.slice (some ⟨b, o, none⟩) n c)) (hc : ∀ i (h : i < lo.length), W.cell? ⟨b, o + i, none⟩ = some (.int .i64 lo[i])) (x y : Nat) (hx : x < n) (hy : y < n) :
    Calls Try.prog 85 #[.int .i64 (x : Nat), .int .i64 (y : Nat), .pointer (some ⟨bx, 0, none⟩)] W fun e w' => e = .returned (.int .i64 (cmpI (lo.getD x 0) (lo.getD y 0))) ∧ ∃ q os', w' = grow (W.drewN q) os' := by
  have cx := hc x (by omega)
  have cy := hc y (by omega)
  have ex : lo[x]'(by omega) = lo.getD x 0 := by simp [List.getD, show x < lo.length by omega]
  have ey : lo[y]'(by omega) = lo.getD y 0 := by simp [List.getD, show y < lo.length by omega]
  rw [ex] at cx
  rw [ey] at cy
  clear hc ex ey hn
  generalize lo.getD x 0 = u at *
  generalize lo.getD y 0 = v at *
  have x0 : (0 : Int) ≤ x := by omega
  have y0 : (0 : Int) ≤ y := by omega
  have xn : (x : Int) < n := by omega
  have yn : (y : Int) < n := by omega
  go_enter Try.func85, Try.ntmps85
  go_wp2_with fail
  go_quiet ((go_at_call 86; exact compare_quiet _ _ _ _))
  go_wp2_with fail
  go_ret
  exact ⟨rfl, _, #[], by rw [grow_empty]⟩

/-- Values of signs. -/
def sv' (ps : List Nat) : List Value := ps.map fun s => .int .i64 (s : Nat)
/-- Signs, so that each of them is one. -/
def fins (n : Nat) (h : 0 < n) (ss : List Nat) : Array (Fin n) := (ss.map fun s => if hs : s < n then ⟨s, hs⟩ else ⟨0, h⟩).toArray
def encF (n : Nat) (x : Fin n) : Value := .int .i64 (x.val : Nat)
theorem fins_enc (n : Nat) (h : 0 < n) (ss : List Nat) (hs : ∀ s ∈ ss, s < n) : (fins n h ss).toList.map (encF n) = sv' ss := by
  simp only [fins, List.map_map, sv', encF, Function.comp_def]
  apply List.map_congr_left
  intro s hs'
  rw [dif_pos (hs s hs')]
theorem fins_val (n : Nat) (h : 0 < n) (ss : List Nat) (hs : ∀ s ∈ ss, s < n) : (fins n h ss).toList.map (·.val) = ss := by
  simp only [fins, List.map_map, Function.comp_def]
  conv => rhs; rw [← List.map_id ss]
  apply List.map_congr_left
  intro s hs'
  rw [dif_pos (hs s hs')]; rfl
def cfI (lo : List Int) (n : Nat) (x y : Fin n) : Int := cmpI (lo.getD x.val 0) (lo.getD y.val 0)
theorem lt_cmp (a b : Int) : decide (cmpI a b < 0) = decide (a < b) := by
  unfold cmpI
  by_cases h : a < b
  · simp [h]
  · by_cases h2 : b < a <;> simp [h, h2]
theorem swoOf {α : Type} (f : α → Int) : SWO (ltOf fun x y : α => cmpI (f x) (f y)) := by
  refine ⟨fun x => ?_, fun x y z h1 h2 => ?_, fun x y z h1 h2 => ?_⟩
  · simp [ltOf, lt_cmp]
  · simp only [ltOf, lt_cmp, decide_eq_true_eq] at *; omega
  · simp only [ltOf, lt_cmp, decide_eq_false_iff_not] at *; omega
theorem swoI (lo : List Int) (n : Nat) : SWO (ltOf (cfI lo n)) := swoOf fun x : Fin n => lo.getD x.val 0
def cfP (x y : Pk) : Int := cmpI x.1 y.1
theorem swoP : SWO (ltOf cfP) := swoOf fun x : Pk => (x.1 : Int)

/-- The insertion sort of a row of packs, from a world of the sort's to a world of the sort's. -/
theorem insP_w (blk cap a b : Nat) (d0 d : Array Pk) (w0 w : World) (hcmp : CmpLays Try.prog 96 #[] encP 2 cfP blk 0 d0.size w0) (R : RowK encP 2 w0 blk 0 d0) (hs : d0.size = d.size) (S : SWK encP 2 w0 blk 0 d w) (hab : a ≤ b) (hb : b ≤ d.size) (hsz : d.size < 4611686018427387904) :
    Calls Try.prog 101 #[.slice (some ⟨blk, 0, none⟩) d.size cap, .int .i64 a, .int .i64 b, .func (.func 96) #[] #[]] w fun e w' => e = .returned (.tuple #[]) ∧ SWK encP 2 w0 blk 0 (Sort.insertionSort (ltOf cfP) d a b) w' := by
  have eg : ∀ args w, (callFunc 96 args).run Try.prog w = .ok (.enter 96 args) w := enters_of Try.func96 (by kernel_rfl) rfl
  have hs' : (Sort.insertionSort (ltOf cfP) d a b).size = d.size := (insertionSort_holds swoP d a b hab hb).1.1
  have hC : CmpLays Try.prog 96 #[] encP 2 cfP blk 0 d.size w := fun m os dk hdk x y => by
    obtain ⟨n0, os0, rfl⟩ := S
    rw [sortWorldK_on encP 2 w0 blk 0 n0 m d dk os0 os R.hblk hdk]
    exact hcmp _ _ dk (by omega) x y
  refine (AnyQ.insertionSortCmpFunc Try.insP 2 Try.isAgg122 Try.sizeOf122 encP R.hk R.h1 cfP 96 #[] blk 0 cap a b d w eg hC (S.holds R.hblk R.hH hs.symm) (S.lt R.hblk) hab hb hsz).mono ?_
  rintro e w' ⟨rfl, n, os, rfl⟩
  exact ⟨rfl, S.on R.hblk n _ os hs'⟩
theorem cmpLaysP (blk off size : Nat) (w : World) : CmpLays Try.prog 96 #[] encP 2 cfP blk off size w := fun _ _ _ _ x y => cloP x y _

set_option maxHeartbeats 1000000 in
theorem stabP_small (blk cap : Nat) (d : Array Pk) (w : World) (R : RowK encP 2 w blk 0 d) (h20 : d.size < 20) :
    Calls Try.prog 99 #[.slice (some ⟨blk, 0, none⟩) d.size cap, .int .i64 d.size, .func (.func 96) #[] #[]] w fun e w' => e = .returned (.tuple #[]) ∧ SWK encP 2 w blk 0 (Sort.insertionSort (ltOf cfP) d 0 d.size) w' := by
  have hc := insP_w blk cap 0 d.size d d w w (cmpLaysP blk 0 d.size w) R rfl (SWK.start R.hH) (Nat.zero_le _) (Nat.le_refl _) (by omega)
  have HC := Lib.hid hc; clear hc R
  go_enter Try.func99, Try.ntmps99
  go_wp2_with fail
  refine wp_loop_rounds 1 ?_
  rw [rounds_succ]
  go_wp2_with (go_at_call 101; refine HC.out.mono ?_; rintro e w1 ⟨rfl, hS⟩; have HS := Lib.hid hS; clear hS)
  refine wp_loop_rounds 1 ?_
  rw [rounds_succ]
  go_wp2_with fail
  go_end0
  exact ⟨rfl, HS.out⟩

theorem cmpLaysI (lo : List Int) (n bx b o c : Nat) [Inhabited (Fin n)] (hn : lo.length = n) (blk size : Nat) (w : World) (hbx : w.cell? ⟨bx, 0, none⟩ = some (.slice (some ⟨b, o, none⟩) n c)) (hc : ∀ i (h : i < lo.length), w.cell? ⟨b, o + i, none⟩ = some (.int .i64 lo[i])) (h1 : bx ≠ blk) (h2 : b ≠ blk) :
    CmpLays1 Try.prog 85 #[.pointer (some ⟨bx, 0, none⟩)] (encF n) (cfI lo n) blk 0 size w := by
  intro m os dk _ x y
  unfold sortWorld
  have hO := onlyPut (encF n) w m blk 0 dk os
  exact cloI lo n bx b o c hn _ (hO.cell hbx h1) (fun i h => hO.cell (hc i h) h2) x.val y.val x.isLt y.isLt

set_option maxHeartbeats 1000000 in
theorem stabI_small (n : Nat) [Inhabited (Fin n)] (lo : List Int) (cb : Array Value) (blk cap : Nat) (d : Array (Fin n)) (w : World) (hcmp : CmpLays1 Try.prog 85 cb (encF n) (cfI lo n) blk 0 d.size w) (R : Row1 (encF n) w blk 0 d) (h20 : d.size < 20) :
    Calls Try.prog 92 #[.slice (some ⟨blk, 0, none⟩) d.size cap, .int .i64 d.size, .func (.func 85) #[] cb] w fun e w' => e = .returned (.tuple #[]) ∧ SW (encF n) w blk 0 (Sort.insertionSort (ltOf (cfI lo n)) d 0 d.size) w' := by
  have eg : ∀ args w, (callFunc 85 args).run Try.prog w = .ok (.enter 85 args) w := enters_of Try.func85 (by kernel_rfl) rfl
  have hc := Any.insertionSortCmpFunc_s Try.insI (encF n) (cfI lo n) 85 cb blk 0 cap 0 d.size d d w w eg hcmp R rfl (SW.start R.hH) (Nat.zero_le _) (Nat.le_refl _) (by omega)
  change Calls Try.prog 97 _ _ _ at hc
  have HC := Lib.hid hc; clear hc R hcmp eg
  go_enter Try.func92, Try.ntmps92
  go_wp2_with fail
  refine wp_loop_rounds 1 ?_
  rw [rounds_succ]
  go_wp2_with (go_at_call 97; refine HC.out.mono ?_; rintro e w1 ⟨rfl, hS⟩; have HS := Lib.hid hS; clear hS)
  refine wp_loop_rounds 1 ?_
  rw [rounds_succ]
  go_wp2_with fail
  go_end0
  exact ⟨rfl, HS.out⟩

/-- What is used of the two sorts, up to N. -/
structure Sorter (N : Nat) where
  sI : List Int → List Nat → List Nat
  sP : List Pk → List Pk
  permI : ∀ (lo : List Int) (ss : List Nat), (∀ s ∈ ss, s < lo.length) → ss.length ≤ N → (sI lo ss).Perm ss ∧ (sI lo ss).Pairwise (fun a b => lo.getD a 0 ≤ lo.getD b 0)
  permP : ∀ r : List Pk, r.length ≤ N → (sP r).Perm r ∧ SortedN (costs (sP r))
  callI : ∀ (lo : List Int) (n bx b o c : Nat) (_ : lo.length = n) (base blk cap : Nat) (ss : List Nat) (w : World) (_ : ∀ s ∈ ss, s < n) (_ : 0 < ss.length) (_ : ss.length ≤ N)
    (_ : w.cell? ⟨bx, 0, none⟩ = some (.slice (some ⟨b, o, none⟩) n c)) (_ : ∀ i (h : i < lo.length), w.cell? ⟨b, o + i, none⟩ = some (.int .i64 lo[i])) (_ : bx ≠ blk) (_ : b ≠ blk)
    (_ : w.ownsRow base 3 1 (.slice (some ⟨blk, 0, none⟩) ss.length cap) ss.length (sv' ss)),
    Calls Try.prog 84 #[.slice (some ⟨blk, 0, none⟩) ss.length cap, .func (.func 85) #[] #[.pointer (some ⟨bx, 0, none⟩)]] w fun e w' =>
      e = .returned (.tuple #[]) ∧ w'.ownsRow base 3 1 (.slice (some ⟨blk, 0, none⟩) ss.length cap) ss.length (sv' (sI lo ss)) ∧ Only (fun k => k = blk) w w'
  callP : ∀ (base blk cap : Nat) (r : List Pk) (w : World) (_ : 0 < r.length) (_ : r.length ≤ N) (_ : w.ownsRow base 122 2 (.slice (some ⟨blk, 0, none⟩) r.length cap) r.length (r.flatMap encP)),
    Calls Try.prog 95 #[.slice (some ⟨blk, 0, none⟩) r.length cap, .func (.func 96) #[] #[]] w fun e w' =>
      e = .returned (.tuple #[]) ∧ w'.ownsRow base 122 2 (.slice (some ⟨blk, 0, none⟩) r.length cap) r.length ((sP r).flatMap encP) ∧ Only (fun k => k = blk) w w'

theorem sorted_toList {α : Type} [Inhabited α] (f : α → Int) (d : Array α) (h : SortedIn (ltOf fun x y => cmpI (f x) (f y)) 0 d.size d) : d.toList.Pairwise (fun a b => f a ≤ f b) := by
  rw [List.pairwise_iff_getElem]
  intro i j hi hj hij
  have := h i j (Nat.zero_le _) hij (by simpa using hj)
  simp only [ltOf, lt_cmp, decide_eq_false_iff_not] at this
  rw [getElem!_pos d i (by simpa using hi), getElem!_pos d j (by simpa using hj)] at this
  simp only [Array.getElem_toList]
  omega
theorem perm_toList {α : Type} [Inhabited α] (d d' : Array α) (h : PermIn 0 d.size d d') : d'.toList.Perm d.toList := by
  have h3 := h.2.2
  have e1 : d'.extract 0 d.size = d' := by rw [← h.1]; simp
  have e2 : d.extract 0 d.size = d := by simp
  rwa [e1, e2] at h3
theorem flat_at : ∀ (l : List Pk) (i : Nat), i < l.length * 2 → (l.flatMap encP)[i]? = some ((encP (l.getD (i / 2) default))[i % 2]!)
  | [], i, h => by simp at h
  | a :: l, 0, _ => by simp [encP]
  | a :: l, 1, _ => by simp [encP]
  | a :: l, i + 2, h => by
    have ih := flat_at l i (by simp at h; omega)
    have e : ((a :: l).flatMap encP)[i + 2]? = (l.flatMap encP)[i]? := by
      rw [List.flatMap_cons, List.getElem?_append_right (by simp [encP])]
      simp [encP]
    rw [e, ih, show (i + 2) / 2 = i / 2 + 1 by omega, show (i + 2) % 2 = i % 2 by omega]
    rfl
theorem flat_len (l : List Pk) : (l.flatMap encP).length = l.length * 2 := by
  induction l with
  | nil => rfl
  | cons a l ih => simp [encP] at ih ⊢; omega
theorem flat_encP (d : Array Pk) : (flatK encP 2 d).toList = d.toList.flatMap encP := by
  apply List.ext_getElem?
  intro i
  by_cases h : i < d.size * 2
  · rw [flat_at _ _ (by simpa using h), Array.getElem?_toList, Array.getElem?_eq_getElem (by simpa using h), ← getElem!_pos (flatK encP 2 d) i (by simpa using h), get_flatK encP 2 d i h]
    congr 3
    have : i / 2 < d.size := by omega
    simp [List.getD, this]
  · rw [List.getElem?_eq_none (by simp; omega), List.getElem?_eq_none (by rw [flat_len]; simp; omega)]

@[reducible] def inhF (n : Nat) (h : 0 < n) : Inhabited (Fin n) := ⟨⟨0, h⟩⟩
/-- Signs sorted by how often they come, the sort being f. -/
def sortI (lo : List Int) (ss : List Nat) : List Nat := if h : 0 < lo.length then (@Sort.insertionSort (Fin lo.length) (inhF _ h) (ltOf (cfI lo lo.length)) (fins lo.length h ss) 0 ss.length).toList.map (·.val) else ss
/-- Rows of fewer than twenty. -/
def smallSorter : Sorter 19 where
  sI := sortI
  sP r := (Sort.insertionSort (ltOf cfP) r.toArray 0 r.length).toList
  permI := by
    intro lo ss hs hN
    by_cases h : 0 < lo.length
    · unfold sortI
      rw [dif_pos h]
      letI := inhF lo.length h
      have hz : (fins lo.length h ss).size = ss.length := by simp [fins]
      have hh := insertionSort_holds (swoI lo lo.length) (fins lo.length h ss) 0 ss.length (Nat.zero_le _) (by omega)
      rw [← hz] at hh ⊢
      refine ⟨?_, ?_⟩
      · have := (perm_toList _ _ hh.1).map (·.val)
        rwa [fins_val _ _ _ hs] at this
      · have hsz := hh.1.1
        have := sorted_toList (fun x : Fin lo.length => lo.getD x.val 0) _ (by rw [hsz]; exact hh.2)
        rw [List.pairwise_map]
        exact this
    · unfold sortI
      rw [dif_neg h]
      have : ss = [] := by
        cases ss with
        | nil => rfl
        | cons a ss => exact absurd (hs a (by simp)) (by omega)
      subst this
      exact ⟨List.Perm.refl _, List.Pairwise.nil⟩
  permP := by
    intro r hN
    have hh := insertionSort_holds swoP r.toArray 0 r.length (Nat.zero_le _) (by simp)
    have hz : r.toArray.size = r.length := by simp
    rw [← hz] at hh ⊢
    refine ⟨by have := perm_toList _ _ hh.1; simpa using this, ?_⟩
    have hsz := hh.1.1
    have := sorted_toList (fun x : Pk => (x.1 : Int)) _ (by rw [hsz]; exact hh.2)
    unfold SortedN costs
    rw [List.pairwise_map]
    exact this.imp (by intro a b h; exact Int.ofNat_le.1 h)
  callI := by
    intro lo n bx b o c hn base blk cap ss w hs hp hN hbx hc h1 h2 hown
    subst hn
    have h : 0 < lo.length := by
      cases ss with
      | nil => simp at hp
      | cons a ss => have := hs a (by simp); omega
    letI := inhF lo.length h
    have hz : (fins lo.length h ss).size = ss.length := by simp [fins]
    obtain ⟨_, _, hgw⟩ := own_whole hown (k := blk) rfl
    have hH : Holds (encF lo.length) w blk 0 (fins lo.length h ss) := by
      rw [← fins_enc lo.length h ss hs] at hown
      have hne : Value.slice (some ⟨blk, 0, none⟩) ss.length cap ≠ .slice none 0 0 := by simp
      obtain ⟨g, cap', e, _, _, _, _, _, hH⟩ := holds_of_ownsRow hown hne
      injection e with e1
      injection e1 with e1
      injection e1 with e1
      subst e1
      simpa using hH
    have R : Row1 (encF lo.length) w blk 0 (fins lo.length h ss) := ⟨fun _ => rfl, hH, hgw.lt⟩
    have hc2 := stabI_small lo.length lo #[.pointer (some ⟨bx, 0, none⟩)] blk cap (fins lo.length h ss) w (cmpLaysI lo lo.length bx b o c rfl blk _ w hbx hc h1 h2) R (by omega)
    rw [hz] at hc2
    have HC := Lib.hid hc2
    have hO : ∀ w', SW (encF lo.length) w blk 0 (Sort.insertionSort (ltOf (cfI lo lo.length)) (fins lo.length h ss) 0 ss.length) w' → w'.ownsRow base 3 1 (.slice (some ⟨blk, 0, none⟩) ss.length cap) ss.length (sv' (((Sort.insertionSort (ltOf (cfI lo lo.length)) (fins lo.length h ss) 0 ss.length).toList.map (·.val)))) ∧ Only (fun k => k = blk) w w' := by
      rintro w' ⟨q, os, rfl⟩
      have hsz : (Sort.insertionSort (ltOf (cfI lo lo.length)) (fins lo.length h ss) 0 ss.length).size = ss.length := by
        rw [(insertionSort_holds (swoI lo lo.length) (fins lo.length h ss) 0 ss.length (Nat.zero_le _) (by omega)).1.1, hz]
      refine ⟨?_, onlyPut _ _ _ _ _ _ _⟩
      have := ownPut (encF lo.length) hown q (Sort.insertionSort (ltOf (cfI lo lo.length)) (fins lo.length h ss) 0 ss.length) (by rw [hsz]; omega) os
      have e : ((Sort.insertionSort (ltOf (cfI lo lo.length)) (fins lo.length h ss) 0 ss.length).toList.map (encF lo.length)) = sv' (((Sort.insertionSort (ltOf (cfI lo lo.length)) (fins lo.length h ss) 0 ss.length).toList.map (·.val))) := by
        simp [sv', encF, Function.comp_def]
      rw [e] at this
      exact this
    have e0 : sortI lo ss = (@Sort.insertionSort (Fin lo.length) (inhF _ h) (ltOf (cfI lo lo.length)) (fins lo.length h ss) 0 ss.length).toList.map (·.val) := by unfold sortI; rw [dif_pos h]
    rw [← e0] at hO
    clear e0
    have HO := Lib.hid hO
    clear hc2 hO R hH hown hc hbx
    go_enter Try.func84, Try.ntmps84
    go_wp2_with (go_at_call 92; refine HC.out.mono ?_; rintro e w1 ⟨rfl, hS⟩; have HS := Lib.hid hS; clear hS)
    go_end0
    exact ⟨rfl, HO.out _ HS.out⟩
  callP := by
    intro base blk cap r w hp hN hown
    obtain ⟨_, _, hgw⟩ := own_whole hown (k := blk) rfl
    have hH : HoldsK encP 2 w blk 0 r.toArray := by
      intro j hj
      rw [size_flatK] at hj
      rcases hown.2 with ⟨e0, _⟩ | ⟨g', cap', cur, e0, hb, hg, hn, hm, hs, ht⟩
      · cases e0
      · injection e0 with e1 _ e3
        injection e1 with e1
        injection e1 with e1
        subst e1; subst e3
        have hW : Whole w blk 122 cur := hg
        refine ⟨?_, hW.frozen _⟩
        have e4 := flat_encP r.toArray
        simp only at e4
        rw [← e4] at ht
        have hjr : j < r.length * 2 := by simpa using hj
        have hjc : j < cur.size := by have := Nat.mul_le_mul_right 2 hn; omega
        have h5 : (cur.toList.take (r.length * 2))[j]? = some cur[j] := by
          rw [List.getElem?_take_of_lt hjr, Array.getElem?_toList, Array.getElem?_eq_getElem hjc]
        rw [ht, Array.getElem?_toList, Array.getElem?_eq_getElem (by simpa using hjr)] at h5
        injection h5 with h5
        rw [Nat.zero_add, hW.cell j, Array.getElem?_eq_getElem hjc, ← h5, getElem!_pos _ j (by simpa using hjr)]
        rfl
    have R : RowK encP 2 w blk 0 r.toArray := ⟨fun _ => rfl, fun x v hv => by simp [encP] at hv; rcases hv with rfl | rfl <;> rfl, hH, hgw.lt⟩
    have hc2 := stabP_small blk cap r.toArray w R (by simp; omega)
    have hz : r.toArray.size = r.length := by simp
    rw [hz] at hc2
    have HC := Lib.hid hc2
    have hO : ∀ w', SWK encP 2 w blk 0 (Sort.insertionSort (ltOf cfP) r.toArray 0 r.length) w' → w'.ownsRow base 122 2 (.slice (some ⟨blk, 0, none⟩) r.length cap) r.length ((Sort.insertionSort (ltOf cfP) r.toArray 0 r.length).toList.flatMap encP) ∧ Only (fun k => k = blk) w w' := by
      rintro w' ⟨q, os, rfl⟩
      have hsz : (Sort.insertionSort (ltOf cfP) r.toArray 0 r.length).size = r.length := by
        rw [(insertionSort_holds swoP r.toArray 0 r.length (Nat.zero_le _) (by simp)).1.1, hz]
      refine ⟨?_, onlyPut _ _ _ _ _ _ _⟩
      have := ownPut id hown q (flatK encP 2 (Sort.insertionSort (ltOf cfP) r.toArray 0 r.length)) (by rw [size_flatK, hsz]) os
      rw [List.map_id, flat_encP] at this
      exact this
    have HO := Lib.hid hO
    clear hc2 hO R hH hown
    go_enter Try.func95, Try.ntmps95
    go_wp2_with (go_at_call 99; refine HC.out.mono ?_; rintro e w1 ⟨rfl, hS⟩; have HS := Lib.hid hS; clear hS)
    go_end0
    exact ⟨rfl, HO.out _ HS.out⟩
end Go.Proofs.Ytnnpiblnjflceaa
