/-
  Mathematics of runs; contracts of the smallest functions of runs; rows of runs. Conditions: each theorem names its own.
-/
import Derived.Test.YtnnpiblnjflceaaG7
import Derived.Test.YtnnpiblnjflceaaCT
namespace Go.Proofs.Ytnnpiblnjflceaa
open Go.RowKit
set_option maxRecDepth 100000

theorem iv_append (a b : List Int) : iv (a ++ b) = iv a ++ iv b := by simp [iv]

theorem run_info : (Try.prog.info? 97).map (fun i => (i.zero, i.size, i.bytes)) = some (some (.agg #[.int .i64 0, .int .i64 0]), 2, 16) := by kernel_rfl

theorem seen_cells (w : World) (t : TypeId) (fr : Nat × Nat) (size n : Nat) (xs : List Value) (h : xs.length = n * size) : Seen (w.alloc (.cells xs.toArray t fr)) (w.heap.size + 1) size (some ⟨w.heap.size, 0, none⟩) n n xs := by
  refine ⟨h, Nat.le_refl _, .inr ⟨_, rfl, fun _ => ⟨rfl, by simp, fun j x hx => ?_⟩⟩⟩
  simp only [Nat.zero_add]
  rw [cell_of_row _ w.heap.size j xs.toArray t fr (heap_alloc_new w _)]
  simpa using hx


/-- A run: a sign, and what is added. -/
structure Rn where
  sign : Int
  more : Int

/-- How many bits are added. -/
def bitsR (s : Int) : Int := if s = 16 then 2 else if s = 17 then 3 else if s = 18 then 7 else 0
/-- Two to the power of that. -/
def roomR (s : Int) : Int := if s = 16 then 4 else if s = 17 then 8 else if s = 18 then 128 else 1
/-- How many lengths a sign stands for at least. -/
def leastR (s : Int) : Int := if s = 16 then 3 else if s = 17 then 3 else if s = 18 then 11 else 1
/-- Whether it is a run. -/
def rightR (r : Rn) : Bool := decide (0 ≤ r.sign) && decide (r.sign ≤ 18) && decide (0 ≤ r.more) && decide (r.more < roomR r.sign)
/-- Which length a sign tells behind those ahead. -/
def toldR (s : Int) (o : List Int) : Int := if s = 16 then o.getD (o.length - 1) 0 else if s = 17 then 0 else if s = 18 then 0 else s
/-- Why a run may not stand behind so many lengths. -/
def wrongR (r : Rn) (n : Nat) : Nat := if rightR r = false then 5 else if r.sign = 16 ∧ n = 0 then 2 else if 320 - (n : Int) < leastR r.sign + r.more then 4 else 0
/-- What a run adds. -/
def addR (r : Rn) (o : List Int) : List Int := o ++ List.replicate (leastR r.sign + r.more).toNat (toldR r.sign o)
/-- What runs stand for, or why they stand for nothing. -/
def expR : List Rn → List Int → Nat × List Int
  | [], o => (0, o)
  | r :: l, o => if wrongR r o.length = 0 then expR l (addR r o) else (wrongR r o.length, [])

theorem wrongR_lt (r : Rn) (n : Nat) : wrongR r n < 100 := by
  unfold wrongR
  repeat (first | omega | split)

theorem wrongR_ok {r : Rn} {n : Nat} (h : wrongR r n = 0) : rightR r = true ∧ ¬ (r.sign = 16 ∧ n = 0) ∧ leastR r.sign + r.more ≤ 320 - (n : Int) := by
  unfold wrongR at h
  split at h
  · omega
  · split at h
    · omega
    · split at h
      · omega
      · rename_i h1 h2 h3
        exact ⟨by simpa using h1, h2, by omega⟩

theorem leastR_pos (s : Int) : 1 ≤ leastR s ∧ leastR s ≤ 11 := by
  unfold leastR
  repeat (first | omega | split)
theorem roomR_pos (s : Int) : 1 ≤ roomR s ∧ roomR s ≤ 128 := by
  unfold roomR
  repeat (first | omega | split)

theorem rightR_nums {r : Rn} (h : rightR r = true) : 0 ≤ r.sign ∧ r.sign ≤ 18 ∧ 0 ≤ r.more ∧ r.more < roomR r.sign := by
  simp [rightR] at h
  omega

theorem addR_length {r : Rn} {o : List Int} (h : wrongR r o.length = 0) : (addR r o).length = o.length + (leastR r.sign + r.more).toNat ∧ (addR r o).length ≤ 320 := by
  obtain ⟨h1, h2, h3⟩ := wrongR_ok h
  have h4 := rightR_nums h1
  have h5 := leastR_pos r.sign
  have e : (addR r o).length = o.length + (leastR r.sign + r.more).toNat := by simp [addR]
  refine ⟨e, ?_⟩
  rw [e]
  omega

theorem expR_ok {r : Rn} {l : List Rn} {o : List Int} (h : wrongR r o.length = 0) : expR (r :: l) o = expR l (addR r o) := by
  show (if _ then _ else _) = _
  rw [if_pos h]
theorem expR_er {r : Rn} {l : List Rn} {o : List Int} (h : wrongR r o.length ≠ 0) : expR (r :: l) o = (wrongR r o.length, []) := by
  show (if _ then _ else _) = _
  rw [if_neg h]

theorem shl_room (s : Int) : (1 : Int) <<< (bitsR s).toNat = roomR s := by
  unfold bitsR roomR
  split
  · rfl
  · split
    · rfl
    · split
      · rfl
      · rfl
theorem bitsR_nums (s : Int) : 0 ≤ bitsR s ∧ bitsR s ≤ 7 := by
  unfold bitsR
  repeat (first | omega | split)
theorem room_pow (s : Int) : (2 : Int) ^ (bitsR s).toNat = roomR s := by
  unfold bitsR roomR
  split
  · rfl
  · split
    · rfl
    · split
      · rfl
      · rfl
theorem bits_any (s : Int) (w : World) : Calls Try.prog 65 #[.int .i64 s] w fun e w' => e = .returned (.int .i64 (bitsR s)) ∧ w = w' := by
  obtain ⟨r, hr⟩ : ∃ r, bitsR s = r := ⟨_, rfl⟩
  rw [hr]
  unfold bitsR at hr
  go_enter Try.func65, Try.ntmps65
  go_wp2
  all_goals go_ret
  all_goals exact ⟨ret_int (by simp_all), rfl⟩

theorem least_any (s : Int) (w : World) : Calls Try.prog 89 #[.int .i64 s] w fun e w' => e = .returned (.int .i64 (leastR s)) ∧ w = w' := by
  obtain ⟨r, hr⟩ : ∃ r, leastR s = r := ⟨_, rfl⟩
  rw [hr]
  unfold leastR at hr
  go_enter Try.func89, Try.ntmps89
  go_wp2
  all_goals go_ret
  all_goals exact ⟨ret_int (by simp_all), rfl⟩

theorem beyond_any (s : Int) (w : World) : Calls Try.prog 75 #[.int .i64 s] w fun e w' => e = .returned (.bool (decide (s < 0) || decide (15 < s))) ∧ w = w' := by
  by_cases h : s < 0
  · have d : decide (s < 0) = true := decide_eq_true h
    go_enter Try.func75, Try.ntmps75
    go_wp2
    go_ret
    exact ⟨by simp [h], rfl⟩
  · have d : decide (s < 0) = false := decide_eq_false h
    go_enter Try.func75, Try.ntmps75
    go_wp2
    go_ret
    exact ⟨by simp, rfl⟩

theorem bits_quiet (s b : Int) (h : bitsR s = b) (w : World) (n : Nat) : Calls Try.prog 65 #[.int .i64 s] (w.drewN n) fun e w'' => e = .returned (.int .i64 b) ∧ ∃ m, w'' = w.drewN m := by
  subst h
  exact (bits_any s (w.drewN n)).mono fun _ _ ⟨he, hw⟩ => ⟨he, n, hw.symm⟩
theorem least_quiet (s b : Int) (h : leastR s = b) (w : World) (n : Nat) : Calls Try.prog 89 #[.int .i64 s] (w.drewN n) fun e w'' => e = .returned (.int .i64 b) ∧ ∃ m, w'' = w.drewN m := by
  subst h
  exact (least_any s (w.drewN n)).mono fun _ _ ⟨he, hw⟩ => ⟨he, n, hw.symm⟩

/-- A run's cells. -/
def rc (t : Rn) : List Value := [.int .i64 t.sign, .int .i64 t.more]
def rvs (l : List Rn) : List Value := l.flatMap rc
theorem rvs_length (l : List Rn) : (rvs l).length = l.length * 2 := by
  induction l with
  | nil => rfl
  | cons t l ih =>
    have : rvs (t :: l) = rc t ++ rvs l := rfl
    rw [this, List.length_append, ih]
    simp [rc]
    omega
theorem rvs_append (a b : List Rn) : rvs (a ++ b) = rvs a ++ rvs b := by simp [rvs]
theorem rvs_get : ∀ (l : List Rn) (k j : Nat) (h : k < l.length), j < 2 → (rvs l)[k * 2 + j]? = (rc l[k])[j]?
  | t :: l, 0, j, h, hj => by
    have : rvs (t :: l) = rc t ++ rvs l := rfl
    rw [this, List.getElem?_append_left (by simp [rc]; omega)]
    simp
  | t :: l, k + 1, j, h, hj => by
    have : rvs (t :: l) = rc t ++ rvs l := rfl
    rw [this, List.getElem?_append_right (by simp [rc]; omega)]
    have e : (k + 1) * 2 + j - (rc t).length = k * 2 + j := by simp [rc]; omega
    rw [e, rvs_get l k j (by simpa using h) hj]
    simp

theorem Seen.rn {w : World} {B n c : Nat} {A : Option Addr} {l : List Rn} (h : Seen w B 2 A n c (rvs l)) {k : Nat} (hk : k < n) : ∃ (t : Rn) (b o : Nat), l[k]? = some t ∧ A = some ⟨b, o, none⟩ ∧ b < B ∧ w.cell? ⟨b, o + k * 2, none⟩ = some (.int .i64 t.sign) ∧ w.cell? ⟨b, o + k * 2 + 1, none⟩ = some (.int .i64 t.more) := by
  obtain ⟨h1, h2, h3⟩ := h
  rw [rvs_length] at h1
  have hl : k < l.length := by omega
  rcases h3 with ⟨_, h3⟩ | ⟨⟨b, o, s⟩, ha, h3⟩
  · omega
  · obtain ⟨g1, g2, g3⟩ := h3 (by intro e; have := rvs_length l; rw [e] at this; simp at this; omega)
    simp only at g1 g2 g3
    subst g1
    refine ⟨l[k], b, o, List.getElem?_eq_getElem hl, ha, g2, ?_, ?_⟩
    · exact g3 (k * 2) _ (rvs_get l k 0 hl (by omega))
    · have := g3 (k * 2 + 1) _ (rvs_get l k 1 hl (by omega))
      rwa [← Nat.add_assoc] at this

theorem addR_take (o : List Int) (x : Int) (j : Nat) : o ++ List.replicate (j + 1) x = (o ++ List.replicate j x) ++ [x] := by
  rw [List.replicate_succ', List.append_assoc]


end Go.Proofs.Ytnnpiblnjflceaa
