/-
  Mathematics of runs: what a run is, what runs stand for. Conditions: none. Nothing of the program stands here.
-/
import Derived.Test.YtnobeghnljjidaaB
namespace Go.Proofs.Ytnobeghnljjidaa

/-- A run: a sign, and what is added. -/
structure Rn where
  sign : Int
  more : Int

/-- How many bits are added. -/
def bitsR (s : Int) : Int := if s = 16 then 2 else if s = 17 then 3 else if s = 18 then 7 else 0
/-- Two to the power of that. -/
def roomR (s : Int) : Int := if s = 16 then 4 else if s = 17 then 8 else if s = 18 then 128 else 1
/-- How many lengths a sign stands for at least. -/
def leastR (s : Int) : Int := if s = 16 then 3 else if s = 17 then 3 else if s = 18 then 11 else 1
/-- Whether it is a run. -/
def rightR (r : Rn) : Bool := decide (0 ≤ r.sign) && decide (r.sign ≤ 18) && decide (0 ≤ r.more) && decide (r.more < roomR r.sign)
/-- Which length a sign tells behind those ahead. -/
def toldR (s : Int) (o : List Int) : Int := if s = 16 then o.getD (o.length - 1) 0 else if s = 17 then 0 else if s = 18 then 0 else s
/-- Why a run may not stand behind so many lengths. -/
def wrongR (r : Rn) (n : Nat) : Nat := if rightR r = false then 5 else if r.sign = 16 ∧ n = 0 then 2 else if 320 - (n : Int) < leastR r.sign + r.more then 4 else 0
/-- What a run adds. -/
def addR (r : Rn) (o : List Int) : List Int := o ++ List.replicate (leastR r.sign + r.more).toNat (toldR r.sign o)
/-- What runs stand for, or why they stand for nothing. -/
def expR : List Rn → List Int → Nat × List Int
  | [], o => (0, o)
  | r :: l, o => if wrongR r o.length = 0 then expR l (addR r o) else (wrongR r o.length, [])

theorem wrongR_lt (r : Rn) (n : Nat) : wrongR r n < 100 := by
  unfold wrongR
  repeat (first | omega | split)

theorem wrongR_ok {r : Rn} {n : Nat} (h : wrongR r n = 0) : rightR r = true ∧ ¬ (r.sign = 16 ∧ n = 0) ∧ leastR r.sign + r.more ≤ 320 - (n : Int) := by
  unfold wrongR at h
  split at h
  · omega
  · split at h
    · omega
    · split at h
      · omega
      · rename_i h1 h2 h3
        exact ⟨by simpa using h1, h2, by omega⟩

theorem leastR_pos (s : Int) : 1 ≤ leastR s ∧ leastR s ≤ 11 := by
  unfold leastR
  repeat (first | omega | split)
theorem roomR_pos (s : Int) : 1 ≤ roomR s ∧ roomR s ≤ 128 := by
  unfold roomR
  repeat (first | omega | split)

theorem rightR_nums {r : Rn} (h : rightR r = true) : 0 ≤ r.sign ∧ r.sign ≤ 18 ∧ 0 ≤ r.more ∧ r.more < roomR r.sign := by
  simp [rightR] at h
  omega

theorem addR_length {r : Rn} {o : List Int} (h : wrongR r o.length = 0) : (addR r o).length = o.length + (leastR r.sign + r.more).toNat ∧ (addR r o).length ≤ 320 := by
  obtain ⟨h1, h2, h3⟩ := wrongR_ok h
  have h4 := rightR_nums h1
  have h5 := leastR_pos r.sign
  have e : (addR r o).length = o.length + (leastR r.sign + r.more).toNat := by simp [addR]
  refine ⟨e, ?_⟩
  rw [e]
  omega

theorem expR_ok {r : Rn} {l : List Rn} {o : List Int} (h : wrongR r o.length = 0) : expR (r :: l) o = expR l (addR r o) := by
  show (if _ then _ else _) = _
  rw [if_pos h]
theorem expR_er {r : Rn} {l : List Rn} {o : List Int} (h : wrongR r o.length ≠ 0) : expR (r :: l) o = (wrongR r o.length, []) := by
  show (if _ then _ else _) = _
  rw [if_neg h]

theorem shl_room (s : Int) : (1 : Int) <<< (bitsR s).toNat = roomR s := by
  unfold bitsR roomR
  split
  · rfl
  · split
    · rfl
    · split
      · rfl
      · rfl
theorem bitsR_nums (s : Int) : 0 ≤ bitsR s ∧ bitsR s ≤ 7 := by
  unfold bitsR
  repeat (first | omega | split)
theorem room_pow (s : Int) : (2 : Int) ^ (bitsR s).toNat = roomR s := by
  unfold bitsR roomR
  split
  · rfl
  · split
    · rfl
    · split
      · rfl
      · rfl
end Go.Proofs.Ytnobeghnljjidaa
