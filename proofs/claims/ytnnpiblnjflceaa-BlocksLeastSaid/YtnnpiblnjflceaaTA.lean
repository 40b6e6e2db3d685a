/-
  Plain mathematics of tokens: which are right, what they stand for, the longest copy for a place. Conditions: none. Nothing of the program stands here.
-/
namespace Go.Proofs.Ytnnpiblnjflceaa

/-- A token. -/
structure Tok where
  lit : Nat
  len : Int
  dist : Int
deriving DecidableEq

/-- It is a token. -/
def rightT (t : Tok) : Bool := if t.len = 0 then decide (t.dist = 0) else decide (t.lit = 0 ∧ 3 ≤ t.len ∧ t.len ≤ 258 ∧ 1 ≤ t.dist ∧ t.dist ≤ 32768)

/-- What is wrong with a token behind n bytes. -/
def wrongT (t : Tok) (n : Nat) (most : Int) : Nat :=
  if rightT t = false then 5 else if (n : Int) < t.dist then 13 else if most - n < max t.len 1 then 3 else 0

/-- A copy of n bytes from d back, byte by byte. -/
def copyN (d : Nat) : Nat → List Nat → List Nat
  | 0, o => o
  | n + 1, o => copyN d n o ++ [(copyN d n o).getD ((copyN d n o).length - d) 0]

theorem copyN_length (d : Nat) : ∀ (n : Nat) (o : List Nat), (copyN d n o).length = o.length + n
  | 0, o => rfl
  | n + 1, o => by simp [copyN, copyN_length d n o]; omega
theorem copyN_lt (d : Nat) : ∀ (n : Nat) (o : List Nat), (∀ x ∈ o, x < 256) → ∀ x ∈ copyN d n o, x < 256
  | 0, o, h => h
  | n + 1, o, h => by
    intro x hx
    have ih := copyN_lt d n o h
    rcases List.mem_append.1 hx with hx | hx
    · exact ih x hx
    · obtain rfl := List.mem_singleton.1 hx
      by_cases hl : (copyN d n o).length - d < (copyN d n o).length
      · rw [List.getD, List.getElem?_eq_getElem hl]; exact ih _ (List.getElem_mem hl)
      · rw [List.getD, List.getElem?_eq_none (by omega)]; simp

/-- What a token adds. -/
def addT (t : Tok) (o : List Nat) : List Nat := if t.len = 0 then o ++ [t.lit] else copyN t.dist.toNat t.len.toNat o

/-- What tokens stand for: an error's number, and bytes. -/
def expT (most : Int) : List Tok → List Nat → Nat × List Nat
  | [], o => (0, o)
  | t :: l, o => if wrongT t o.length most = 0 then expT most l (addT t o) else (wrongT t o.length most, [])

theorem expT_cons_ok {most : Int} {t : Tok} {l : List Tok} {o : List Nat} (h : wrongT t o.length most = 0) : expT most (t :: l) o = expT most l (addT t o) := by simp [expT, h]
theorem expT_cons_er {most : Int} {t : Tok} {l : List Tok} {o : List Nat} (h : wrongT t o.length most ≠ 0) : expT most (t :: l) o = (wrongT t o.length most, []) := by simp [expT, h]
theorem expT_append {most : Int} {t : Tok} : ∀ {l : List Tok} {o p : List Nat}, expT most l o = (0, p) → wrongT t p.length most = 0 → expT most (l ++ [t]) o = (0, addT t p)
  | [], o, p, h, ht => by
    simp [expT] at h
    subst h
    simp [expT, ht]
  | u :: l, o, p, h, ht => by
    by_cases hu : wrongT u o.length most = 0
    · rw [expT_cons_ok hu] at h
      rw [List.cons_append, expT_cons_ok hu]
      exact expT_append h ht
    · rw [expT_cons_er hu] at h
      injection h with h1 h2
      exact absurd h1 hu
theorem addT_lt {t : Tok} {o : List Nat} (ht : t.lit < 256) (h : ∀ x ∈ o, x < 256) : ∀ x ∈ addT t o, x < 256 := by
  unfold addT
  split
  · intro x hx
    rcases List.mem_append.1 hx with hx | hx
    · exact h x hx
    · obtain rfl := List.mem_singleton.1 hx
      exact ht
  · exact copyN_lt _ _ _ h
theorem wrongT_ok {t : Tok} {n : Nat} {most : Int} (h : wrongT t n most = 0) : rightT t = true ∧ t.dist ≤ n ∧ max t.len 1 ≤ most - n := by
  unfold wrongT at h
  split at h
  · cases h
  · split at h
    · cases h
    · split at h
      · cases h
      · rename_i h1 h2 h3
        exact ⟨by simpa using h1, by omega, by omega⟩
theorem rightT_copy {t : Tok} (h : rightT t = true) (h0 : t.len ≠ 0) : t.lit = 0 ∧ 3 ≤ t.len ∧ t.len ≤ 258 ∧ 1 ≤ t.dist ∧ t.dist ≤ 32768 := by
  unfold rightT at h
  rw [if_neg h0] at h
  simpa using h
theorem rightT_byte {t : Tok} (h : rightT t = true) (h0 : t.len = 0) : t.dist = 0 := by
  unfold rightT at h
  rw [if_pos h0] at h
  simpa using h
theorem addT_length {t : Tok} {o : List Nat} {most : Int} (h : wrongT t o.length most = 0) : ((addT t o).length : Int) = o.length + max t.len 1 ∧ (addT t o).length ≤ most := by
  obtain ⟨h1, h2, h3⟩ := wrongT_ok h
  unfold addT
  split
  · rename_i h0
    simp
    omega
  · rename_i h0
    have := rightT_copy h1 h0
    rw [copyN_length]
    omega

/-- How far p holds, at most m. -/
def upto (p : Nat → Bool) : Nat → Nat
  | 0 => 0
  | m + 1 => if upto p m = m ∧ p m = true then m + 1 else upto p m
theorem upto_le (p : Nat → Bool) : ∀ m, upto p m ≤ m
  | 0 => Nat.le_refl _
  | m + 1 => by
    have := upto_le p m
    unfold upto
    split <;> omega
theorem upto_all (p : Nat → Bool) : ∀ m j, j < upto p m → p j = true
  | 0, j, h => by simp [upto] at h
  | m + 1, j, h => by
    unfold upto at h
    split at h
    · rename_i h1
      by_cases hj : j = m
      · subst hj; exact h1.2
      · exact upto_all p m j (by omega)
    · exact upto_all p m j h
theorem upto_end (p : Nat → Bool) : ∀ m, upto p m < m → p (upto p m) = false
  | 0, h => by simp at h
  | m + 1, h => by
    have hl := upto_le p m
    by_cases h1 : upto p m = m ∧ p m = true
    · have : upto p (m + 1) = m + 1 := by unfold upto; rw [if_pos h1]
      omega
    · have e : upto p (m + 1) = upto p m := by
        show (if upto p m = m ∧ p m = true then m + 1 else upto p m) = upto p m
        rw [if_neg h1]
      rw [e]
      by_cases h2 : upto p m = m
      · rw [h2]
        cases hp : p m
        · rfl
        · exact absurd ⟨h2, hp⟩ h1
      · exact upto_end p m (by omega)
theorem upto_eq {p : Nat → Bool} {m n : Nat} (h1 : n ≤ m) (h2 : ∀ j, j < n → p j = true) (h3 : n = m ∨ p n = false) : upto p m = n := by
  have a := upto_le p m
  rcases Nat.lt_trichotomy (upto p m) n with h | h | h
  · have := upto_end p m (by omega)
    rw [h2 _ h] at this
    cases this
  · exact h
  · have := upto_all p m n h
    rcases h3 with h3 | h3
    · omega
    · rw [this] at h3; cases h3

/-- The byte at a place is that d back. -/
def sameB (bs : List Nat) (at' d : Nat) (j : Nat) : Bool := decide (bs.getD (at' + j) 0 = bs.getD (at' + j - d) 0)
/-- How long a copy for a place may be. -/
def mostAt (bs : List Nat) (at' : Nat) : Nat := min (bs.length - at') 258
/-- How long the copy from d back is. -/
def mlen (bs : List Nat) (at' d : Nat) : Nat := upto (sameB bs at' d) (mostAt bs at')
/-- A token, or the copy from d back, if it is longer. -/
def longerT (bs : List Nat) (at' d : Nat) (t : Tok) : Tok := if 3 ≤ mlen bs at' d ∧ t.len < mlen bs at' d then ⟨0, mlen bs at' d, d⟩ else t
/-- The best from up to d back. -/
def bestT (bs : List Nat) (at' : Nat) : Nat → Tok
  | 0 => ⟨bs.getD at' 0, 0, 0⟩
  | d + 1 => longerT bs at' (d + 1) (bestT bs at' d)
/-- The document's Find. -/
def findT (bs : List Nat) (at' : Int) : Tok := if at' < 0 ∨ (bs.length : Int) ≤ at' then ⟨0, 0, 0⟩ else bestT bs at'.toNat (min at'.toNat 32768)

/-- A token fits a place: it stands for bytes that stand there. -/
def Fits (bs : List Nat) (at' : Nat) (t : Tok) : Prop :=
  (t.len = 0 ∧ t.dist = 0 ∧ t.lit = bs.getD at' 0) ∨
  (t.lit = 0 ∧ ∃ n d : Nat, t.len = n ∧ t.dist = d ∧ 3 ≤ n ∧ n ≤ 258 ∧ 1 ≤ d ∧ d ≤ 32768 ∧ d ≤ at' ∧ at' + n ≤ bs.length ∧ ∀ j, j < n → sameB bs at' d j = true)

theorem Fits.len {bs : List Nat} {at' : Nat} {t : Tok} (h : Fits bs at' t) (ha : at' < bs.length) : 0 ≤ t.len ∧ t.len ≤ mostAt bs at' := by
  unfold mostAt
  rcases h with ⟨h1, _, _⟩ | ⟨_, n, d, h1, h2, h3, h4, h5, h6, h7, h8, h9⟩ <;> omega
theorem Fits.lit {bs : List Nat} {at' : Nat} {t : Tok} (h : Fits bs at' t) (hb : ∀ x ∈ bs, x < 256) : t.lit < 256 := by
  rcases h with ⟨_, _, h3⟩ | ⟨h3, _⟩
  · rw [h3]
    by_cases hl : at' < bs.length
    · rw [List.getD, List.getElem?_eq_getElem hl]; exact hb _ (List.getElem_mem hl)
    · rw [List.getD, List.getElem?_eq_none (by omega)]; simp
  · omega
theorem Fits.byte (bs : List Nat) (at' : Nat) : Fits bs at' ⟨bs.getD at' 0, 0, 0⟩ := .inl ⟨rfl, rfl, rfl⟩
theorem Fits.longer {bs : List Nat} {at' d : Nat} {t : Tok} (h : Fits bs at' t) (ha : at' < bs.length) (h1 : 1 ≤ d) (h2 : d ≤ 32768) (h3 : d ≤ at') : Fits bs at' (longerT bs at' d t) := by
  unfold longerT
  split
  · rename_i hc
    have := upto_le (sameB bs at' d) (mostAt bs at')
    refine .inr ⟨rfl, mlen bs at' d, d, rfl, rfl, hc.1, ?_, h1, h2, h3, ?_, upto_all _ _⟩
    · unfold mlen; unfold mostAt at *; omega
    · unfold mlen; unfold mostAt at *; omega
  · exact h

/-- A longer copy has the byte behind the best one. -/
theorem longer_no {bs : List Nat} {at' d n : Nat} {t : Tok} (ht : t.len = n) (h : mostAt bs at' ≤ n ∨ sameB bs at' d n = false) : longerT bs at' d t = t := by
  unfold longerT
  rw [if_neg]
  rintro ⟨_, h2⟩
  rw [ht] at h2
  have h3 : n < mlen bs at' d := by omega
  rcases h with h | h
  · have := upto_le (sameB bs at' d) (mostAt bs at')
    unfold mlen at h3
    omega
  · rw [upto_all _ _ _ h3] at h
    cases h

theorem copyN_take {bs : List Nat} {at' d : Nat} (h1 : 1 ≤ d) (h2 : d ≤ at') : ∀ n, at' + n ≤ bs.length → (∀ j, j < n → sameB bs at' d j = true) → copyN d n (bs.take at') = bs.take (at' + n)
  | 0, _, _ => rfl
  | n + 1, h, hs => by
    have ih := copyN_take h1 h2 n (by omega) (fun j hj => hs j (by omega))
    show copyN d n (bs.take at') ++ [(copyN d n (bs.take at')).getD ((copyN d n (bs.take at')).length - d) 0] = _
    rw [ih]
    have hl : (bs.take (at' + n)).length = at' + n := by simp; omega
    rw [hl]
    have hb : at' + n < bs.length := by omega
    have hd : at' + n - d < bs.length := by omega
    have e := hs n (by omega)
    unfold sameB at e
    have e := of_decide_eq_true e
    have e1 : (bs.take (at' + n)).getD (at' + n - d) 0 = bs.getD (at' + n - d) 0 := by
      simp only [List.getD, List.getElem?_take]
      rw [if_pos (by omega)]
    rw [e1, ← e]
    rw [show at' + (n + 1) = (at' + n) + 1 by omega, List.take_add_one, List.getD, List.getElem?_eq_getElem hb]
    rfl

/-- A token that fits is told. -/
theorem Fits.add {bs : List Nat} {at' : Nat} {t : Tok} (h : Fits bs at' t) (ha : at' < bs.length) :
    wrongT t (bs.take at').length (bs.length : Int) = 0 ∧ addT t (bs.take at') = bs.take (at' + (max t.len 1).toNat) ∧ at' + (max t.len 1).toNat ≤ bs.length ∧ 1 ≤ (max t.len 1).toNat := by
  have hl : (bs.take at').length = at' := by simp; omega
  rw [hl]
  rcases h with ⟨h1, h2, h3⟩ | ⟨h0, n, d, h1, h2, h3, h4, h5, h6, h7, h8, h9⟩
  · refine ⟨?_, ?_, by omega, by omega⟩
    · unfold wrongT
      have hr : rightT t = true := by unfold rightT; rw [if_pos h1]; simpa using h2
      rw [if_neg (by simp [hr]), if_neg (by omega), if_neg (by omega)]
    · unfold addT
      rw [if_pos h1, h3, show (max t.len 1).toNat = 1 by omega, List.take_add_one, List.getD, List.getElem?_eq_getElem ha]
      rfl
  · refine ⟨?_, ?_, by omega, by omega⟩
    · unfold wrongT
      have hr : rightT t = true := by
        unfold rightT; rw [if_neg (by omega)]
        exact decide_eq_true ⟨h0, by omega, by omega, by omega, by omega⟩
      rw [if_neg (by simp [hr]), if_neg (by omega), if_neg (by omega)]
    · unfold addT
      rw [if_neg (by omega), h1, h2, show (max (n : Int) 1).toNat = n by omega]
      exact copyN_take h5 h7 n h8 h9

/-- Tokens of fewer than three bytes are bytes. -/
theorem expT_two (most : Int) : ∀ (l : List Tok) (o p : List Nat), expT most l o = (0, p) → p.length ≤ o.length + 2 → o.length + l.length = p.length
  | [], o, p, h, _ => by simp [expT] at h; simp [h]
  | t :: l, o, p, h, h2 => by
    by_cases hu : wrongT t o.length most = 0
    · rw [expT_cons_ok hu] at h
      have hg := (addT_length hu).1
      have hr := (wrongT_ok hu).1
      have hle : ∀ (l : List Tok) (o p : List Nat), expT most l o = (0, p) → o.length ≤ p.length := by
        intro l
        induction l with
        | nil => intro o p h; simp [expT] at h; simp [h]
        | cons t l ih =>
          intro o p h
          by_cases hu : wrongT t o.length most = 0
          · rw [expT_cons_ok hu] at h
            have := ih _ _ h
            have hg := (addT_length hu).1
            omega
          · rw [expT_cons_er hu] at h
            injection h with h1 h2
            exact absurd h1 hu
      have h3 := hle _ _ _ h
      have hz : t.len = 0 := by
        by_cases h0 : t.len = 0
        · exact h0
        · have := rightT_copy hr h0; omega
      have h4 : (addT t o).length = o.length + 1 := by omega
      have := expT_two most l _ _ h (by omega)
      simp
      omega
    · rw [expT_cons_er hu] at h
      injection h with h1 h2
      exact absurd h1 hu
end Go.Proofs.Ytnnpiblnjflceaa
