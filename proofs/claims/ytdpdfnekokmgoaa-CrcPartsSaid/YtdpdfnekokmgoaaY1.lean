/-
  Plain mathematics of bursts: rows of bits together, a window of 32 bits, what sealed bytes leave in the register. Conditions: none. Nothing of the program stands here.
-/
import Derived.Test.YtdpdfnekokmgoaaY0
import Derived.Test.YtdpdfnekokmgoaaN
import Derived.Test.YtdpdfnekokmgoaaC0
namespace Go.Proofs.Ytdpdfnekokmgoaa

/-- Two rows of bits together, bit by bit. -/
def xorl (a b : List Bool) : List Bool := List.zipWith (fun x y => x != y) a b

theorem bne_toNat (x y : Bool) : (x != y).toNat = x.toNat ^^^ y.toNat := by cases x <;> cases y <;> rfl

theorem feed_xor (a b : Nat) (l m : List Bool) (h : l.length = m.length) : feed (a ^^^ b) (xorl l m) = feed a l ^^^ feed b m := by
  induction l generalizing a b m with
  | nil =>
    cases m with
    | nil => rfl
    | cons y m => simp at h
  | cons x l ih =>
    cases m with
    | nil => simp at h
    | cons y m =>
      have e : xorl (x :: l) (y :: m) = (x != y) :: xorl l m := rfl
      rw [e, feed_cons, feed_cons, feed_cons, bne_toNat, ← ih _ _ m (by simpa using h), ← st_xor]
      congr 2
      rw [Nat.xor_assoc, Nat.xor_assoc, ← Nat.xor_assoc b, Nat.xor_comm b, Nat.xor_assoc]

theorem num_zero (l : List Bool) (h : ∀ x ∈ l, x = false) : num l = 0 := by
  induction l with
  | nil => rfl
  | cons x l ih =>
    rw [num, ih (fun y hy => h y (by simp [hy])), h x (by simp)]
    rfl
theorem num_ne (l : List Bool) (h : true ∈ l) : num l ≠ 0 := by
  induction l with
  | nil => cases h
  | cons x l ih =>
    rw [num]
    rcases List.mem_cons.1 h with h | h
    · subst h; simp
    · have := ih h
      split <;> omega

theorem feed_off (r : Nat) (l : List Bool) (h : ∀ x ∈ l, x = false) : feed r l = sts l.length r := by
  rw [feed_num, num_zero l h, Nat.xor_zero]

theorem feed_window (e : List Bool) (p : Nat) (hw : ∀ j, e[j]? = some true → p ≤ j ∧ j < p + 32) (ht : true ∈ e) : feed 0 e ≠ 0 := by
  have hparts : e = e.take p ++ ((e.drop p).take 32 ++ (e.drop p).drop 32) := by rw [List.take_append_drop, List.take_append_drop]
  have h1 : ∀ x ∈ e.take p, x = false := by
    intro x hx
    cases x with
    | false => rfl
    | true =>
      obtain ⟨j, hj⟩ := List.mem_iff_getElem?.1 hx
      rw [List.getElem?_take] at hj
      split at hj
      · have := hw j hj; omega
      · cases hj
  have h3 : ∀ x ∈ (e.drop p).drop 32, x = false := by
    intro x hx
    cases x with
    | false => rfl
    | true =>
      obtain ⟨j, hj⟩ := List.mem_iff_getElem?.1 hx
      rw [List.drop_drop, List.getElem?_drop] at hj
      have := hw _ hj; omega
  have h2 : true ∈ (e.drop p).take 32 := by
    rw [hparts] at ht
    rcases List.mem_append.1 ht with h | h
    · exact absurd (h1 _ h) (by decide)
    · rcases List.mem_append.1 h with h | h
      · exact h
      · exact absurd (h3 _ h) (by decide)
  rw [hparts, feed_append, feed_append, feed_off 0 _ h1, sts_zero, feed_off _ _ h3, feed_num, Nat.zero_xor]
  have hl : ((e.drop p).take 32).length ≤ 32 := by simp; omega
  have hlt : num ((e.drop p).take 32) < 4294967296 := by
    have := num_lt ((e.drop p).take 32)
    have h4 := pow_le_32 hl
    omega
  exact sts_ne _ _ (sts_lt _ _ hlt) (sts_ne _ _ hlt (num_ne _ h2))

/-- Which bits a burst's first i bits turn over, of so many. -/
def turns (n : Nat) (at' : Int) (pat i : Nat) : List Bool := (List.range n).map fun j : Nat => decide (at' ≤ (j : Int) ∧ (j : Int) < at' + i) && pat.testBit ((j : Int) - at').toNat

@[simp] theorem turns_length (n : Nat) (at' : Int) (pat i : Nat) : (turns n at' pat i).length = n := by simp [turns]
theorem turns_get (n : Nat) (at' : Int) (pat i j : Nat) (h : j < n) : (turns n at' pat i)[j]? = some (decide (at' ≤ (j : Int) ∧ (j : Int) < at' + i) && pat.testBit ((j : Int) - at').toNat) := by
  simp [turns, h]

/-- Bits with a burst's first i bits. -/
def burstTo (l : List Bool) (at' : Int) (pat i : Nat) : List Bool := xorl l (turns l.length at' pat i)

@[simp] theorem burstTo_length (l : List Bool) (at' : Int) (pat i : Nat) : (burstTo l at' pat i).length = l.length := by simp [burstTo, xorl]
theorem burstTo_get (l : List Bool) (at' : Int) (pat i j : Nat) (h : j < l.length) : (burstTo l at' pat i)[j]? = some (l[j] != (decide (at' ≤ (j : Int) ∧ (j : Int) < at' + i) && pat.testBit ((j : Int) - at').toNat)) := by
  unfold burstTo xorl
  rw [List.getElem?_zipWith, List.getElem?_eq_getElem h, turns_get _ _ _ _ _ h]
theorem burstTo_zero (l : List Bool) (at' : Int) (pat : Nat) : burstTo l at' pat 0 = l := by
  apply List.ext_getElem?
  intro j
  by_cases h : j < l.length
  · rw [burstTo_get _ _ _ _ _ h, List.getElem?_eq_getElem h]
    have : decide (at' ≤ (j : Int) ∧ (j : Int) < at' + (0 : Nat)) = false := by simp
    rw [this]; simp
  · rw [List.getElem?_eq_none (by simp; omega), List.getElem?_eq_none (by omega)]
theorem burstTo_out (l : List Bool) (at' : Int) (pat i : Nat) (h : at' + i < 0 ∨ (l.length : Int) ≤ at' + i) : burstTo l at' pat (i + 1) = burstTo l at' pat i := by
  apply List.ext_getElem?
  intro j
  by_cases hj : j < l.length
  · rw [burstTo_get _ _ _ _ _ hj, burstTo_get _ _ _ _ _ hj]
    have : decide (at' ≤ (j : Int) ∧ (j : Int) < at' + (i + 1 : Nat)) = decide (at' ≤ (j : Int) ∧ (j : Int) < at' + i) := by
      rw [decide_eq_decide]; omega
    rw [this]
  · rw [List.getElem?_eq_none (by simp; omega), List.getElem?_eq_none (by simp; omega)]
theorem burstTo_in (l : List Bool) (at' : Int) (pat i p : Nat) (hp : (p : Int) = at' + i) (h : p < l.length) : (burstTo l at' pat i)[p]? = some l[p] ∧ burstTo l at' pat (i + 1) = (burstTo l at' pat i).set p (l[p] != pat.testBit i) := by
  constructor
  · rw [burstTo_get _ _ _ _ _ h]
    have : decide (at' ≤ (p : Int) ∧ (p : Int) < at' + i) = false := by simp; omega
    rw [this]; simp
  · apply List.ext_getElem?
    intro j
    by_cases hj : j < l.length
    · rw [burstTo_get _ _ _ _ _ hj, List.getElem?_set]
      by_cases hpj : p = j
      · subst hpj
        have h1 : decide (at' ≤ (p : Int) ∧ (p : Int) < at' + (i + 1 : Nat)) = true := by simp; omega
        have h2 : ((p : Int) - at').toNat = i := by omega
        rw [h1, h2]
        simp [h]
      · rw [if_neg hpj, burstTo_get _ _ _ _ _ hj]
        have : decide (at' ≤ (j : Int) ∧ (j : Int) < at' + (i + 1 : Nat)) = decide (at' ≤ (j : Int) ∧ (j : Int) < at' + i) := by
          rw [decide_eq_decide]; omega
        rw [this]
    · rw [List.getElem?_eq_none (by simp; omega), List.getElem?_eq_none (by simp; omega)]

theorem pack_unpack (bs : List Nat) (h : ∀ x ∈ bs, x < 256) : pack (unpack bs) = bs := by
  apply List.ext_getElem?
  intro i
  by_cases hi : i < bs.length
  · rw [pack_get _ _ (by simp; omega), List.getElem?_eq_getElem hi]
    have h1 := unpack_part bs (8 * i) 8 (by omega) (by omega)
    rw [h1, num_bitsOf]
    have h2 : 8 * i / 8 = i := by omega
    have h3 : 8 * i % 8 = 0 := by omega
    simp only [h2, h3, Nat.pow_zero, Nat.div_one]
    have := h bs[i] (List.getElem_mem hi)
    rw [Nat.mod_eq_of_lt (by omega)]
  · rw [List.getElem?_eq_none (by simp; omega), List.getElem?_eq_none (by omega)]

theorem bit_eq (x k : Nat) : (x / 2 ^ k % 2 == 1) = x.testBit k := by
  rw [Nat.testBit_eq_decide_div_mod_eq]
  rw [Bool.eq_iff_iff]; simp

theorem xor_bit (x q k : Nat) (b : Bool) : (x ^^^ (b.toNat * 2 ^ q)).testBit k = (x.testBit k != (decide (k = q) && b)) := by
  rw [Nat.testBit_xor]
  cases b with
  | false => simp
  | true =>
    rw [Bool.toNat_true, Nat.one_mul, Nat.testBit_two_pow]
    by_cases h : q = k
    · subst h; simp
    · have : ¬ k = q := fun e => h e.symm
      simp [h, this]

theorem unpack_turn (bs : List Nat) (p : Nat) (b : Bool) (h : p / 8 < bs.length) : unpack (bs.set (p / 8) (bs[p / 8] ^^^ (b.toNat * 2 ^ (p % 8)))) = (unpack bs).set p (((unpack bs)[p]?.getD false) != b) := by
  apply List.ext_getElem?
  intro j
  by_cases hj : j / 8 < bs.length
  · rw [unpack_get _ _ (by simpa using hj), bit_eq, List.getElem_set, List.getElem?_set]
    by_cases hpj : p = j
    · subst hpj
      rw [if_pos rfl, if_pos rfl, if_pos (by simp; omega), xor_bit, unpack_get _ _ h, bit_eq]
      simp
    · rw [if_neg hpj, unpack_get _ _ hj, bit_eq]
      split
      · rename_i h8
        rw [xor_bit]
        have : ¬ j % 8 = p % 8 := by omega
        simp [this, h8]
      · rfl
  · rw [List.getElem?_eq_none (by simp; omega), List.getElem?_eq_none (by simp; omega)]

/-- Bytes with a burst. -/
def burst (bs : List Nat) (at' : Int) (pat : Nat) : List Nat := pack (burstTo (unpack bs) at' pat 32)

theorem burst_length (bs : List Nat) (at' : Int) (pat : Nat) : (burst bs at' pat).length = bs.length := by simp [burst]; omega
theorem burst_lt (bs : List Nat) (at' : Int) (pat : Nat) : ∀ x ∈ burst bs at' pat, x < 256 := pack_lt _

theorem unpack_burst (bs : List Nat) (at' : Int) (pat : Nat) : unpack (burst bs at' pat) = burstTo (unpack bs) at' pat 32 := by
  have h := unpack_pack_take (burstTo (unpack bs) at' pat 32)
  rw [List.take_of_length_le (by simp; omega)] at h
  exact h

theorem num_unpack (bs : List Nat) (h : ∀ x ∈ bs, x < 256) : num (unpack bs) = len_ bs := by
  induction bs with
  | nil => rfl
  | cons x bs ih =>
    have e : unpack (x :: bs) = bitsOf x 8 ++ unpack bs := rfl
    have e2 : len_ (x :: bs) = x + 256 * len_ bs := rfl
    rw [e, num_append, ih (fun y hy => h y (by simp [hy])), num_bitsOf, bitsOf_length, Nat.mod_eq_of_lt (by have := h x (by simp); omega), e2]

/-- Sealed bytes leave one register, whatever they are. -/
theorem sealed_iff (body t : List Nat) (h1 : ∀ x ∈ body, x < 256) (h2 : ∀ x ∈ t, x < 256) (ht : t.length = 4) : len_ t = crc body ↔ feed 4294967295 (unpack (body ++ t)) = sts 32 4294967295 := by
  have hu : unpack (body ++ t) = unpack body ++ unpack t := by simp [unpack]
  have hr := reg_lt 4294967295 body (by omega) h1
  rw [hu, feed_append, ← reg_feed _ _ h1, feed_num, unpack_length, ht, num_unpack t h2]
  have hlt : len_ t < 4294967296 := by
    rw [← num_unpack t h2]
    have := num_lt (unpack t)
    rw [unpack_length, ht] at this
    exact this
  have hx : reg 4294967295 body ^^^ len_ t < 4294967296 := Nat.xor_lt_two_pow (n := 32) (by omega) (by omega)
  have hcrc : crc body = reg 4294967295 body ^^^ 4294967295 := by unfold crc; exact flip32_xor _ hr
  generalize reg 4294967295 body = c at *
  constructor
  · intro h
    rw [h, hcrc, ← Nat.xor_assoc, Nat.xor_self, Nat.zero_xor]
  · intro h
    have h0 : sts 32 ((c ^^^ len_ t) ^^^ 4294967295) = 0 := by rw [sts_xor, h, Nat.xor_self]
    have h3 : (c ^^^ len_ t) ^^^ 4294967295 = 0 := by
      apply Classical.byContradiction
      intro hne
      exact sts_ne 32 _ (Nat.xor_lt_two_pow (n := 32) (by omega) (by omega)) hne h0
    have h4 : c ^^^ len_ t = 4294967295 := by
      have := congrArg (· ^^^ 4294967295) h3
      simp only [Nat.xor_assoc, Nat.xor_self, Nat.xor_zero, Nat.zero_xor] at this
      simpa using this
    rw [hcrc, ← h4, ← Nat.xor_assoc, Nat.xor_self, Nat.zero_xor]

theorem burst_seen (s : List Nat) (at' : Int) (pat : Nat) (hs : ∀ x ∈ s, x < 256) (h : burst s at' pat ≠ s) (r : Nat) : feed r (unpack (burst s at' pat)) ≠ feed r (unpack s) := by
  rw [unpack_burst]
  have e : feed r (burstTo (unpack s) at' pat 32) = feed r (unpack s) ^^^ feed 0 (turns (unpack s).length at' pat 32) := by
    have := feed_xor r 0 (unpack s) (turns (unpack s).length at' pat 32) (by simp)
    rw [Nat.xor_zero] at this
    exact this
  rw [e]
  have hne : feed 0 (turns (unpack s).length at' pat 32) ≠ 0 := by
    refine feed_window _ at'.toNat ?_ ?_
    · intro j hj
      have hl : j < (unpack s).length := by
        have := (List.getElem?_eq_some_iff.1 hj).1
        simpa using this
      rw [turns_get _ _ _ _ _ hl] at hj
      have h1 := Option.some.inj hj
      simp at h1
      omega
    · apply Classical.byContradiction
      intro hno
      apply h
      have hz : burstTo (unpack s) at' pat 32 = unpack s := by
        apply List.ext_getElem?
        intro j
        by_cases hj : j < (unpack s).length
        · rw [burstTo_get _ _ _ _ _ hj, List.getElem?_eq_getElem hj]
          have h1 : (decide (at' ≤ (j : Int) ∧ (j : Int) < at' + (32 : Nat)) && pat.testBit ((j : Int) - at').toNat) = false := by
            cases hb : (decide (at' ≤ (j : Int) ∧ (j : Int) < at' + (32 : Nat)) && pat.testBit ((j : Int) - at').toNat) with
            | false => rfl
            | true =>
              exfalso
              apply hno
              apply List.mem_of_getElem? (i := j)
              rw [turns_get _ _ _ _ _ hj, hb]
          rw [h1]; simp
        · rw [List.getElem?_eq_none (by simp at hj ⊢; omega), List.getElem?_eq_none (by omega)]
      unfold burst
      rw [hz, pack_unpack s hs]
  intro h2
  apply hne
  have h3 := congrArg (fun z => feed r (unpack s) ^^^ z) h2
  simp only [← Nat.xor_assoc, Nat.xor_self, Nat.zero_xor] at h3
  exact h3
end Go.Proofs.Ytdpdfnekokmgoaa
