/-
  The library's stable sort, as a function: swaps of ranges, rotations, merges in place; it sorts. Conditions: none. Nothing of the program stands here. The library's stable sort, as a function: it sorts. Conditions: none. Nothing of the program stands here. The library's stable sort, as a function: blocks of twenty, merged. Conditions: none. Nothing of the program stands here.
  Contracts of the library's stable sort at rows of signs: ranges swapped, rotations. Conditions: fewer than a million signs. Contracts of the library's stable sort at rows of signs: the merge in place. Conditions: fewer than a million signs.
-/
import Derived.Sort.LotA
import Derived.Sort.Lot0
import Derived.Test.YtkjhefjjacokjaaGreatQK3
import Derived.Deep.LoopGhost
import Derived.Shelf.SlSortCmp.QuietGrown
namespace Go.Proofs.YtkjhefjjacokjaaGreat
open Go.Sort
variable {α : Type} [Inhabited α]
def swapR (d : Array α) (a b : Nat) : Nat → Array α
  | 0 => d
  | n + 1 => swp (swapR d a b n) (a + n) (b + n)
theorem swapR_size (d : Array α) (a b : Nat) : ∀ n, (swapR d a b n).size = d.size
  | 0 => rfl
  | n + 1 => by rw [swapR, size_swp, swapR_size d a b n]
theorem swapR_get (d : Array α) (a b : Nat) : ∀ n, a + n ≤ b → b + n ≤ d.size → ∀ k, (swapR d a b n)[k]! = if a ≤ k ∧ k < a + n then d[k - a + b]! else if b ≤ k ∧ k < b + n then d[k - b + a]! else d[k]!
  | 0, _, _, k => by rw [swapR, if_neg (by omega), if_neg (by omega)]
  | n + 1, h1, h2, k => by
    have hs := swapR_size d a b n
    have ih := swapR_get d a b n (by omega) (by omega)
    rw [swapR]
    by_cases e1 : k = a + n
    · subst e1
      rw [swp_left _ _ _ (by omega) (by omega), ih, if_neg (by omega), if_neg (by omega), if_pos (by omega)]
      congr 1; omega
    · by_cases e2 : k = b + n
      · subst e2
        rw [swp_right _ _ _ (by omega), ih, if_neg (by omega), if_neg (by omega), if_neg (by omega), if_pos (by omega)]
        congr 1; omega
      · rw [swp_other _ _ _ _ e1 e2, ih]
        by_cases c1 : a ≤ k ∧ k < a + n
        · rw [if_pos c1, if_pos (by omega)]
        · rw [if_neg c1, if_neg (show ¬ (a ≤ k ∧ k < a + (n + 1)) by omega)]
          by_cases c2 : b ≤ k ∧ k < b + n
          · rw [if_pos c2, if_pos (by omega)]
          · rw [if_neg c2, if_neg (by omega)]
theorem swapR_perm (d : Array α) (a b lo hi : Nat) (h0 : lo ≤ a) (hhi : hi ≤ d.size) : ∀ n, a + n ≤ b → b + n ≤ hi → PermIn lo hi d (swapR d a b n)
  | 0, _, _ => permIn_refl d lo hi
  | n + 1, h1, h2 => by
    have ih := swapR_perm d a b lo hi h0 hhi n (by omega) (by omega)
    exact permIn_trans _ _ _ _ _ ih (swp_permIn _ lo hi (a + n) (b + n) (by omega) (by omega) (by omega) (by omega) (by rw [swapR_size]; exact hhi))
/-- The rotation's loop. -/
def rotL (m : Nat) : Nat → Array α → Nat → Nat → Array α
  | 0, d, i, _ => swapR d (m - i) m i
  | f + 1, d, i, j => if i = j then swapR d (m - i) m i else if j < i then rotL m f (swapR d (m - i) m j) (i - j) j else rotL m f (swapR d (m - i) (m + j - i) i) i (j - i)
theorem rotL_size (m : Nat) : ∀ f (d : Array α) i j, (rotL m f d i j).size = d.size
  | 0, d, i, j => swapR_size _ _ _ _
  | f + 1, d, i, j => by
    rw [rotL]
    split
    · exact swapR_size _ _ _ _
    · split
      · rw [rotL_size m f, swapR_size]
      · rw [rotL_size m f, swapR_size]
theorem rotL_get (m : Nat) : ∀ f (d : Array α) i j, 0 < i → 0 < j → i ≤ m → m + j ≤ d.size → i + j ≤ f → ∀ k, (rotL m f d i j)[k]! = if m - i ≤ k ∧ k < m - i + j then d[k + i]! else if m - i + j ≤ k ∧ k < m + j then d[k - j]! else d[k]!
  | 0, d, i, j, h1, h2, _, _, h5, k => by omega
  | f + 1, d, i, j, h1, h2, h3, h4, h5, k => by
    rw [rotL]
    by_cases e : i = j
    · subst e
      rw [if_pos rfl, swapR_get d _ _ i (by omega) (by omega)]
      by_cases c1 : m - i ≤ k ∧ k < m - i + i
      · rw [if_pos c1, if_pos c1]; congr 1; omega
      · rw [if_neg c1, if_neg c1]
        by_cases c2 : m ≤ k ∧ k < m + i
        · rw [if_pos c2, if_pos (by omega)]; congr 1; omega
        · rw [if_neg c2, if_neg (by omega)]
    · rw [if_neg e]
      by_cases e2 : j < i
      · rw [if_pos e2, rotL_get m f _ (i - j) j (by omega) h2 (by omega) (by rw [swapR_size]; exact h4) (by omega)]
        have g := swapR_get d (m - i) m j (by omega) (by omega)
        by_cases c1 : m - (i - j) ≤ k ∧ k < m - (i - j) + j
        · rw [if_pos c1, g, if_neg (show ¬ (m - i ≤ k ∧ k < m - i + j) by omega), if_pos (show m - i + j ≤ k ∧ k < m + j by omega)]
          by_cases c2 : m ≤ k + (i - j) ∧ k + (i - j) < m + j
          · rw [if_neg (by omega), if_pos c2]; congr 1; omega
          · omega
        · rw [if_neg c1]
          by_cases c2 : m - (i - j) + j ≤ k ∧ k < m + j
          · rw [if_pos c2, g, if_neg (show ¬ (m - i ≤ k ∧ k < m - i + j) by omega), if_pos (show m - i + j ≤ k ∧ k < m + j by omega), if_neg (by omega), if_neg (by omega)]
          · rw [if_neg c2, g]
            by_cases c3 : m - i ≤ k ∧ k < m - i + j
            · rw [if_pos c3, if_pos c3]; congr 1; omega
            · rw [if_neg c3, if_neg (by omega), if_neg c3, if_neg (by omega)]
      · rw [if_neg e2, rotL_get m f _ i (j - i) h1 (by omega) h3 (by rw [swapR_size]; omega) (by omega)]
        have g := swapR_get d (m - i) (m + j - i) i (by omega) (by omega)
        by_cases c1 : m - i ≤ k ∧ k < m - i + (j - i)
        · rw [if_pos c1, g, if_pos (show m - i ≤ k ∧ k < m - i + j by omega), if_neg (by omega), if_neg (by omega)]
        · rw [if_neg c1]
          by_cases c2 : m - i + (j - i) ≤ k ∧ k < m + (j - i)
          · rw [if_pos c2, g, if_pos (show m - i ≤ k ∧ k < m - i + j by omega), if_pos (by omega)]; congr 1; omega
          · rw [if_neg c2, g, if_neg (show ¬ (m - i ≤ k ∧ k < m - i + i) by omega)]
            by_cases c3 : m + j - i ≤ k ∧ k < m + j - i + i
            · rw [if_pos c3, if_neg (show ¬ (m - i ≤ k ∧ k < m - i + j) by omega), if_pos (by omega)]; congr 1; omega
            · rw [if_neg c3, if_neg (by omega), if_neg (by omega)]
theorem rotL_perm (m lo hi : Nat) : ∀ f (d : Array α) i j, 0 < i → 0 < j → i ≤ m → lo ≤ m - i → m + j ≤ hi → hi ≤ d.size → i + j ≤ f → PermIn lo hi d (rotL m f d i j)
  | 0, d, i, j, h1, h2, _, _, _, _, h5 => by omega
  | f + 1, d, i, j, h1, h2, h3, h4, h5, h6, h7 => by
    rw [rotL]
    by_cases e : i = j
    · subst e
      rw [if_pos rfl]
      exact swapR_perm d _ _ lo hi h4 h6 i (by omega) (by omega)
    · rw [if_neg e]
      by_cases e2 : j < i
      · rw [if_pos e2]
        exact permIn_trans _ _ _ _ _ (swapR_perm d _ _ lo hi h4 h6 j (by omega) (by omega)) (rotL_perm m lo hi f _ (i - j) j (by omega) h2 (by omega) (by omega) h5 (by rw [swapR_size]; exact h6) (by omega))
      · rw [if_neg e2]
        exact permIn_trans _ _ _ _ _ (swapR_perm d _ _ lo hi h4 h6 i (by omega) (by omega)) (rotL_perm m lo hi f _ i (j - i) h1 (by omega) h3 h4 (by omega) (by rw [swapR_size]; exact h6) (by omega))
/-- A search by halves. -/
def bs (p : Nat → Bool) : Nat → Nat → Nat → Nat
  | 0, i, _ => i
  | f + 1, i, j => if i < j then (if p ((i + j) / 2) then bs p f ((i + j) / 2 + 1) j else bs p f i ((i + j) / 2)) else i
theorem bs_spec (p : Nat → Bool) : ∀ f i j, i ≤ j → j - i ≤ f → i ≤ bs p f i j ∧ bs p f i j ≤ j ∧ (bs p f i j = i ∨ p (bs p f i j - 1) = true) ∧ (bs p f i j = j ∨ p (bs p f i j) = false)
  | 0, i, j, h1, h2 => ⟨Nat.le_refl _, h1, .inl rfl, .inl (show i = j by omega)⟩
  | f + 1, i, j, h1, h2 => by
    rw [bs]
    by_cases h : i < j
    · rw [if_pos h]
      cases hp : p ((i + j) / 2) with
      | true =>
        rw [if_pos rfl]
        obtain ⟨a, b, c, d⟩ := bs_spec p f ((i + j) / 2 + 1) j (by omega) (by omega)
        refine ⟨by omega, b, .inr ?_, d⟩
        rcases c with c | c
        · rw [c]; simpa using hp
        · exact c
      | false =>
        rw [if_neg (by simp)]
        obtain ⟨a, b, c, d⟩ := bs_spec p f i ((i + j) / 2) (by omega) (by omega)
        refine ⟨a, by omega, c, .inr ?_⟩
        rcases d with d | d
        · rw [d]; exact hp
        · exact d
    · rw [if_neg h]; exact ⟨Nat.le_refl _, h1, .inl rfl, .inl (by omega)⟩
/-- One element moved to the right, to the left. -/
def shr (d : Array α) (a : Nat) : Nat → Array α
  | 0 => d
  | n + 1 => swp (shr d a n) (a + n) (a + n + 1)
def shl (d : Array α) (m : Nat) : Nat → Array α
  | 0 => d
  | n + 1 => swp (shl d m n) (m - n) (m - n - 1)
theorem shr_size (d : Array α) (a : Nat) : ∀ n, (shr d a n).size = d.size
  | 0 => rfl
  | n + 1 => by rw [shr, size_swp, shr_size d a n]
theorem shl_size (d : Array α) (m : Nat) : ∀ n, (shl d m n).size = d.size
  | 0 => rfl
  | n + 1 => by rw [shl, size_swp, shl_size d m n]
theorem shr_get (d : Array α) (a : Nat) : ∀ n, a + n < d.size → ∀ k, (shr d a n)[k]! = if a ≤ k ∧ k < a + n then d[k + 1]! else if k = a + n then d[a]! else d[k]!
  | 0, _, k => by
    rw [shr, if_neg (by omega)]
    split
    · next h => rw [h]; rfl
    · rfl
  | n + 1, h, k => by
    have ih := shr_get d a n (by omega)
    have hs := shr_size d a n
    rw [shr]
    by_cases e1 : k = a + n
    · subst e1
      rw [swp_left _ _ _ (by omega) (by omega), ih, if_neg (by omega), if_neg (by omega), if_pos (by omega)]
    · by_cases e2 : k = a + n + 1
      · subst e2
        rw [swp_right _ _ _ (by omega), ih, if_neg (by omega), if_pos rfl, if_neg (by omega), if_pos (by omega)]
      · rw [swp_other _ _ _ _ e1 e2, ih]
        by_cases c1 : a ≤ k ∧ k < a + n
        · rw [if_pos c1, if_pos (by omega)]
        · rw [if_neg c1, if_neg e1, if_neg (by omega), if_neg (by omega)]
theorem shl_get (d : Array α) (m : Nat) : ∀ n, n ≤ m → m < d.size → ∀ k, (shl d m n)[k]! = if m - n < k ∧ k ≤ m then d[k - 1]! else if k = m - n then d[m]! else d[k]!
  | 0, _, _, k => by
    rw [shl, if_neg (by omega)]
    split
    · next h => rw [h]; rfl
    · rfl
  | n + 1, h, hm, k => by
    have ih := shl_get d m n (by omega) hm
    have hs := shl_size d m n
    rw [shl]
    by_cases e1 : k = m - n
    · subst e1
      rw [swp_left _ _ _ (by omega) (by omega), ih, if_neg (by omega), if_neg (by omega), if_pos (by omega)]
    · by_cases e2 : k = m - n - 1
      · subst e2
        rw [swp_right _ _ _ (by omega), ih, if_neg (by omega), if_pos rfl, if_neg (by omega), if_pos (by omega)]
      · rw [swp_other _ _ _ _ e1 e2, ih]
        by_cases c1 : m - n < k ∧ k ≤ m
        · rw [if_pos c1, if_pos (by omega)]
        · rw [if_neg c1, if_neg e1, if_neg (by omega), if_neg (by omega)]
theorem shr_perm (d : Array α) (a lo hi : Nat) (h0 : lo ≤ a) (hhi : hi ≤ d.size) : ∀ n, a + n < hi → PermIn lo hi d (shr d a n)
  | 0, _ => permIn_refl d lo hi
  | n + 1, h => permIn_trans _ _ _ _ _ (shr_perm d a lo hi h0 hhi n (by omega)) (swp_permIn _ lo hi (a + n) (a + n + 1) (by omega) (by omega) (by omega) (by omega) (by rw [shr_size]; exact hhi))
theorem shl_perm (d : Array α) (m lo hi : Nat) (hm : m < hi) (hhi : hi ≤ d.size) : ∀ n, n ≤ m → lo ≤ m - n → PermIn lo hi d (shl d m n)
  | 0, _, _ => permIn_refl d lo hi
  | n + 1, h, h2 => permIn_trans _ _ _ _ _ (shl_perm d m lo hi hm hhi n (by omega) (by omega)) (swp_permIn _ lo hi (m - n) (m - n - 1) (by omega) (by omega) (by omega) (by omega) (by rw [shl_size]; exact hhi))
section
variable (lt : α → α → Bool)
def sStart (d : Array α) (a m b : Nat) : Nat :=
  bs (fun c => !lt d[(a + b) / 2 + m - 1 - c]! d[c]!) (b - a) (if (a + b) / 2 < m then (a + b) / 2 + m - b else a) (if (a + b) / 2 < m then (a + b) / 2 else m)
def sTurn (d : Array α) (start m e : Nat) : Array α := if start < m ∧ m < e then rotL m (e - start) d (m - start) (e - m) else d
/-- The merge in place. -/
def symM : Nat → Array α → Nat → Nat → Nat → Array α
  | 0, d, _, _, _ => d
  | f + 1, d, a, m, b =>
    if m - a = 1 then shr d a (bs (fun h => lt d[h]! d[a]!) (b - m) m b - 1 - a)
    else if b - m = 1 then shl d m (m - bs (fun h => !lt d[m]! d[h]!) (m - a) a m)
    else
      let start := sStart lt d a m b
      let mid := (a + b) / 2
      let e := mid + m - start
      let d1 := sTurn d start m e
      let d2 := if a < start ∧ start < mid then symM f d1 a start mid else d1
      if mid < e ∧ e < b then symM f d2 mid e b else d2

variable {lt}
theorem sorted_of (hO : SWO lt) {d : Array α} {a b : Nat} (h : SortedIn lt a b d) {i j : Nat} (h1 : a ≤ i) (h2 : i ≤ j) (h3 : j < b) : lt d[j]! d[i]! = false := by
  rcases Nat.lt_or_ge i j with h4 | h4
  · exact h i j h1 h4 h3
  · obtain rfl : i = j := by omega
    exact hO.irrefl _
omit [Inhabited α] in
theorem nle_of_lt (hO : SWO lt) {x y : α} (h : lt x y = true) : lt y x = false := by
  cases h2 : lt y x with
  | false => rfl
  | true => have := hO.trans _ _ _ h h2; rw [hO.irrefl] at this; cases this
theorem permIn_get {d d' : Array α} {a b k : Nat} (h : PermIn a b d d') (hb : b ≤ d.size) (h1 : a ≤ k) (h2 : k < b) : ∃ j, a ≤ j ∧ j < b ∧ d'[k]! = d[j]! := by
  have h3 := h.2.2
  rw [extract_toList d' a b (by rw [h.1]; exact hb), extract_toList d a b hb] at h3
  have hm : d'[k]! ∈ (List.range' a (b - a)).map (fun i => d'[i]!) := List.mem_map.2 ⟨k, List.mem_range'_1.2 ⟨h1, by omega⟩, rfl⟩
  have := h3.mem_iff.1 hm
  obtain ⟨j, hj, e⟩ := List.mem_map.1 this
  have := List.mem_range'_1.1 hj
  exact ⟨j, by omega, by omega, e.symm⟩
/-- Two sorted parts, each of the one at most each of the other. -/
theorem sorted_join {d : Array α} {a m b : Nat} (h1 : SortedIn lt a m d) (h2 : SortedIn lt m b d) (h : ∀ i j, a ≤ i → i < m → m ≤ j → j < b → lt d[j]! d[i]! = false) : SortedIn lt a b d := by
  intro i j hi hij hj
  rcases Nat.lt_or_ge j m with c | c
  · exact h1 i j hi hij c
  · rcases Nat.lt_or_ge i m with c2 | c2
    · exact h i j hi c2 c hj
    · exact h2 i j c2 hij hj

theorem sStart_spec (d : Array α) (a m b : Nat) (h1 : a + 2 ≤ m) (h2 : m + 2 ≤ b) (start mid : Nat) (hs : sStart lt d a m b = start) (hm : (a + b) / 2 = mid) :
    a ≤ start ∧ start ≤ m ∧ start ≤ mid ∧ mid + m - start ≤ b ∧ m ≤ mid + m - start ∧ (start = a ∨ mid + m - start = b ∨ lt d[mid + m - start]! d[start - 1]! = false) ∧ (start = m ∨ mid + m - start = m ∨ lt d[mid + m - start - 1]! d[start]! = true) := by
  subst hm
  unfold sStart at hs
  by_cases c : (a + b) / 2 < m
  · rw [if_pos c, if_pos c] at hs
    obtain ⟨p1, p2, p3, p4⟩ := bs_spec (fun c => !lt d[(a + b) / 2 + m - 1 - c]! d[c]!) (b - a) ((a + b) / 2 + m - b) ((a + b) / 2) (by omega) (by omega)
    rw [hs] at p1 p2 p3 p4
    refine ⟨by omega, by omega, by omega, by omega, by omega, ?_, ?_⟩
    · rcases p3 with p3 | p3
      · exact .inr (.inl (by omega))
      · rcases Nat.lt_or_ge a start with c2 | c2
        · refine .inr (.inr ?_)
          rw [show (a + b) / 2 + m - 1 - (start - 1) = (a + b) / 2 + m - start by omega] at p3
          simpa using p3
        · exact .inl (by omega)
    · rcases p4 with p4 | p4
      · exact .inr (.inl (by omega))
      · refine .inr (.inr ?_)
        rw [show (a + b) / 2 + m - 1 - start = (a + b) / 2 + m - start - 1 by omega] at p4
        simpa using p4
  · rw [if_neg c, if_neg c] at hs
    obtain ⟨p1, p2, p3, p4⟩ := bs_spec (fun c => !lt d[(a + b) / 2 + m - 1 - c]! d[c]!) (b - a) a m (by omega) (by omega)
    rw [hs] at p1 p2 p3 p4
    refine ⟨by omega, by omega, by omega, by omega, by omega, ?_, ?_⟩
    · rcases p3 with p3 | p3
      · exact .inl p3
      · rcases Nat.lt_or_ge a start with c2 | c2
        · refine .inr (.inr ?_)
          rw [show (a + b) / 2 + m - 1 - (start - 1) = (a + b) / 2 + m - start by omega] at p3
          simpa using p3
        · exact .inl (by omega)
    · rcases p4 with p4 | p4
      · exact .inl p4
      · refine .inr (.inr ?_)
        rw [show (a + b) / 2 + m - 1 - start = (a + b) / 2 + m - start - 1 by omega] at p4
        simpa using p4
theorem sTurn_get (d : Array α) (start m e : Nat) (h1 : start ≤ m) (h2 : m ≤ e) (h3 : e ≤ d.size) (k : Nat) : (sTurn d start m e)[k]! = if start ≤ k ∧ k < start + (e - m) then d[k + (m - start)]! else if start + (e - m) ≤ k ∧ k < e then d[k - (e - m)]! else d[k]! := by
  unfold sTurn
  by_cases c : start < m ∧ m < e
  · rw [if_pos c, rotL_get m _ d _ _ (by omega) (by omega) (by omega) (by omega) (by omega), show m - (m - start) = start by omega, show m + (e - m) = e by omega]
  · rw [if_neg c]
    by_cases c1 : start ≤ k ∧ k < start + (e - m)
    · rw [if_pos c1]; congr 1; omega
    · rw [if_neg c1]
      by_cases c2 : start + (e - m) ≤ k ∧ k < e
      · rw [if_pos c2]; congr 1; omega
      · rw [if_neg c2]
theorem sTurn_perm (d : Array α) (start m e lo hi : Nat) (h0 : lo ≤ start) (h3 : e ≤ hi) (h4 : hi ≤ d.size) : PermIn lo hi d (sTurn d start m e) := by
  unfold sTurn
  by_cases c : start < m ∧ m < e
  · rw [if_pos c]
    exact rotL_perm m lo hi _ d _ _ (by omega) (by omega) (by omega) (by omega) (by omega) h4 (by omega)
  · rw [if_neg c]; exact permIn_refl d lo hi
end
end Go.Proofs.YtkjhefjjacokjaaGreat

namespace Go.Proofs.YtkjhefjjacokjaaGreat
open Go.Sort
variable {α : Type} [Inhabited α] {lt : α → α → Bool}
theorem symM_holds (hO : SWO lt) : ∀ f (d : Array α) a m b, a < m → m < b → b ≤ d.size → b - a ≤ f → SortedIn lt a m d → SortedIn lt m b d → PermIn a b d (symM lt f d a m b) ∧ SortedIn lt a b (symM lt f d a m b)
  | 0, d, a, m, b, h1, h2, _, h4, _, _ => by omega
  | f + 1, d, a, m, b, h1, h2, h3, h4, s1, s2 => by
    rw [symM]
    by_cases c1 : m - a = 1
    · rw [if_pos c1]
      obtain ⟨p1, p2, p3, p4⟩ := bs_spec (fun h => lt d[h]! d[a]!) (b - m) m b (by omega) (by omega)
      generalize bs (fun h => lt d[h]! d[a]!) (b - m) m b = i at p1 p2 p3 p4 ⊢
      refine ⟨shr_perm d a a b (Nat.le_refl _) h3 _ (by omega), ?_⟩
      intro x y hx hxy hy
      rw [shr_get d a _ (by omega), shr_get d a _ (by omega)]
      -- y at, ahead of or behind the place
      have low : ∀ z, m ≤ z → z < i → lt d[z]! d[a]! = true ∨ lt d[a]! d[z]! = false := by
        intro z hz1 hz2
        rcases p3 with p3 | p3
        · omega
        · right
          have h5 := sorted_of hO s2 hz1 (show z ≤ i - 1 by omega) (by omega)
          cases h6 : lt d[a]! d[z]! with
          | false => rfl
          | true =>
            -- d[i-1] < d[a] < d[z] and d[z] ≤ d[i-1]
            have h7 := hO.trans _ _ _ p3 h6
            rw [h5] at h7; cases h7
      have high : ∀ z, i ≤ z → z < b → lt d[z]! d[a]! = false := by
        intro z hz1 hz2
        rcases p4 with p4 | p4
        · omega
        · have h5 := sorted_of hO s2 p1 hz1 hz2
          exact hO.ntrans _ _ _ h5 p4
      by_cases cy1 : a ≤ y ∧ y < a + (i - 1 - a)
      · rw [if_pos cy1, if_pos (by omega)]
        exact sorted_of hO s2 (by omega) (by omega) (by omega)
      · rw [if_neg cy1]
        by_cases cy2 : y = a + (i - 1 - a)
        · rw [if_pos cy2, if_pos (by omega)]
          rcases low (x + 1) (by omega) (by omega) with h5 | h5
          · exact nle_of_lt hO h5
          · exact h5
        · rw [if_neg cy2]
          by_cases cx1 : a ≤ x ∧ x < a + (i - 1 - a)
          · rw [if_pos cx1]
            exact sorted_of hO s2 (by omega) (by omega) hy
          · rw [if_neg cx1]
            by_cases cx2 : x = a + (i - 1 - a)
            · rw [if_pos cx2]
              exact high y (by omega) hy
            · rw [if_neg cx2]
              exact sorted_of hO s2 (by omega) (by omega) hy
    · rw [if_neg c1]
      by_cases c2 : b - m = 1
      · rw [if_pos c2]
        obtain ⟨p1, p2, p3, p4⟩ := bs_spec (fun h => !lt d[m]! d[h]!) (m - a) a m (by omega) (by omega)
        generalize bs (fun h => !lt d[m]! d[h]!) (m - a) a m = i at p1 p2 p3 p4 ⊢
        refine ⟨shl_perm d m a b h2 h3 _ (by omega) (by omega), ?_⟩
        have low : ∀ z, a ≤ z → z < i → lt d[m]! d[z]! = false := by
          intro z hz1 hz2
          rcases p3 with p3 | p3
          · omega
          · have h5 := sorted_of hO s1 hz1 (show z ≤ i - 1 by omega) (by omega)
            exact hO.ntrans _ _ _ (by simpa using p3) h5
        have high : ∀ z, i ≤ z → z < m → lt d[z]! d[m]! = false := by
          intro z hz1 hz2
          rcases p4 with p4 | p4
          · omega
          · have h5 := sorted_of hO s1 p1 hz1 hz2
            have h6 : lt d[m]! d[i]! = true := by simpa using p4
            cases h7 : lt d[z]! d[m]! with
            | false => rfl
            | true => have := hO.trans _ _ _ h7 h6; rw [h5] at this; cases this
        intro x y hx hxy hy
        rw [shl_get d m _ (by omega) (by omega), shl_get d m _ (by omega) (by omega)]
        rw [show m - (m - i) = i by omega]
        by_cases cy1 : i < y ∧ y ≤ m
        · rw [if_pos cy1]
          by_cases cx1 : i < x ∧ x ≤ m
          · rw [if_pos cx1]; exact sorted_of hO s1 (by omega) (by omega) (by omega)
          · rw [if_neg cx1]
            by_cases cx2 : x = i
            · rw [if_pos cx2]; exact high (y - 1) (by omega) (by omega)
            · rw [if_neg cx2]; exact sorted_of hO s1 (by omega) (by omega) (by omega)
        · rw [if_neg cy1]
          by_cases cy2 : y = i
          · rw [if_pos cy2, if_neg (by omega), if_neg (by omega)]
            exact low x hx (by omega)
          · rw [if_neg cy2, if_neg (by omega), if_neg (by omega)]
            exact sorted_of hO s1 (by omega) (by omega) (by omega)
      · rw [if_neg c2]
        simp only
        obtain ⟨mid, hmid⟩ : ∃ mid, (a + b) / 2 = mid := ⟨_, rfl⟩
        obtain ⟨start, hstart⟩ : ∃ start, sStart lt d a m b = start := ⟨_, rfl⟩
        obtain ⟨q1, q2, q3, q4, q5, q6, q7⟩ := sStart_spec d a m b (by omega) (by omega) start mid hstart hmid
        rw [hmid, hstart]
        obtain ⟨e, he⟩ : ∃ e, mid + m - start = e := ⟨_, rfl⟩
        rw [he] at q4 q5 q6 q7 ⊢
        have hme : start + (e - m) = mid := by omega
        have g1 := sTurn_get d start m e q2 q5 (by omega)
        rw [hme] at g1
        have P1 := sTurn_perm d start m e a b q1 q4 h3
        have hsz1 : (sTurn d start m e).size = d.size := P1.1
        generalize sTurn d start m e = d1 at g1 P1 hsz1 ⊢
        -- the four parts
        have A1 : SortedIn lt a start d1 := by
          intro x y hx hxy hy
          rw [g1, g1, if_neg (by omega), if_neg (by omega), if_neg (by omega), if_neg (by omega)]
          exact s1 x y hx hxy (by omega)
        have A2 : SortedIn lt start mid d1 := by
          intro x y hx hxy hy
          rw [g1, g1, if_pos (by omega), if_pos (by omega)]
          exact s2 _ _ (by omega) (by omega) (by omega)
        have A3 : SortedIn lt mid e d1 := by
          intro x y hx hxy hy
          rw [g1 y, g1 x, if_neg (show ¬ (start ≤ y ∧ y < mid) by omega), if_pos (show mid ≤ y ∧ y < e by omega), if_neg (show ¬ (start ≤ x ∧ x < mid) by omega), if_pos (show mid ≤ x ∧ x < e by omega)]
          exact s1 _ _ (by omega) (by omega) (by omega)
        have A4 : SortedIn lt e b d1 := by
          intro x y hx hxy hy
          rw [g1, g1, if_neg (by omega), if_neg (by omega), if_neg (by omega), if_neg (by omega)]
          exact s2 _ _ (by omega) (by omega) hy
        -- whatever is left of the middle is at most whatever is right of it
        have X : ∀ i j, a ≤ i → i < mid → mid ≤ j → j < b → lt d1[j]! d1[i]! = false := by
          intro i j hi1 hi2 hj1 hj2
          rw [g1, g1, if_neg (show ¬ (start ≤ j ∧ j < mid) by omega)]
          by_cases ci : start ≤ i ∧ i < mid
          · rw [if_pos ci]
            by_cases cj : mid ≤ j ∧ j < e
            · rw [if_pos cj]
              rcases q7 with q7 | q7 | q7
              · omega
              · omega
              · have h5 := sorted_of hO s2 (i := i + (m - start)) (j := e - 1) (by omega) (by omega) (by omega)
                have h6 := sorted_of hO s1 (i := start) (j := j - (e - m)) q1 (by omega) (by omega)
                cases h7 : lt d[j - (e - m)]! d[i + (m - start)]! with
                | false => rfl
                | true =>
                  -- d[start] ≤ d[j'] < d[i'] ≤ d[e-1] < d[start]
                  have h8 : lt d[e - 1]! d[j - (e - m)]! = true := by
                    cases h9 : lt d[e - 1]! d[j - (e - m)]! with
                    | true => rfl
                    | false => have h10 := hO.ntrans _ _ _ h9 h6; rw [q7] at h10; cases h10
                  have h11 := hO.trans _ _ _ h8 h7
                  rw [h5] at h11; cases h11
            · rw [if_neg cj]
              exact sorted_of hO s2 (by omega) (by omega) hj2
          · rw [if_neg ci, if_neg (show ¬ (mid ≤ i ∧ i < e) by omega)]
            by_cases cj : mid ≤ j ∧ j < e
            · rw [if_pos cj]
              exact sorted_of hO s1 hi1 (by omega) (by omega)
            · rw [if_neg cj]
              rcases q6 with q6 | q6 | q6
              · omega
              · omega
              · have h5 := sorted_of hO s2 (i := e) (j := j) (by omega) (by omega) hj2
                have h6 := sorted_of hO s1 (i := i) (j := start - 1) hi1 (by omega) (by omega)
                exact hO.ntrans _ _ _ (hO.ntrans _ _ _ h5 q6) h6
        -- the left half
        have L : ∃ d2, (if a < start ∧ start < mid then symM lt f d1 a start mid else d1) = d2 ∧ PermIn a mid d1 d2 ∧ SortedIn lt a mid d2 := by
          refine ⟨_, rfl, ?_⟩
          by_cases c : a < start ∧ start < mid
          · rw [if_pos c]
            exact symM_holds hO f d1 a start mid c.1 c.2 (by omega) (by omega) A1 A2
          · rw [if_neg c]
            refine ⟨permIn_refl _ _ _, ?_⟩
            rcases Nat.lt_or_ge a start with c3 | c3
            · obtain rfl : start = mid := by omega
              exact A1
            · obtain rfl : start = a := by omega
              exact A2
        obtain ⟨d2, e2, PL, SL⟩ := L
        rw [e2]
        have hsz2 : d2.size = d.size := by rw [PL.1, hsz1]
        have out2 : ∀ k, mid ≤ k → d2[k]! = d1[k]! := fun k hk => PL.2.1 k (.inr hk)
        have B3 : SortedIn lt mid e d2 := by
          intro x y hx hxy hy
          rw [out2 x hx, out2 y (by omega)]; exact A3 x y hx hxy hy
        have B4 : SortedIn lt e b d2 := by
          intro x y hx hxy hy
          rw [out2 x (by omega), out2 y (by omega)]; exact A4 x y hx hxy hy
        have Rr : ∃ d3, (if mid < e ∧ e < b then symM lt f d2 mid e b else d2) = d3 ∧ PermIn mid b d2 d3 ∧ SortedIn lt mid b d3 := by
          refine ⟨_, rfl, ?_⟩
          by_cases c : mid < e ∧ e < b
          · rw [if_pos c]
            exact symM_holds hO f d2 mid e b c.1 c.2 (by omega) (by omega) B3 B4
          · rw [if_neg c]
            refine ⟨permIn_refl _ _ _, ?_⟩
            rcases Nat.lt_or_ge mid e with c3 | c3
            · obtain rfl : e = b := by omega
              exact B3
            · obtain rfl : e = mid := by omega
              exact B4
        obtain ⟨d3, e3, PR, SR⟩ := Rr
        rw [e3]
        have out3 : ∀ k, k < mid → d3[k]! = d2[k]! := fun k hk => PR.2.1 k (.inl hk)
        refine ⟨?_, ?_⟩
        · exact permIn_trans _ _ _ _ _ P1 (permIn_trans _ _ _ _ _ (permIn_mono _ _ a mid a b (Nat.le_refl _) (by omega) (by omega) PL) (permIn_mono _ _ mid b a b (by omega) (Nat.le_refl _) (by omega) PR))
        · refine sorted_join (m := mid) ?_ SR ?_
          · intro x y hx hxy hy
            rw [out3 x (by omega), out3 y hy]; exact SL x y hx hxy hy
          · intro i j hi1 hi2 hj1 hj2
            rw [out3 i hi2]
            obtain ⟨i', a1, a2, a3⟩ := permIn_get PL (by omega) hi1 hi2
            obtain ⟨j', b1, b2, b3⟩ := permIn_get PR (by omega) hj1 hj2
            rw [a3, b3, out2 j' b1]
            exact X i' j' a1 a2 b1 b2
end Go.Proofs.YtkjhefjjacokjaaGreat

namespace Go.Proofs.YtkjhefjjacokjaaGreat
open Go.Sort
variable {α : Type} [Inhabited α] (lt : α → α → Bool)
/-- Blocks of twenty, from a on. -/
def insB : Nat → Array α → Nat → Array α
  | 0, d, a => insertionSort lt d a d.size
  | f + 1, d, a => if a + 20 ≤ d.size then insB f (insertionSort lt d a (a + 20)) (a + 20) else insertionSort lt d a d.size
/-- Blocks of s are merged two by two, from a on. -/
def mrg (s : Nat) : Nat → Array α → Nat → Array α
  | 0, d, _ => d
  | f + 1, d, a => if a + 2 * s ≤ d.size then mrg s f (symM lt (2 * s) d a (a + s) (a + 2 * s)) (a + 2 * s) else if a + s < d.size then symM lt (d.size - a) d a (a + s) d.size else d
def stabL : Nat → Array α → Nat → Array α
  | 0, d, _ => d
  | f + 1, d, s => if s < d.size then stabL f (mrg lt s d.size d 0) (2 * s) else d
def stab (d : Array α) : Array α := stabL lt d.size (insB lt d.size d 0) 20
variable {lt}
theorem insB_holds (hO : SWO lt) : ∀ f (d : Array α) a, a ≤ d.size → d.size ≤ a + f * 20 → a % 20 = 0 → (∀ i j, i < j → j < a → i / 20 = j / 20 → lt d[j]! d[i]! = false) →
    PermIn 0 d.size d (insB lt f d a) ∧ ∀ i j, i < j → j < d.size → i / 20 = j / 20 → lt (insB lt f d a)[j]! (insB lt f d a)[i]! = false
  | 0, d, a, h1, h2, h3, h4 => by
    have h := insertionSort_holds hO d a d.size h1 (Nat.le_refl _)
    rw [insB]
    refine ⟨permIn_mono _ _ a d.size 0 d.size (Nat.zero_le _) (Nat.le_refl _) (Nat.le_refl _) h.1, fun i j hij hj he => ?_⟩
    have e1 := h.1.2.1 j (.inl (by omega))
    have e2 := h.1.2.1 i (.inl (by omega))
    rw [e1, e2]
    exact h4 i j hij (by omega) he
  | f + 1, d, a, h1, h2, h3, h4 => by
    rw [insB]
    by_cases c : a + 20 ≤ d.size
    · rw [if_pos c]
      have h := insertionSort_holds hO d a (a + 20) (by omega) c
      have hsz := h.1.1
      have ih := insB_holds hO f (insertionSort lt d a (a + 20)) (a + 20) (by omega) (by omega) (by omega) (by
        intro i j hij hj he
        rcases Nat.lt_or_ge j a with c2 | c2
        · rw [h.1.2.1 j (.inl c2), h.1.2.1 i (.inl (by omega))]
          exact h4 i j hij c2 he
        · exact h.2 i j (by omega) hij hj)
      rw [hsz] at ih
      exact ⟨permIn_trans _ _ _ _ _ (permIn_mono _ _ a (a + 20) 0 d.size (Nat.zero_le _) c (Nat.le_refl _) h.1) ih.1, ih.2⟩
    · rw [if_neg c]
      have h := insertionSort_holds hO d a d.size h1 (Nat.le_refl _)
      refine ⟨permIn_mono _ _ a d.size 0 d.size (Nat.zero_le _) (Nat.le_refl _) (Nat.le_refl _) h.1, fun i j hij hj he => ?_⟩
      rcases Nat.lt_or_ge j a with c2 | c2
      · rw [h.1.2.1 j (.inl c2), h.1.2.1 i (.inl (by omega))]
        exact h4 i j hij c2 he
      · exact h.2 i j (by omega) hij hj
/-- Two numbers of one block of 2s, that begins at 2s·t. -/
theorem block_at (i s t : Nat) (hs : 0 < s) : i / (2 * s) = t ↔ t * (2 * s) ≤ i ∧ i < t * (2 * s) + 2 * s := by
  rw [Nat.div_eq_iff (by omega)]
  constructor
  · rintro ⟨h1, h2⟩; exact ⟨h1, by omega⟩
  · rintro ⟨h1, h2⟩; exact ⟨h1, by omega⟩
theorem same_block (i j s q : Nat) (hs : 0 < s) (h1 : q * s ≤ i) (h2 : i < q * s + s) (h3 : q * s ≤ j) (h4 : j < q * s + s) : i / s = j / s := by
  have e1 : i / s = q := (Nat.div_eq_iff hs).2 ⟨h1, by omega⟩
  have e2 : j / s = q := (Nat.div_eq_iff hs).2 ⟨h3, by omega⟩
  rw [e1, e2]
theorem mrg_holds (hO : SWO lt) (s : Nat) (hs : 0 < s) : ∀ f (d : Array α) t, t * (2 * s) ≤ d.size + 2 * s → d.size ≤ t * (2 * s) + f * (2 * s) → (∀ i j, i < j → j < d.size → j < t * (2 * s) → i / (2 * s) = j / (2 * s) → lt d[j]! d[i]! = false) →
    (∀ i j, t * (2 * s) ≤ i → i < j → j < d.size → i / s = j / s → lt d[j]! d[i]! = false) →
    PermIn 0 d.size d (mrg lt s f d (t * (2 * s))) ∧ ∀ i j, i < j → j < d.size → i / (2 * s) = j / (2 * s) → lt (mrg lt s f d (t * (2 * s)))[j]! (mrg lt s f d (t * (2 * s)))[i]! = false
  | 0, d, t, h1, h2, h3, h4 => by
    rw [mrg]
    exact ⟨permIn_refl _ _ _, fun i j hij hj he => h3 i j hij hj (by omega) he⟩
  | f + 1, d, t, h1, h2, h3, h4 => by
    obtain ⟨a, ha⟩ : ∃ a, t * (2 * s) = a := ⟨_, rfl⟩
    have hq1 : (2 * t) * s = a := by rw [← ha, Nat.mul_comm 2 t, Nat.mul_assoc]
    have hq2 : (2 * t + 1) * s = a + s := by rw [Nat.add_mul, hq1, Nat.one_mul]
    have S1 : ∀ b, b ≤ d.size → b ≤ a + s → SortedIn lt a b d := by
      intro b hb1 hb2 i j hi hij hj
      exact h4 i j (by omega) hij (by omega) (same_block i j s (2 * t) hs (by omega) (by omega) (by omega) (by omega))
    have S2 : ∀ b, b ≤ d.size → b ≤ a + 2 * s → SortedIn lt (a + s) b d := by
      intro b hb1 hb2 i j hi hij hj
      exact h4 i j (by omega) hij (by omega) (same_block i j s (2 * t + 1) hs (by omega) (by omega) (by omega) (by omega))
    rw [mrg, ha]
    by_cases c : a + 2 * s ≤ d.size
    · rw [if_pos c]
      have h := symM_holds hO (2 * s) d a (a + s) (a + 2 * s) (by omega) (by omega) c (by omega) (S1 _ (by omega) (Nat.le_refl _)) (S2 _ c (Nat.le_refl _))
      have hsz := h.1.1
      have e : (t + 1) * (2 * s) = a + 2 * s := by rw [Nat.add_mul, ha, Nat.one_mul]
      have ef : (f + 1) * (2 * s) = f * (2 * s) + 2 * s := by rw [Nat.add_mul, Nat.one_mul]
      have ih := mrg_holds hO s hs f (symM lt (2 * s) d a (a + s) (a + 2 * s)) (t + 1) (by rw [e, hsz]; omega) (by rw [e, hsz]; rw [ef, ha] at h2; omega) (by
        intro i j hij hj1 hj2 he
        rw [e] at hj2
        rcases Nat.lt_or_ge j a with c2 | c2
        · rw [h.1.2.1 j (.inl c2), h.1.2.1 i (.inl (by omega))]
          exact h3 i j hij (by omega) (by omega) he
        · have hj : j / (2 * s) = t := (block_at j s t hs).2 ⟨by omega, by omega⟩
          have hi := (block_at i s t hs).1 (by rw [he, hj])
          exact h.2 i j (by omega) hij hj2) (by
        intro i j hi hij hj he
        rw [e] at hi
        rw [h.1.2.1 j (.inr (by omega)), h.1.2.1 i (.inr (by omega))]
        exact h4 i j (by omega) hij (by omega) he)
      rw [e, hsz] at ih
      exact ⟨permIn_trans _ _ _ _ _ (permIn_mono _ _ a (a + 2 * s) 0 d.size (Nat.zero_le _) c (Nat.le_refl _) h.1) ih.1, ih.2⟩
    · rw [if_neg c]
      by_cases c2 : a + s < d.size
      · rw [if_pos c2]
        have h := symM_holds hO (d.size - a) d a (a + s) d.size (by omega) c2 (Nat.le_refl _) (Nat.le_refl _) (S1 _ (by omega) (Nat.le_refl _)) (S2 _ (Nat.le_refl _) (by omega))
        refine ⟨permIn_mono _ _ a d.size 0 d.size (Nat.zero_le _) (Nat.le_refl _) (Nat.le_refl _) h.1, fun i j hij hj he => ?_⟩
        rcases Nat.lt_or_ge j a with c3 | c3
        · rw [h.1.2.1 j (.inl c3), h.1.2.1 i (.inl (by omega))]
          exact h3 i j hij hj (by omega) he
        · have hj' : j / (2 * s) = t := (block_at j s t hs).2 ⟨by omega, by omega⟩
          have hi := (block_at i s t hs).1 (by rw [he, hj'])
          exact h.2 i j (by omega) hij hj
      · rw [if_neg c2]
        refine ⟨permIn_refl _ _ _, fun i j hij hj he => ?_⟩
        rcases Nat.lt_or_ge j a with c3 | c3
        · exact h3 i j hij hj (by omega) he
        · have hj' : j / (2 * s) = t := (block_at j s t hs).2 ⟨by omega, by omega⟩
          have hi := (block_at i s t hs).1 (by rw [he, hj'])
          exact h4 i j (by omega) hij hj (same_block i j s (2 * t) hs (by omega) (by omega) (by omega) (by omega))
theorem stabL_holds (hO : SWO lt) : ∀ f (d : Array α) s, 0 < s → d.size ≤ s * 2 ^ f → (∀ i j, i < j → j < d.size → i / s = j / s → lt d[j]! d[i]! = false) → PermIn 0 d.size d (stabL lt f d s) ∧ SortedIn lt 0 d.size (stabL lt f d s)
  | 0, d, s, hs, h1, h2 => by
    rw [stabL]
    exact ⟨permIn_refl _ _ _, fun i j _ hij hj => h2 i j hij hj (by rw [Nat.div_eq_of_lt (by omega), Nat.div_eq_of_lt (by omega)])⟩
  | f + 1, d, s, hs, h1, h2 => by
    rw [stabL]
    by_cases c : s < d.size
    · rw [if_pos c]
      have h := mrg_holds hO s hs d.size d 0 (by omega) (by have : d.size ≤ d.size * (2 * s) := Nat.le_mul_of_pos_right _ (by omega); omega) (by intro i j _ _ h; omega) (by intro i j _ hij hj he; exact h2 i j hij hj he)
      rw [Nat.zero_mul] at h
      have hsz := h.1.1
      have ih := stabL_holds hO f (mrg lt s d.size d 0) (2 * s) (by omega) (by rw [hsz, Nat.mul_comm 2 s, Nat.mul_assoc, Nat.mul_comm 2, ← Nat.pow_succ]; exact h1) (by rw [hsz]; exact h.2)
      rw [hsz] at ih
      exact ⟨permIn_trans _ _ _ _ _ h.1 ih.1, ih.2⟩
    · rw [if_neg c]
      exact ⟨permIn_refl _ _ _, fun i j _ hij hj => h2 i j hij hj (by rw [Nat.div_eq_of_lt (by omega), Nat.div_eq_of_lt (by omega)])⟩
theorem stab_holds (hO : SWO lt) (d : Array α) : PermIn 0 d.size d (stab lt d) ∧ SortedIn lt 0 d.size (stab lt d) := by
  have h := insB_holds hO d.size d 0 (Nat.zero_le _) (by omega) rfl (by intro i j _ h; omega)
  have hsz := h.1.1
  have h2 := stabL_holds hO d.size (insB lt d.size d 0) 20 (by omega) (by
    rw [hsz]
    have : d.size < 2 ^ d.size := Nat.lt_two_pow_self
    omega) (by rw [hsz]; exact h.2)
  rw [hsz] at h2
  exact ⟨permIn_trans _ _ _ _ _ h.1 h2.1, h2.2⟩
end Go.Proofs.YtkjhefjjacokjaaGreat

namespace Go.Proofs.YtkjhefjjacokjaaGreat
open Go.Proofs Go.Shelf Go.RowKit Go.Sort Go.Lib
set_option maxRecDepth 100000
set_option maxHeartbeats 4000000 in
set_option maxRecDepth 1000000 in
theorem swapI (N : Nat) [Inhabited (Fin N)] (fv : Value) (blk cap a b n : Nat) (d0 d : Array (Fin N)) (w0 w : World) (R : Row1 (encF N) w0 blk 0 d0) (hs : d0.size = d.size) (S : SW (encF N) w0 blk 0 d w) (hab : a + n ≤ b) (hb : b + n ≤ d.size) (hsz : d.size < 1000000) :
    Calls Tryz.prog 125 #[.slice (some ⟨blk, 0, none⟩) d.size cap, .int .i64 a, .int .i64 b, .int .i64 n, fv] w fun e w' => e = .returned (.tuple #[]) ∧ SW (encF N) w0 blk 0 (swapR d a b n) w' := by
  have S0 := Lib.hid S; clear S
  have HR := Lib.hid R; clear R
  have HS := Lib.hid hs; clear hs
  obtain ⟨z, hz⟩ : ∃ z, d.size = z := ⟨_, rfl⟩
  have HZ := Lib.hid hz
  rw [hz] at hb hsz ⊢
  clear hz
  go_enter Tryz.func125, Tryz.ntmps125
  go_wp2_with fail
  go_loopw [10] (fun v wr => ∃ i : Nat, i ≤ n ∧ v = .int .i64 i ∧ SW (encF N) w0 blk 0 (swapR d a b i) wr) (fun v _ => n - (intOf v).toNat)
  case atStart => exact ⟨0, by omega, rfl, S0.out⟩
  case round =>
    clear S0
    obtain ⟨i, hi, rfl, hS⟩ := hrel
    have S1 := Lib.hid hS; clear hS
    have hsw : (swapR d a b i).size = d0.size := by rw [swapR_size, HS.out]
    by_cases hlt : i < n
    · obtain ⟨p, hp⟩ : ∃ p, a + i = p := ⟨_, rfl⟩
      obtain ⟨q, hq⟩ : ∃ q, b + i = q := ⟨_, rfl⟩
      have hpz : p < (swapR d a b i).size := by rw [swapR_size, HZ.out]; omega
      have hqz : q < (swapR d a b i).size := by rw [swapR_size, HZ.out]; omega
      have S2 : Hid (SW (encF N) w0 blk 0 (swapR d a b (i + 1)) ((wr.setCell ⟨blk, 0 + p, none⟩ (encF N (swapR d a b i)[q]!)).setCell ⟨blk, 0 + q, none⟩ (encF N (swapR d a b i)[p]!)).drew) := Lib.hid (by
        rw [swapR, hp, hq]; exact S1.out.swapped HR.out p q hpz hqz)
      have ca := S1.out.c1 HR.out hsw p hpz
      have cb := S1.out.c1 HR.out hsw q hqz
      have fa := S1.out.f1 HR.out hsw p hpz
      have fb := S1.out.f1 HR.out hsw q hqz
      simp only [encF, Nat.zero_add] at ca cb fa fb S2
      obtain ⟨x, hx⟩ : ∃ x, ((swapR d a b i)[p]!).val = x := ⟨_, rfl⟩
      obtain ⟨y, hy⟩ : ∃ y, ((swapR d a b i)[q]!).val = y := ⟨_, rfl⟩
      rw [hx] at ca S2
      rw [hy] at cb S2
      have wp : IntKind.i64.wrap ((a : Int) + i) = p := by rw [IntWalk.i64_in _ (by omega)]; omega
      have wq : IntKind.i64.wrap ((b : Int) + i) = q := by rw [IntWalk.i64_in _ (by omega)]; omega
      have wp' : ((a : Int) + i) = p := by omega
      have wq' : ((b : Int) + i) = q := by omega
      have p0 : (0 : Int) ≤ p := by omega
      have q0 : (0 : Int) ≤ q := by omega
      have pz : (p : Int) < z := by omega
      have qz : (q : Int) < z := by omega
      have hpq : p ≠ q := by omega
      have HPQ := Lib.hid (And.intro hp hq)
      clear hx hy hp hq hpz hqz hsw
      go_wp2_with fail
      go_region
      go_wp2_with fail
      go_roundw
      case rel => exact ⟨i + 1, by omega, by go_num, S2.out⟩
      case measure => simp [intOf]; omega
    · obtain rfl : i = n := by omega
      clear hsw
      go_wp2_with fail
      go_end0
      exact ⟨rfl, S1.out⟩
set_option maxHeartbeats 4000000 in
set_option maxRecDepth 1000000 in
theorem rotI (N : Nat) [Inhabited (Fin N)] (fv : Value) (blk cap a m b : Nat) (d0 d : Array (Fin N)) (w0 w : World) (R : Row1 (encF N) w0 blk 0 d0) (hs : d0.size = d.size) (S : SW (encF N) w0 blk 0 d w) (ham : a < m) (hmb : m < b) (hb : b ≤ d.size) (hsz : d.size < 1000000) :
    Calls Tryz.prog 122 #[.slice (some ⟨blk, 0, none⟩) d.size cap, .int .i64 a, .int .i64 m, .int .i64 b, fv] w fun e w' => e = .returned (.tuple #[]) ∧ SW (encF N) w0 blk 0 (rotL m (b - a) d (m - a) (b - m)) w' := by
  have S0 := Lib.hid S; clear S
  have HR := Lib.hid R; clear R
  have HS := Lib.hid hs; clear hs
  obtain ⟨z, hz⟩ : ∃ z, d.size = z := ⟨_, rfl⟩
  have HZ := Lib.hid hz
  rw [hz] at hb hsz ⊢
  clear hz
  obtain ⟨T, hT⟩ : ∃ T, rotL m (b - a) d (m - a) (b - m) = T := ⟨_, rfl⟩
  rw [hT]
  have HT := Lib.hid hT
  go_enter Tryz.func122, Tryz.ntmps122
  go_wp2_with fail
  have e1 : ((m : Int) - a) = (m - a : Nat) := by omega
  have e2 : ((b : Int) - m) = (b - m : Nat) := by omega
  rw [e1, e2]
  clear e1 e2
  go_loopw [10, 11] (fun vi vj wr => ∃ (i j f : Nat) (d' : Array (Fin N)), vi = .int .i64 i ∧ vj = .int .i64 j ∧ 0 < i ∧ 0 < j ∧ i ≤ m ∧ m + j ≤ z ∧ i + j ≤ f ∧ d'.size = z ∧ rotL m f d' i j = T ∧ SW (encF N) w0 blk 0 d' wr) (fun vi vj _ => (intOf vi).toNat + (intOf vj).toNat)
  case atStart => exact ⟨m - a, b - m, b - a, d, rfl, rfl, by omega, by omega, by omega, by omega, by omega, HZ.out, hT, S0.out⟩
  case round =>
    clear S0 hT
    obtain ⟨i, j, f, d', rfl, rfl, hi, hj, him, hmj, hf, hd', hrot, hS⟩ := hrel
    have S1 := Lib.hid hS; clear hS
    have HD := Lib.hid hd'; clear hd'
    have HRo := Lib.hid hrot; clear hrot
    obtain ⟨f', rfl⟩ : ∃ f', f = f' + 1 := ⟨f - 1, by omega⟩
    obtain ⟨mi, hmi⟩ : ∃ mi, m - i = mi := ⟨_, rfl⟩
    have wmi : ((m : Int) - i) = mi := by omega
    have CS : Hid (∀ (x y n : Nat), x + n ≤ y → y + n ≤ z → Calls Tryz.prog 125 #[.slice (some ⟨blk, 0, none⟩) z cap, .int .i64 x, .int .i64 y, .int .i64 n, fv] wr fun e w' => e = .returned (.tuple #[]) ∧ SW (encF N) w0 blk 0 (swapR d' x y n) w') := Lib.hid (fun x y n h1 h2 => by
      have := swapI N fv blk cap x y n d0 d' w0 wr HR.out (by rw [HS.out, HZ.out, HD.out]) S1.out h1 (by rw [HD.out]; exact h2) (by rw [HD.out]; exact hsz)
      rw [HD.out] at this
      exact this)
    by_cases hij : i = j
    · subst hij
      have C1 := Lib.hid (CS.out mi m i (by omega) (by omega))
      have HF : Hid (swapR d' mi m i = T) := Lib.hid (by rw [← HRo.out, rotL, if_pos rfl, hmi])
      go_wp2_with (go_at_call 125; refine C1.out.mono ?_; rintro e w1 ⟨rfl, hS1⟩; have S3 := Lib.hid hS1; clear hS1)
      go_end0
      exact ⟨rfl, by rw [← HF.out]; exact S3.out⟩
    · have dij : ((i : Int) == j) = false := by simp; omega
      have dij2 : ((i : Int) != j) = true := by simp; omega
      by_cases hji : j < i
      · have C1 := Lib.hid (CS.out mi m j (by omega) (by omega))
        have HF : Hid (rotL m f' (swapR d' mi m j) (i - j) j = T) := Lib.hid (by rw [← HRo.out, rotL, if_neg hij, if_pos hji, hmi])
        go_wp2_with (go_at_call 125; refine C1.out.mono ?_; rintro e w1 ⟨rfl, hS1⟩; have S3 := Lib.hid hS1; clear hS1)
        go_roundw
        case rel => exact ⟨i - j, j, f', swapR d' mi m j, by go_num, rfl, by omega, hj, by omega, hmj, by omega, by rw [swapR_size, HD.out], HF.out, S3.out⟩
        case measure => simp [intOf]; omega
      · obtain ⟨q, hq⟩ : ∃ q, m + j - i = q := ⟨_, rfl⟩
        have wq : ((m : Int) + j - i) = q := by omega
        have C1 := Lib.hid (CS.out mi q i (by omega) (by omega))
        have HF : Hid (rotL m f' (swapR d' mi q i) i (j - i) = T) := Lib.hid (by rw [← HRo.out, rotL, if_neg hij, if_neg hji, hmi, hq])
        have HQ := Lib.hid hq
        clear hq
        go_wp2_with (go_at_call 125; refine C1.out.mono ?_; rintro e w1 ⟨rfl, hS1⟩; have S3 := Lib.hid hS1; clear hS1)
        go_roundw
        case rel => exact ⟨i, j - i, f', swapR d' mi q i, rfl, by go_num, hi, by omega, him, by omega, by omega, by rw [swapR_size, HD.out], HF.out, S3.out⟩
        case measure => simp [intOf]; omega
end Go.Proofs.YtkjhefjjacokjaaGreat

namespace Go.Proofs.YtkjhefjjacokjaaGreat
open Go.Proofs Go.Shelf Go.RowKit Go.Sort Go.Lib
set_option maxHeartbeats 4000000 in
set_option maxRecDepth 1000000 in
theorem symI_one (N : Nat) [Inhabited (Fin N)] (cf : Fin N → Fin N → Int) (g : Nat) (cb : Array Value) (blk cap a m b : Nat) (d0 d : Array (Fin N)) (w0 w : World) (eg : ∀ args w, (callFunc g args).run Tryz.prog w = .ok (.enter g args) w) (hcmp : CmpLays1 Tryz.prog g cb (encF N) cf blk 0 d0.size w0) (R : Row1 (encF N) w0 blk 0 d0) (hs : d0.size = d.size) (S : SW (encF N) w0 blk 0 d w) (ham : a + 1 = m) (hmb : m < b) (hb : b ≤ d.size) (hsz : d.size < 1000000) :
    Calls Tryz.prog 120 #[.slice (some ⟨blk, 0, none⟩) d.size cap, .int .i64 a, .int .i64 m, .int .i64 b, .func (.func g) #[] cb] w fun e w' => e = .returned (.tuple #[]) ∧ SW (encF N) w0 blk 0 (shr d a (bs (fun h => ltOf cf d[h]! d[a]!) (b - m) m b - 1 - a)) w' := by
  have mixed : Tryz.prog.follows .mixedOrders = true := by kernel_rfl
  have S0 := Lib.hid S; clear S
  have HR := Lib.hid R; clear R
  have HS := Lib.hid hs; clear hs
  have HC := Lib.hid hcmp; clear hcmp
  obtain ⟨z, hz⟩ : ∃ z, d.size = z := ⟨_, rfl⟩
  have HZ := Lib.hid hz
  rw [hz] at hb hsz ⊢
  clear hz
  obtain ⟨T, hT⟩ : ∃ T, bs (fun h => ltOf cf d[h]! d[a]!) (b - m) m b = T := ⟨_, rfl⟩
  have hT1 := bs_spec (fun h => ltOf cf d[h]! d[a]!) (b - m) m b (by omega) (by omega)
  rw [hT] at hT1 ⊢
  obtain ⟨hT1, hT2, -⟩ := hT1
  have HT := Lib.hid hT
  go_enter Tryz.func120, Tryz.ntmps120
  have e1 : ((m : Int) - a) = 1 := by omega
  go_wp2_with fail
  clear hT
  go_loopw [10, 11] (fun vi vj wr => ∃ (i j f : Nat), vi = .int .i64 i ∧ vj = .int .i64 j ∧ m ≤ i ∧ i ≤ j ∧ j ≤ b ∧ j - i ≤ f ∧ bs (fun h => ltOf cf d[h]! d[a]!) f i j = T ∧ SW (encF N) w0 blk 0 d wr) (fun vi vj _ => (intOf vj).toNat - (intOf vi).toNat)
  case atStart => exact ⟨m, b, b - m, rfl, rfl, by omega, by omega, by omega, by omega, HT.out, S0.out⟩
  case round =>
    clear S0 HT
    obtain ⟨i, j, f, rfl, rfl, hi, hj, hjb, hf, hbs, hS⟩ := hrel
    have S1 := Lib.hid hS; clear hS
    have HB := Lib.hid hbs; clear hbs
    by_cases hij : i < j
    · obtain ⟨f', rfl⟩ : ∃ f', f = f' + 1 := ⟨f - 1, by omega⟩
      obtain ⟨h, hh⟩ : ∃ h, (i + j) / 2 = h := ⟨_, rfl⟩
      have hsz2 : d.size = d0.size := HS.out.symm
      have ch := S1.out.cl HR.out hsz2 h (by rw [HZ.out]; omega)
      have ca := S1.out.cl HR.out hsz2 a (by rw [HZ.out]; omega)
      have wh : ((i : Int) + j) / 2 = h := by omega
      have h0 : (0 : Int) ≤ h := by omega
      have hzz : (h : Int) < z := by omega
      have a0 : (0 : Int) ≤ a := by omega
      have azz : (a : Int) < z := by omega
      obtain ⟨x, hx⟩ : ∃ x, x = d[h]! := ⟨_, rfl⟩
      obtain ⟨y, hy⟩ : ∃ x, x = d[a]! := ⟨_, rfl⟩
      rw [← hx] at ch
      rw [← hy] at ca
      simp only [Nat.zero_add] at ch ca
      have hcm := S1.out.cmp HC.out hsz2 x y
      have HXY := Lib.hid (And.intro hx hy)
      clear hx hy hsz2
      have HH := Lib.hid hh; clear hh
      go_wp2_with fail
      clear wh
      go_quiet_grown (first | (go_at_fn g; refine Calls.grown_of (hcm _ _)))
      have S2 : Hid (SW (encF N) w0 blk 0 d (grow (wr.drewN nq) osq)) := Lib.hid (S1.out.grown nq osq)
      clear ch ca hcm S1 a0 azz
      generalize grow (wr.drewN nq) osq = w2 at S2 ⊢
      clear nq osq
      cases hlv : decide (cf x y < 0) with
      | true =>
        have HN : Hid (bs (fun h => ltOf cf d[h]! d[a]!) f' (h + 1) j = T) := Lib.hid (by
          rw [← HB.out, bs, if_pos hij, HH.out, if_pos (by show decide _ = true; rw [← HXY.out.1, ← HXY.out.2]; exact hlv)])
        have hlv' : cf x y < 0 := of_decide_eq_true hlv
        clear hlv
        go_wp2_with fail
        go_roundw
        case rel => exact ⟨h + 1, j, f', by go_num, rfl, by have := HH.out; omega, by have := HH.out; omega, hjb, by have := HH.out; omega, HN.out, S2.out⟩
        case measure => have := HH.out; simp [intOf]; omega
      | false =>
        have HN : Hid (bs (fun h => ltOf cf d[h]! d[a]!) f' i h = T) := Lib.hid (by
          rw [← HB.out, bs, if_pos hij, HH.out, if_neg (by show ¬ decide _ = true; rw [← HXY.out.1, ← HXY.out.2]; rw [hlv]; simp)])
        have hlv' : ¬ cf x y < 0 := of_decide_eq_false hlv
        clear hlv
        go_wp2_with fail
        go_roundw
        case rel => exact ⟨i, h, f', rfl, rfl, by omega, by have := HH.out; omega, by have := HH.out; omega, by have := HH.out; omega, HN.out, S2.out⟩
        case measure => have := HH.out; simp [intOf]; omega
    · obtain rfl : i = j := by omega
      have hiT : i = T := by rw [← HB.out]; cases f <;> simp [bs]
      clear HB
      subst hiT
      go_wp2_with fail
      go_loopw [13] (fun v wr => ∃ k : Nat, k ≤ i - 1 - a ∧ v = .int .i64 (a + k : Nat) ∧ SW (encF N) w0 blk 0 (shr d a k) wr) (fun v _ => i - (intOf v).toNat)
      case atStart => exact ⟨0, by omega, rfl, S1.out⟩
      case round =>
        clear S1
        obtain ⟨k, hk, rfl, hS⟩ := hrel
        have S1 := Lib.hid hS; clear hS
        obtain ⟨p, hp⟩ : ∃ p, a + k = p := ⟨_, rfl⟩
        rw [hp]
        by_cases hlt : k < i - 1 - a
        · obtain ⟨q, hq⟩ : ∃ q, p + 1 = q := ⟨_, rfl⟩
          have hsw : (shr d a k).size = d0.size := by rw [shr_size, HS.out]
          have hpz : p < (shr d a k).size := by rw [shr_size, HZ.out]; omega
          have hqz : q < (shr d a k).size := by rw [shr_size, HZ.out]; omega
          have S2 : Hid (SW (encF N) w0 blk 0 (shr d a (k + 1)) ((wr.setCell ⟨blk, 0 + p, none⟩ (encF N (shr d a k)[q]!)).setCell ⟨blk, 0 + q, none⟩ (encF N (shr d a k)[p]!)).drew) := Lib.hid (by
            rw [shr, hp, hq]; exact S1.out.swapped HR.out p q hpz hqz)
          have ca := S1.out.c1 HR.out hsw p hpz
          have cb' := S1.out.c1 HR.out hsw q hqz
          have fa := S1.out.f1 HR.out hsw p hpz
          have fb := S1.out.f1 HR.out hsw q hqz
          simp only [encF, Nat.zero_add] at ca cb' fa fb S2
          obtain ⟨x, hx⟩ : ∃ x, ((shr d a k)[p]!).val = x := ⟨_, rfl⟩
          obtain ⟨y, hy⟩ : ∃ y, ((shr d a k)[q]!).val = y := ⟨_, rfl⟩
          rw [hx] at ca S2
          rw [hy] at cb' S2
          have wq : IntKind.i64.wrap ((p : Int) + 1) = q := by rw [IntWalk.i64_in _ (by omega)]; omega
          have wq' : ((p : Int) + 1) = q := by omega
          have p0 : (0 : Int) ≤ p := by omega
          have q0 : (0 : Int) ≤ q := by omega
          have pz : (p : Int) < z := by omega
          have qz : (q : Int) < z := by omega
          have hpq : p ≠ q := by omega
          have tst : (p : Int) < (i : Int) - 1 := by omega
          have HPQ := Lib.hid (And.intro hp hq)
          clear hx hy hp hq hpz hqz hsw
          go_wp2_with fail
          go_region
          go_wp2_with fail
          go_roundw
          case rel => exact ⟨k + 1, by omega, by have := HPQ.out; congr 1; omega, S2.out⟩
          case measure => have := HPQ.out; simp [intOf]; omega
        · have tst : ¬ (p : Int) < (i : Int) - 1 := by omega
          obtain rfl : k = i - 1 - a := by omega
          go_wp2_with fail
          refine bodyPost_ret (results_none rfl _ _ _) rfl ?_
          exact ⟨rfl, S1.out⟩
set_option maxHeartbeats 4000000 in
set_option maxRecDepth 1000000 in
theorem symI_last (N : Nat) [Inhabited (Fin N)] (cf : Fin N → Fin N → Int) (g : Nat) (cb : Array Value) (blk cap a m b : Nat) (d0 d : Array (Fin N)) (w0 w : World) (eg : ∀ args w, (callFunc g args).run Tryz.prog w = .ok (.enter g args) w) (hcmp : CmpLays1 Tryz.prog g cb (encF N) cf blk 0 d0.size w0) (R : Row1 (encF N) w0 blk 0 d0) (hs : d0.size = d.size) (S : SW (encF N) w0 blk 0 d w) (ham : a + 1 < m) (hmb : m + 1 = b) (hb : b ≤ d.size) (hsz : d.size < 1000000) :
    Calls Tryz.prog 120 #[.slice (some ⟨blk, 0, none⟩) d.size cap, .int .i64 a, .int .i64 m, .int .i64 b, .func (.func g) #[] cb] w fun e w' => e = .returned (.tuple #[]) ∧ SW (encF N) w0 blk 0 (shl d m (m - bs (fun h => !ltOf cf d[m]! d[h]!) (m - a) a m)) w' := by
  have mixed : Tryz.prog.follows .mixedOrders = true := by kernel_rfl
  have S0 := Lib.hid S; clear S
  have HR := Lib.hid R; clear R
  have HS := Lib.hid hs; clear hs
  have HC := Lib.hid hcmp; clear hcmp
  obtain ⟨z, hz⟩ : ∃ z, d.size = z := ⟨_, rfl⟩
  have HZ := Lib.hid hz
  rw [hz] at hb hsz ⊢
  clear hz
  obtain ⟨T, hT⟩ : ∃ T, bs (fun h => !ltOf cf d[m]! d[h]!) (m - a) a m = T := ⟨_, rfl⟩
  have hT1 := bs_spec (fun h => !ltOf cf d[m]! d[h]!) (m - a) a m (by omega) (by omega)
  rw [hT] at hT1 ⊢
  obtain ⟨hT1, hT2, -⟩ := hT1
  have HT := Lib.hid hT
  go_enter Tryz.func120, Tryz.ntmps120
  have e1 : ((m : Int) - a == 1) = false := by simp; omega
  have e2 : ((b : Int) - m) = 1 := by omega
  have e3 : ¬ ((m : Int) - a = 1) := by omega
  go_wp2_with fail
  clear hT
  go_loopw [14, 15] (fun vi vj wr => ∃ (i j f : Nat), vi = .int .i64 i ∧ vj = .int .i64 j ∧ a ≤ i ∧ i ≤ j ∧ j ≤ m ∧ j - i ≤ f ∧ bs (fun h => !ltOf cf d[m]! d[h]!) f i j = T ∧ SW (encF N) w0 blk 0 d wr) (fun vi vj _ => (intOf vj).toNat - (intOf vi).toNat)
  case atStart => exact ⟨a, m, m - a, rfl, rfl, by omega, by omega, by omega, by omega, HT.out, S0.out⟩
  case round =>
    clear S0 HT
    obtain ⟨i, j, f, rfl, rfl, hi, hj, hjb, hf, hbs, hS⟩ := hrel
    have S1 := Lib.hid hS; clear hS
    have HB := Lib.hid hbs; clear hbs
    by_cases hij : i < j
    · obtain ⟨f', rfl⟩ : ∃ f', f = f' + 1 := ⟨f - 1, by omega⟩
      obtain ⟨h, hh⟩ : ∃ h, (i + j) / 2 = h := ⟨_, rfl⟩
      have hsz2 : d.size = d0.size := HS.out.symm
      have ch := S1.out.cl HR.out hsz2 h (by rw [HZ.out]; omega)
      have ca := S1.out.cl HR.out hsz2 m (by rw [HZ.out]; omega)
      have wh : ((i : Int) + j) / 2 = h := by omega
      have h0 : (0 : Int) ≤ h := by omega
      have hzz : (h : Int) < z := by omega
      have a0 : (0 : Int) ≤ m := by omega
      have azz : (m : Int) < z := by omega
      obtain ⟨x, hx⟩ : ∃ x, x = d[h]! := ⟨_, rfl⟩
      obtain ⟨y, hy⟩ : ∃ x, x = d[m]! := ⟨_, rfl⟩
      rw [← hx] at ch
      rw [← hy] at ca
      simp only [Nat.zero_add] at ch ca
      have hcm := S1.out.cmp HC.out hsz2 y x
      have HXY := Lib.hid (And.intro hx hy)
      clear hx hy hsz2
      have HH := Lib.hid hh; clear hh
      go_wp2_with fail
      clear wh
      go_quiet_grown (first | (go_at_fn g; refine Calls.grown_of (hcm _ _)))
      have S2 : Hid (SW (encF N) w0 blk 0 d (grow (wr.drewN nq) osq)) := Lib.hid (S1.out.grown nq osq)
      clear ch ca hcm S1 a0 azz
      generalize grow (wr.drewN nq) osq = w2 at S2 ⊢
      clear nq osq
      cases hlv : decide (cf y x < 0) with
      | true =>
        have HN : Hid (bs (fun h => !ltOf cf d[m]! d[h]!) f' i h = T) := Lib.hid (by
          rw [← HB.out, bs, if_pos hij, HH.out, if_neg (by show ¬ (!decide _) = true; rw [← HXY.out.1, ← HXY.out.2]; rw [hlv]; simp)])
        have hlv' : cf y x < 0 := of_decide_eq_true hlv
        clear hlv
        go_wp2_with fail
        go_roundw
        case rel => exact ⟨i, h, f', rfl, rfl, by omega, by have := HH.out; omega, by have := HH.out; omega, by have := HH.out; omega, HN.out, S2.out⟩
        case measure => have := HH.out; simp [intOf]; omega
      | false =>
        have HN : Hid (bs (fun h => !ltOf cf d[m]! d[h]!) f' (h + 1) j = T) := Lib.hid (by
          rw [← HB.out, bs, if_pos hij, HH.out, if_pos (by show (!decide _) = true; rw [← HXY.out.1, ← HXY.out.2]; rw [hlv]; rfl)])
        have hlv' : ¬ cf y x < 0 := of_decide_eq_false hlv
        clear hlv
        go_wp2_with fail
        go_roundw
        case rel => exact ⟨h + 1, j, f', by go_num, rfl, by have := HH.out; omega, by have := HH.out; omega, hjb, by have := HH.out; omega, HN.out, S2.out⟩
        case measure => have := HH.out; simp [intOf]; omega
    · obtain rfl : i = j := by omega
      have hiT : i = T := by rw [← HB.out]; cases f <;> simp [bs]
      clear HB
      subst hiT
      go_wp2_with fail
      go_loopw [17] (fun v wr => ∃ k : Nat, k ≤ m - i ∧ v = .int .i64 (m - k : Nat) ∧ SW (encF N) w0 blk 0 (shl d m k) wr) (fun v _ => (intOf v).toNat)
      case atStart => exact ⟨0, by omega, rfl, S1.out⟩
      case round =>
        clear S1
        obtain ⟨k, hk, rfl, hS⟩ := hrel
        have S1 := Lib.hid hS; clear hS
        obtain ⟨p, hp⟩ : ∃ p, m - k = p := ⟨_, rfl⟩
        rw [hp]
        by_cases hlt : k < m - i
        · obtain ⟨q, hq⟩ : ∃ q, p - 1 = q := ⟨_, rfl⟩
          have hsw : (shl d m k).size = d0.size := by rw [shl_size, HS.out]
          have hpz : p < (shl d m k).size := by rw [shl_size, HZ.out]; omega
          have hqz : q < (shl d m k).size := by rw [shl_size, HZ.out]; omega
          have S2 : Hid (SW (encF N) w0 blk 0 (shl d m (k + 1)) ((wr.setCell ⟨blk, 0 + p, none⟩ (encF N (shl d m k)[q]!)).setCell ⟨blk, 0 + q, none⟩ (encF N (shl d m k)[p]!)).drew) := Lib.hid (by
            rw [shl, hp, hq]; exact S1.out.swapped HR.out p q hpz hqz)
          have ca := S1.out.c1 HR.out hsw p hpz
          have cb' := S1.out.c1 HR.out hsw q hqz
          have fa := S1.out.f1 HR.out hsw p hpz
          have fb := S1.out.f1 HR.out hsw q hqz
          simp only [encF, Nat.zero_add] at ca cb' fa fb S2
          obtain ⟨x, hx⟩ : ∃ x, ((shl d m k)[p]!).val = x := ⟨_, rfl⟩
          obtain ⟨y, hy⟩ : ∃ y, ((shl d m k)[q]!).val = y := ⟨_, rfl⟩
          rw [hx] at ca S2
          rw [hy] at cb' S2
          have wq : IntKind.i64.wrap ((p : Int) - 1) = q := by rw [IntWalk.i64_in _ (by omega)]; omega
          have wq' : ((p : Int) - 1) = q := by omega
          have p0 : (0 : Int) ≤ p := by omega
          have q0 : (0 : Int) ≤ q := by omega
          have pz : (p : Int) < z := by omega
          have qz : (q : Int) < z := by omega
          have hpq : p ≠ q := by omega
          have tst : (i : Int) < (p : Int) := by omega
          have tst2 : decide ((p : Int) > i) = true := decide_eq_true tst
          have HPQ := Lib.hid (And.intro hp hq)
          clear hx hy hp hq hpz hqz hsw
          go_wp2_with fail
          go_region
          go_wp2_with fail
          go_roundw
          case rel => exact ⟨k + 1, by omega, by have := HPQ.out; congr 1; omega, S2.out⟩
          case measure => have := HPQ.out; simp [intOf]; omega
        · have tst : ¬ (i : Int) < (p : Int) := by omega
          have tst2 : decide ((p : Int) > i) = false := decide_eq_false tst
          obtain rfl : k = m - i := by omega
          go_wp2_with fail
          refine bodyPost_ret (results_none rfl _ _ _) rfl ?_
          exact ⟨rfl, S1.out⟩
end Go.Proofs.YtkjhefjjacokjaaGreat
