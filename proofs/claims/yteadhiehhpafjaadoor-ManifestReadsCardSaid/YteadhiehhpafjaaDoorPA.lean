/-
  Mathematics of a manifest's text: strings.ReplaceAll of two bytes as a scan, lines, the parting of a text. Nothing of the program's memory.
-/
import Derived.Test.YteadhiehhpafjaaDoorNQ
import Derived.Lib.CountLaws
namespace Go.Proofs.YteadhiehhpafjaaDoor
open Go Go.RowKit

/-- Each instance of two bytes for others, from the left. -/
def sc (x y : UInt8) (new : List UInt8) : List UInt8 → List UInt8
  | [] => []
  | [a] => [a]
  | a :: b :: r => if a = x ∧ b = y then new ++ sc x y new r else a :: sc x y new (b :: r)
termination_by l => l.length

theorem index_miss {a : UInt8} {l sub : List UInt8} (h : sub.isPrefixOf (a :: l) = false) : Lib.index (a :: l) sub = if Lib.index l sub = -1 then -1 else Lib.index l sub + 1 := by
  rw [Lib.index, if_neg (by rw [h]; simp)]
  by_cases e : Lib.index l sub = -1
  · rw [if_pos (by rw [e]; rfl), if_pos e]
  · rw [if_neg (by simpa using e), if_neg e]
theorem pre_two {x y a b : UInt8} {r : List UInt8} (h : ¬ (a = x ∧ b = y)) : [x, y].isPrefixOf (a :: b :: r) = false := by
  rw [Bool.eq_false_iff]
  intro hp
  simp only [List.isPrefixOf, Bool.and_true, Bool.and_eq_true, beq_iff_eq] at hp
  exact h ⟨hp.1.symm, hp.2.symm⟩
theorem repK_sc (x y : UInt8) (new : List UInt8) : ∀ (n : Nat) (s : List UInt8), s.length ≤ n → ∀ k, Lib.count s [x, y] ≤ k → Lib.replaceK [x, y] new k s = sc x y new s := by
  intro n
  induction n with
  | zero =>
    intro s hs k hk
    obtain rfl : s = [] := List.eq_nil_of_length_eq_zero (by omega)
    rw [sc]; cases k <;> simp [Lib.replaceK, Lib.index]
  | succ n ih =>
    intro s hs k hk
    match s, hs, hk with
    | [], _, _ => rw [sc]; cases k <;> simp [Lib.replaceK, Lib.index]
    | [a], _, _ => rw [sc]; cases k <;> simp [Lib.replaceK, Lib.index, List.isPrefixOf]
    | a :: b :: r, hs, hk =>
      rw [sc]
      simp only [List.length_cons] at hs
      by_cases h : a = x ∧ b = y
      · obtain ⟨rfl, rfl⟩ := h
        rw [if_pos ⟨rfl, rfl⟩]
        have hi : Lib.index (a :: b :: r) [a, b] = ((0 : Nat) : Int) := by simp [Lib.index, List.isPrefixOf]
        rw [Lib.count_hit (by simp) hi] at hk
        obtain ⟨k, rfl⟩ : ∃ j, k = j + 1 := ⟨k - 1, by omega⟩
        rw [Lib.replaceK_hit _ _ _ _ _ hi]
        simp only [List.take_zero, List.nil_append, Nat.zero_add, List.length_cons, List.length_nil, List.drop_succ_cons, List.drop_zero] at hk ⊢
        rw [ih r (by omega) k (by omega)]
      · rw [if_neg h]
        have hm := index_miss (pre_two (r := r) h)
        by_cases h1 : Lib.index (b :: r) [x, y] = -1
        · rw [if_pos h1] at hm
          have e := ih (b :: r) (by simp; omega) k (by rw [Lib.count_miss h1]; omega)
          have e2 : Lib.replaceK [x, y] new k (b :: r) = b :: r := by cases k <;> simp [Lib.replaceK, h1]
          have e3 : Lib.replaceK [x, y] new k (a :: b :: r) = a :: b :: r := by cases k <;> simp [Lib.replaceK, hm]
          rw [e3, ← e, e2]
        · rw [if_neg h1] at hm
          have hge := Lib.index_ge (b :: r) [x, y]
          obtain ⟨i, hi⟩ : ∃ i : Nat, Lib.index (b :: r) [x, y] = i := ⟨(Lib.index (b :: r) [x, y]).toNat, by omega⟩
          have hm2 : Lib.index (a :: b :: r) [x, y] = ((i + 1 : Nat) : Int) := by rw [hm, hi]; rfl
          have hc1 := Lib.count_hit (sub := [x, y]) (by simp) hm2
          have hc2 := Lib.count_hit (sub := [x, y]) (by simp) hi
          have ed : (a :: b :: r).drop (i + 1 + [x, y].length) = (b :: r).drop (i + [x, y].length) := by
            rw [show i + 1 + [x, y].length = (i + [x, y].length) + 1 by omega, List.drop_succ_cons]
          rw [ed, ← hc2] at hc1
          rw [hc1] at hk
          have e := ih (b :: r) (by simp; omega) k hk
          obtain ⟨k, rfl⟩ : ∃ j, k = j + 1 := ⟨k - 1, by omega⟩
          rw [Lib.replaceK_hit _ _ _ _ _ hi] at e
          rw [Lib.replaceK_hit _ _ _ _ _ hm2, ed, ← e, List.take_succ_cons]
          rfl
theorem all_sc (x y : UInt8) (new s : List UInt8) (h : new ≠ [x, y]) : Lib.replaceAll s [x, y] new = sc x y new s := by
  unfold Lib.replaceAll Lib.replace
  rw [if_neg (by simpa using fun e : [x, y] = new => h e.symm)]
  refine repK_sc x y new s.length s (Nat.le_refl _) _ ?_
  unfold Lib.replaceNum
  rw [if_pos (.inl (by decide))]
  exact Nat.le_refl _

theorem sc_ne {x y a : UInt8} {new : List UInt8} (h : a ≠ x) : ∀ t : List UInt8, sc x y new (a :: t) = a :: sc x y new t
  | [] => by rw [sc, sc]
  | b :: r => by rw [sc, if_neg (fun e => h e.1)]
theorem sc_app {x y : UInt8} {new : List UInt8} : ∀ (l t : List UInt8), x ∉ l → sc x y new (l ++ t) = l ++ sc x y new t
  | [], _, _ => rfl
  | a :: l, t, h => by
    rw [List.cons_append, sc_ne (fun e : a = x => h (by rw [← e]; exact List.mem_cons_self ..)), sc_app l t (fun e => h (List.mem_cons_of_mem _ e)), List.cons_append]
theorem sc_hit (x y : UInt8) (new r : List UInt8) : sc x y new (x :: y :: r) = new ++ sc x y new r := by rw [sc, if_pos ⟨rfl, rfl⟩]
theorem sc_miss {x y : UInt8} {new : List UInt8} : ∀ (t : List UInt8), t.head? ≠ some y → sc x y new (x :: t) = x :: sc x y new t
  | [], _ => by rw [sc, sc]
  | b :: r, h => by rw [sc, if_neg (fun e => h (by simp [e.2]))]

/-- Lines, each with its end. -/
def joinN (ls : List (List UInt8)) : List UInt8 := ls.flatMap fun l => l ++ [10]
def joinCR (ls : List (List UInt8)) : List UInt8 := ls.flatMap fun l => l ++ [13, 10]
theorem joinN_cons (l : List UInt8) (ls : List (List UInt8)) : joinN (l :: ls) = l ++ 10 :: joinN ls := by simp [joinN]
theorem joinN_app (a b : List (List UInt8)) : joinN (a ++ b) = joinN a ++ joinN b := by simp [joinN]
theorem joinCR_cons (l : List UInt8) (ls : List (List UInt8)) : joinCR (l :: ls) = l ++ 13 :: 10 :: joinCR ls := by simp [joinCR]
theorem joinCR_app (a b : List (List UInt8)) : joinCR (a ++ b) = joinCR a ++ joinCR b := by simp [joinCR]
theorem sc_joinCR : ∀ (ls : List (List UInt8)), (∀ l ∈ ls, 13 ∉ l) → sc 13 10 [10] (joinCR ls) = joinN ls
  | [], _ => by rw [joinCR, joinN, List.flatMap_nil, List.flatMap_nil, sc]
  | l :: ls, h => by
    rw [joinCR_cons, joinN_cons, sc_app l _ (h l (List.mem_cons_self ..)), sc_hit, sc_joinCR ls fun a ha => h a (List.mem_cons_of_mem _ ha)]
    rfl
theorem lnL_line : ∀ (l t : List UInt8), 10 ∉ l → lnL (l ++ 10 :: t) = (l ++ [10]) :: lnL t
  | [], t, _ => by rw [List.nil_append, lnL, if_pos rfl]; rfl
  | a :: l, t, h => by
    rw [List.cons_append, lnL, if_neg (fun e : a = 10 => h (by rw [← e]; exact List.mem_cons_self ..)), lnL_line l t fun e => h (List.mem_cons_of_mem _ e)]
    rfl
theorem lnL_joinN : ∀ (ls : List (List UInt8)), (∀ l ∈ ls, 10 ∉ l) → lnL (joinN ls) = ls.map fun l => l ++ [10]
  | [], _ => rfl
  | l :: ls, h => by
    rw [joinN_cons, lnL_line l _ (h l (List.mem_cons_self ..)), lnL_joinN ls fun a ha => h a (List.mem_cons_of_mem _ ha)]
    rfl
theorem chomp_line (l : List UInt8) : chomp (l ++ [10]) = l := by
  unfold chomp Lib.trimSuffix Lib.hasSuffix
  rw [if_pos (by rw [List.isSuffixOf_iff_suffix]; exact ⟨l, rfl⟩)]
  simp
theorem joinN_ends (ls : List (List UInt8)) (h : ls ≠ []) : Lib.hasSuffix (joinN ls) [10] = true := by
  unfold Lib.hasSuffix
  rw [List.isSuffixOf_iff_suffix]
  obtain ⟨a, l, rfl⟩ : ∃ a l, ls = a ++ [l] := ⟨ls.dropLast, ls.getLast h, (List.dropLast_concat_getLast h).symm⟩
  exact ⟨joinN a ++ l, by simp [joinN]⟩

/-- What is wrong with lines, behind one. -/
def wr (a : List UInt8) (ls : List (List UInt8)) : Int := wrongL a (ls.map fun l => l ++ [10])
theorem wr_cons {a l : List UInt8} {ls : List (List UInt8)} (h1 : l.length ≤ 72) (h2 : l.head? = some 32 → a ≠ []) : wr a (l :: ls) = wr l ls := by
  unfold wr
  rw [List.map_cons, wrongL]
  have hp : Lib.hasPrefix l [32] = true → l.head? = some 32 := by
    unfold Lib.hasPrefix
    cases l with
    | nil => intro h; cases h
    | cons x t =>
      intro h
      simp only [List.isPrefixOf, Bool.and_true, beq_iff_eq] at h
      rw [← h]; rfl
  have e : wrong1 a (l ++ [10]) = 0 := by
    unfold wrong1
    rw [chomp_line, if_neg (by omega), if_neg]
    rintro ⟨g1, g2⟩
    exact h2 (hp g1) g2
  rw [if_pos e, chomp_line]
theorem wr_more {r : List (List UInt8)} (hr : ∀ b, wr b r = 0) : ∀ (ls : List (List UInt8)) (a : List UInt8), a ≠ [] → (∀ l ∈ ls, l.length ≤ 72 ∧ l ≠ []) → wr a (ls ++ r) = 0
  | [], a, _, _ => hr a
  | l :: ls, a, ha, h => by
    rw [List.cons_append, wr_cons (h l (List.mem_cons_self ..)).1 (fun _ => ha)]
    exact wr_more hr ls l (h l (List.mem_cons_self ..)).2 fun x hx => h x (List.mem_cons_of_mem _ hx)
theorem wr_head {r : List (List UInt8)} (hr : ∀ b, wr b r = 0) (f : List UInt8) (ls : List (List UInt8)) (hf : f.length ≤ 72) (hf2 : f ≠ []) (hf3 : f.head? ≠ some 32) (h : ∀ l ∈ ls, l.length ≤ 72 ∧ l ≠ []) (a : List UInt8) : wr a (f :: ls ++ r) = 0 := by
  rw [List.cons_append, wr_cons hf (fun e => absurd e hf3)]
  exact wr_more hr ls f hf2 h
theorem wr_empty {r : List (List UInt8)} (hr : ∀ b, wr b r = 0) (a : List UInt8) : wr a ([] :: r) = 0 := by
  rw [wr_cons (by simp) (fun e => by cases e)]
  exact hr []
/-- A folded line and its pieces, put together. -/
theorem sc_folds {r : List UInt8} (hr : r.head? ≠ some 32) : ∀ (qs : List (List UInt8)) (f : List UInt8), 10 ∉ f → (∀ q ∈ qs, 10 ∉ q) → sc 10 32 [] (f ++ 10 :: (joinN (qs.map fun q => 32 :: q) ++ r)) = f ++ qs.flatten ++ 10 :: sc 10 32 [] r
  | [], f, hf, _ => by
    rw [sc_app f _ hf]
    simp only [joinN, List.map_nil, List.flatMap_nil, List.nil_append, List.flatten_nil, List.append_nil]
    rw [sc_miss r hr]
  | q :: qs, f, hf, h => by
    rw [sc_app f _ hf, List.map_cons, joinN_cons]
    have e : (32 :: q ++ 10 :: joinN (qs.map fun q => 32 :: q)) ++ r = 32 :: (q ++ 10 :: (joinN (qs.map fun q => 32 :: q) ++ r)) := by simp
    rw [e, sc_hit, sc_folds hr qs q (h q (List.mem_cons_self ..)) fun x hx => h x (List.mem_cons_of_mem _ hx)]
    simp
end Go.Proofs.YteadhiehhpafjaaDoor
