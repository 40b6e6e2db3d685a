/-
  Mathematics of a manifest's text: the document's way through the lines of a text tells what the program's tells. Nothing of the program's memory.
-/
import Derived.Test.YteadhiehhpafjaaDoorPB
import Derived.Test.YteadhiehhpafjaaDoorQF
namespace Go.Proofs.YteadhiehhpafjaaDoor
open Go Go.RowKit
set_option maxRecDepth 100000

/-- A line without the carriage return at its end. -/
def cR (l : List UInt8) : List UInt8 := if l.getLast? = some 13 then l.dropLast else l
theorem cR_nil : cR [] = [] := rfl
theorem cR_one (a : UInt8) : cR [a] = if a = 13 then [] else [a] := by unfold cR; simp
theorem cR_cons (a b : UInt8) (l : List UInt8) : cR (a :: b :: l) = a :: cR (b :: l) := by
  unfold cR
  rw [List.getLast?_cons_cons]
  split
  · rw [List.dropLast_cons_cons]
  · rfl
theorem cR_mem {l : List UInt8} {x : UInt8} (h : x ∈ cR l) : x ∈ l := by
  unfold cR at h
  split at h
  · exact List.dropLast_subset _ h
  · exact h
theorem sc_line (t : List UInt8) : ∀ l : List UInt8, 10 ∉ l → sc 13 10 [10] (l ++ 10 :: t) = cR l ++ 10 :: sc 13 10 [10] t
  | [], _ => by rw [cR_nil, List.nil_append, List.nil_append, sc_ne (by decide)]
  | [a], _ => by
    rw [cR_one]
    by_cases h : a = 13
    · subst h; rw [if_pos rfl]; show sc 13 10 [10] (13 :: 10 :: t) = _; rw [sc_hit]; rfl
    · rw [if_neg h]; show sc 13 10 [10] (a :: 10 :: t) = _; rw [sc_ne h, sc_ne (by decide)]; rfl
  | a :: b :: l, h => by
    have ih := sc_line t (b :: l) fun e => h (List.mem_cons_of_mem _ e)
    have hb : b ≠ 10 := fun e => h (by rw [← e]; simp)
    rw [cR_cons]
    show sc 13 10 [10] (a :: (b :: l ++ 10 :: t)) = a :: (cR (b :: l) ++ 10 :: sc 13 10 [10] t)
    rw [← ih]
    by_cases ha : a = 13
    · subst ha; exact sc_miss _ (by simpa using hb)
    · exact sc_ne ha _
theorem sc_joinN : ∀ ls : List (List UInt8), (∀ l ∈ ls, 10 ∉ l) → ∀ t, sc 13 10 [10] (joinN ls ++ t) = joinN (ls.map cR) ++ sc 13 10 [10] t
  | [], _, t => rfl
  | l :: ls, h, t => by
    rw [joinN_cons, List.append_assoc, List.cons_append, sc_line _ l (h l (by simp)), sc_joinN ls (fun x hx => h x (by simp [hx])), List.map_cons, joinN_cons, List.append_assoc, List.cons_append]
/-- A text's lines, and what stands behind the last. -/
theorem parts_of : ∀ s : List UInt8, ∃ ls t, s = joinN ls ++ t ∧ (∀ l ∈ ls, 10 ∉ l) ∧ 10 ∉ t
  | [] => ⟨[], [], rfl, by simp, by simp⟩
  | a :: s => by
    obtain ⟨ls, t, e, h1, h2⟩ := parts_of s
    by_cases ha : a = 10
    · exact ⟨[] :: ls, t, by rw [joinN_cons, e, ha]; rfl, by simpa using h1, h2⟩
    · cases ls with
      | nil => exact ⟨[], a :: t, by rw [e]; rfl, by simp, by simp [h2, Ne.symm ha]⟩
      | cons l ls =>
        refine ⟨(a :: l) :: ls, t, by rw [e, joinN_cons, joinN_cons]; rfl, fun x hx => ?_, h2⟩
        rcases List.mem_cons.1 hx with rfl | hx
        · have := h1 l (by simp)
          simp [this, Ne.symm ha]
        · exact h1 x (by simp [hx])
theorem sc_plain {x y : UInt8} {new : List UInt8} : ∀ t : List UInt8, y ∉ t → sc x y new t = t
  | [], _ => by rw [sc]
  | [a], _ => by rw [sc]
  | a :: b :: t, h => by
    rw [sc, if_neg (fun e => h (by rw [← e.2]; simp)), sc_plain (b :: t) fun e => h (List.mem_cons_of_mem _ e)]
theorem suffix_no {s t : List UInt8} (h : 10 ∉ t) (ht : t ≠ []) : Lib.hasSuffix (s ++ t) [10] = false := by
  rw [Bool.eq_false_iff]
  unfold Lib.hasSuffix
  intro e
  rw [List.isSuffixOf_iff_suffix] at e
  obtain ⟨a, e⟩ := e
  have h1 : (s ++ t).getLast? = some 10 := by rw [← e]; simp
  rw [List.getLast?_append, List.getLast?_eq_some_getLast ht] at h1
  have h2 : t.getLast ht = 10 := by simpa using h1
  exact h (h2 ▸ List.getLast_mem ht)

/-- Lines that go on with the one ahead, put to it. -/
def un2 : List UInt8 → List (List UInt8) → List (List UInt8)
  | cur, [] => [cur]
  | cur, l :: r => if l.head? = some 32 then un2 (cur ++ l.tail) r else cur :: un2 l r
def un : List (List UInt8) → List (List UInt8)
  | [] => []
  | l :: r => un2 l r
theorem sc_un2 : ∀ (r : List (List UInt8)) (cur : List UInt8), 10 ∉ cur → (∀ l ∈ r, 10 ∉ l) → sc 10 32 [] (cur ++ 10 :: joinN r) = joinN (un2 cur r)
  | [], cur, hc, _ => by
    rw [sc_app cur _ hc, un2, joinN_cons]
    show cur ++ sc 10 32 [] [10] = cur ++ 10 :: []
    rw [sc]
  | l :: r, cur, hc, h => by
    have hl := h l (by simp)
    have hr := fun x hx => h x (List.mem_cons_of_mem l hx)
    rw [un2]
    by_cases hb : l.head? = some 32
    · obtain ⟨t, rfl⟩ : ∃ t, l = 32 :: t := by
        cases l with
        | nil => cases hb
        | cons a t => exact ⟨t, by simpa using hb⟩
      have ht : 10 ∉ t := fun e => hl (List.mem_cons_of_mem _ e)
      have hct : 10 ∉ cur ++ t := by simp [hc, ht]
      rw [if_pos hb, List.tail_cons, ← sc_un2 r (cur ++ t) hct hr, sc_app cur _ hc, joinN_cons, List.cons_append, sc_hit, List.nil_append, List.append_assoc, sc_app cur _ hc]
    · rw [if_neg hb, sc_app cur _ hc, joinN_cons, joinN_cons, ← sc_un2 r l hl hr, sc_miss]
      cases l with
      | nil => simp
      | cons a t => simpa using hb
theorem un2_mem : ∀ (r : List (List UInt8)) (cur : List UInt8), 10 ∉ cur → (∀ l ∈ r, 10 ∉ l) → ∀ l ∈ un2 cur r, 10 ∉ l
  | [], cur, hc, _, l, hl => by rw [un2, List.mem_singleton] at hl; rw [hl]; exact hc
  | x :: r, cur, hc, h, l, hl => by
    have hx := h x (by simp)
    have hr := fun y hy => h y (List.mem_cons_of_mem x hy)
    rw [un2] at hl
    split at hl
    · exact un2_mem r _ (by
        intro e
        rcases List.mem_append.1 e with e | e
        · exact hc e
        · exact hx (List.mem_of_mem_tail e)) hr l hl
    · rcases List.mem_cons.1 hl with rfl | hl
      · exact hc
      · exact un2_mem r x hx hr l hl

/-- Lines parted where one is empty. -/
def grpA : List (List UInt8) → List (List UInt8) → List (List (List UInt8))
  | cur, [] => if cur = [] then [] else [cur]
  | cur, l :: r => if l = [] then (if cur = [] then grpA [] r else cur :: grpA [] r) else grpA (cur ++ [l]) r
/-- What is done with a section's lines, behind others. -/
def psG : List Sec → List (List (List UInt8)) → Int × List Sec
  | acc, [] => (0, acc)
  | acc, g :: gs => if (psL (fstOf acc) [] g).1 = 0 then psG (acc ++ [(psL (fstOf acc) [] g).2]) gs else ((psL (fstOf acc) [] g).1, [])
theorem splF_fuel {sep : List UInt8} (hs : sep ≠ []) : ∀ (k : Nat) (s : List UInt8), s.length ≤ k → splF sep (k + 1) s = splF sep k s
  | 0, s, h => by
    obtain rfl : s = [] := List.eq_nil_of_length_eq_zero (by omega)
    have e : Lib.index [] sep = -1 := by
      cases sep with
      | nil => exact absurd rfl hs
      | cons a t => rfl
    simp [splF, e]
  | k + 1, s, h => by
    rw [splF]
    conv => rhs; rw [splF]
    by_cases e : Lib.index s sep = -1
    · rw [if_pos e, if_pos e]
    · have hp : 0 < sep.length := List.length_pos_iff.2 hs
      rw [if_neg e, if_neg e, splF_fuel hs k _ (by rw [List.length_drop]; omega)]
theorem trim_feed (p : List UInt8) : Lib.trimB (10 :: p) 10 = Lib.trimB p 10 := by
  unfold Lib.trimB Lib.trimLeftB Lib.trimRightB
  rw [List.reverse_cons]
  by_cases h : p.reverse.dropWhile (fun c => c == 10) = []
  · have e : (p.reverse ++ [10]).dropWhile (fun c => c == 10) = [] := by
      rw [List.dropWhile_append, h]; simp
    simp only [e, h]
  · have e : (p.reverse ++ [10]).dropWhile (fun c => c == 10) = p.reverse.dropWhile (fun c => c == 10) ++ [10] := by
      rw [List.dropWhile_append, if_neg (by simpa using h)]
    rw [e, List.reverse_append]
    simp
theorem psF_trim {acc : List Sec} {x y : List UInt8} {xs : List (List UInt8)} (h : Lib.trimB x 10 = Lib.trimB y 10) : psF acc (x :: xs) = psF acc (y :: xs) := by
  rw [psF, psF, h]
theorem feed_ahead : ∀ (n : Nat) (T : List UInt8) (acc : List Sec) (k : Nat), T.length ≤ n → T.length ≤ k → psF acc (splF [10, 10] (k + 1) (10 :: T)) = psF acc (splF [10, 10] k T)
  | n, [], acc, k, _, _ => by
    have e1 : Lib.index [10] [10, 10] = -1 := by decide
    have e2 : Lib.index [] [10, 10] = -1 := rfl
    rw [spl_none e1, spl_none e2]
    exact psF_trim (trim_feed [])
  | 0, a :: T, acc, k, h, _ => by simp at h
  | n + 1, a :: T, acc, k, h, hk => by
    obtain ⟨k, rfl⟩ : ∃ j, k = j + 1 := ⟨k - 1, by simp at hk; omega⟩
    have h' : T.length ≤ n := by simpa using h
    have hk' : T.length ≤ k := by simpa using hk
    by_cases ha : a = 10
    · subst ha
      have hi : Lib.index (10 :: 10 :: T) [10, 10] = ((0 : Nat) : Int) := by simp [Lib.index, List.isPrefixOf]
      have e : splF [10, 10] (k + 1 + 1) (10 :: 10 :: T) = [] :: splF [10, 10] (k + 1) T := by
        rw [splF, hi, if_neg (by omega)]; rfl
      rw [e, psF, if_pos (by rfl), splF_fuel (by simp) k T hk', feed_ahead n T acc k h' hk']
    · have hm : Lib.index (10 :: a :: T) [10, 10] = if Lib.index (a :: T) [10, 10] = -1 then -1 else Lib.index (a :: T) [10, 10] + 1 := index_miss (pre_two fun e => ha e.2)
      by_cases hx : Lib.index (a :: T) [10, 10] = -1
      · rw [if_pos hx] at hm
        rw [spl_none hm, spl_none hx]
        exact psF_trim (trim_feed _)
      · rw [if_neg hx] at hm
        have hge := Lib.index_ge (a :: T) [10, 10]
        obtain ⟨i, hi⟩ : ∃ i : Nat, Lib.index (a :: T) [10, 10] = i := ⟨(Lib.index (a :: T) [10, 10]).toNat, by omega⟩
        rw [hi] at hm
        have e1 : splF [10, 10] (k + 1 + 1) (10 :: a :: T) = (10 :: (a :: T).take i) :: splF [10, 10] (k + 1) ((a :: T).drop (i + 2)) := by
          rw [splF, hm, if_neg (by omega)]
          have e1 : ((i : Int) + 1).toNat = i + 1 := by omega
          rw [e1, List.take_succ_cons, show i + 1 + [(10 : UInt8), 10].length = (i + 2) + 1 from rfl, List.drop_succ_cons]
        have e2 : splF [10, 10] (k + 1) (a :: T) = (a :: T).take i :: splF [10, 10] k ((a :: T).drop (i + 2)) := by
          rw [splF, hi, if_neg (by omega)]; rfl
        rw [e1, e2, splF_fuel (by simp) k _ (by rw [List.length_drop]; simp; omega)]
        exact psF_trim (trim_feed _)
theorem index_skip {c : UInt8} {sub t : List UInt8} (ht : Lib.index t (c :: sub) = -1) : ∀ l : List UInt8, c ∉ l → Lib.index (l ++ t) (c :: sub) = -1
  | [], _ => ht
  | a :: l, h => by
    rw [List.cons_append, index_miss (pre_ne fun e : a = c => h (by rw [← e]; exact List.mem_cons_self ..)), index_skip ht l fun e => h (List.mem_cons_of_mem _ e), if_pos rfl]
theorem trim_end (p : List UInt8) : Lib.trimB (p ++ [10]) 10 = Lib.trimB p 10 := by
  unfold Lib.trimB Lib.trimRightB
  rw [List.reverse_append, List.reverse_singleton, List.singleton_append, List.dropWhile_cons_of_pos (by rfl)]
theorem index_end : ∀ (ls : List (List UInt8)) (l : List UInt8), Full (l :: ls) → Lib.index (joinN (l :: ls)) [10, 10] = -1
  | [], l, h => by
    rw [joinN_cons]
    have h1 : Lib.index [10] [10, 10] = -1 := by decide
    exact index_skip h1 l (h l (by simp)).2
  | m :: r, l, h => by
    have ih := index_end r m h.tail
    obtain ⟨z, t, e, hz⟩ := sj_head m r h.tail
    rw [joinN_cons]
    refine index_skip ?_ l (h l (by simp)).2
    rw [index_miss, ih, if_pos rfl]
    rw [joinN_sj, e, List.cons_append]; exact pre_two fun e2 => hz e2.2
/-- The sections' texts tell the groups. -/
theorem spl_grp : ∀ (us cur : List (List UInt8)) (acc : List Sec) (k : Nat), (∀ l ∈ us, 10 ∉ l) → Full cur → (joinN (cur ++ us)).length ≤ k → psF acc (splF [10, 10] k (joinN (cur ++ us))) = psG acc (grpA cur us)
  | [], [], acc, k, _, _, _ => by
    have e : splF [10, 10] k (joinN ([] ++ [])) = [[]] := spl_none rfl k
    rw [e, psF, if_pos (by rfl), psF, grpA, if_pos rfl, psG]
  | [], c :: cur, acc, k, _, hf, _ => by
    have ht := trim_sj c cur hf
    obtain ⟨z, t, hz, _⟩ := sj_head c cur hf
    have hi : Lib.index (joinN (c :: cur ++ [])) [10, 10] = -1 := by
      rw [List.append_nil]; exact index_end cur c hf
    rw [spl_none hi, List.append_nil, joinN_sj, psF, trim_end, ht, if_neg (by rw [hz]; simp), spl_sj c cur hf, psF, grpA, if_neg (List.cons_ne_nil c cur), psG, psG]
  | l :: us, [], acc, k, h, hf, hk => by
    have hl := h l (by simp)
    have hu := fun x hx => h x (List.mem_cons_of_mem l hx)
    by_cases h0 : l = []
    · subst h0
      rw [List.nil_append, joinN_cons] at hk ⊢
      obtain ⟨k, rfl⟩ : ∃ j, k = j + 1 := ⟨k - 1, by simp at hk; omega⟩
      rw [List.nil_append] at hk ⊢
      rw [feed_ahead _ (joinN us) acc k (Nat.le_refl _) (by simpa using hk), grpA, if_pos rfl, if_pos rfl]
      exact spl_grp us [] acc k hu hf (by simpa using hk)
    · rw [grpA, if_neg h0]
      exact spl_grp us [l] acc k hu (fun x hx => by rw [List.mem_singleton.1 hx]; exact ⟨h0, hl⟩) hk
  | l :: us, c :: cur, acc, k, h, hf, hk => by
    have hl := h l (by simp)
    have hu := fun x hx => h x (List.mem_cons_of_mem l hx)
    by_cases h0 : l = []
    · subst h0
      have e : joinN (c :: cur ++ [] :: us) = sj (c :: cur) ++ [10, 10] ++ joinN us := by
        rw [joinN_app, joinN_sj, joinN_cons]; simp
      rw [e] at hk ⊢
      have hi := index_gap (joinN us) c cur hf
      obtain ⟨k, rfl⟩ : ∃ j, k = j + 1 := ⟨k - 1, by simp at hk; omega⟩
      have e2 : sj (c :: cur) ++ 10 :: 10 :: joinN us = sj (c :: cur) ++ [10, 10] ++ joinN us := by simp
      rw [e2] at hi
      obtain ⟨z, t, hz, _⟩ := sj_head c cur hf
      rw [spl_hit hi, psF, trim_sj c cur hf, if_neg (by rw [hz]; simp), spl_sj c cur hf, grpA, if_pos rfl, if_neg (List.cons_ne_nil c cur), psG]
      have hk2 : (joinN ([] ++ us)).length ≤ k := by
        rw [List.nil_append]
        simp only [List.length_append, List.length_cons, List.length_nil] at hk
        omega
      by_cases hp : (psL (fstOf acc) [] (c :: cur)).1 = 0
      · rw [if_pos hp, if_pos hp]
        exact spl_grp us [] _ k hu (fun x hx => by cases hx) hk2
      · rw [if_neg hp, if_neg hp]
    · have e : c :: cur ++ l :: us = (c :: (cur ++ [l])) ++ us := by simp
      rw [grpA, if_neg h0, e]
      rw [e] at hk
      refine spl_grp us (c :: (cur ++ [l])) acc k hu (fun x hx => ?_) hk
      rcases List.mem_cons.1 hx with rfl | hx
      · exact hf x (by simp)
      · rcases List.mem_append.1 hx with hx | hx
        · exact hf x (by simp [hx])
        · rw [List.mem_singleton.1 hx]; exact ⟨h0, hl⟩
end Go.Proofs.YteadhiehhpafjaaDoor
