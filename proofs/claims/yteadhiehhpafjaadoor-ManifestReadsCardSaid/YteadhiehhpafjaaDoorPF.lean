/-
  Mathematics of a manifest's text: what the document tells of the lines, as its sections have them. Nothing of the program's memory.
-/
import Derived.Test.YteadhiehhpafjaaDoorPE
namespace Go.Proofs.YteadhiehhpafjaaDoor
open Go Go.RowKit
set_option maxRecDepth 100000

def w1 (a l : List UInt8) : Int := if 72 < l.length then 3 else if l.head? = some 32 ∧ a = [] then 2 else 0
theorem prefix_iff (l : List UInt8) : Lib.hasPrefix l [32] = true ↔ l.head? = some 32 := by
  unfold Lib.hasPrefix
  cases l with
  | nil => simp [List.isPrefixOf]
  | cons x t =>
    simp only [List.isPrefixOf, Bool.and_true, beq_iff_eq, List.head?_cons, Option.some.injEq]
    exact eq_comm
theorem wr_step (a l : List UInt8) (r : List (List UInt8)) : wr a (l :: r) = if w1 a l = 0 then wr l r else w1 a l := by
  have e : wrong1 a (l ++ [10]) = w1 a l := by
    unfold wrong1 w1
    rw [chomp_line]
    simp only [prefix_iff]
  unfold wr
  rw [List.map_cons, wrongL, e, chomp_line]
theorem wr_nil (a : List UInt8) : wr a [] = 0 := rfl

abbrev Secs := List (List (List UInt8))
def glue (out : Secs) (t : List UInt8) : Secs := match out.getLast? with
  | some s => (match s.getLast? with | some z => out.dropLast ++ [s.dropLast ++ [z ++ t]] | none => out)
  | none => out
def addL (out : Secs) (l : List UInt8) : Secs := match out.getLast? with
  | some s => out.dropLast ++ [s ++ [l]]
  | none => out
theorem glue_eq (init : Secs) (mid : List (List UInt8)) (z t : List UInt8) : glue (init ++ [mid ++ [z]]) t = init ++ [mid ++ [z ++ t]] := by simp [glue]
theorem addL_eq (init : Secs) (s : List (List UInt8)) (l : List UInt8) : addL (init ++ [s]) l = init ++ [s ++ [l]] := by simp [addL]
/-- The document's way through the lines. -/
def dsL : Secs → Bool → List (List UInt8) → Int × Secs
  | out, _, [] => (0, out)
  | out, o, l :: r =>
    if 72 < l.length then (3, [])
    else if l = [] then dsL out false r
    else if l.head? = some 32 ∧ o = false then (2, [])
    else if l.head? = some 32 then dsL (glue out l.tail) o r
    else if o = false then dsL (out ++ [[l]]) true r
    else dsL (addL out l) o r
theorem un2_nil {r : List (List UInt8)} (h : wr [] r = 0) : un2 [] r = [] :: un r := by
  cases r with
  | nil => rfl
  | cons l r =>
    rw [wr_step] at h
    have hb : l.head? ≠ some 32 := by
      intro e
      have e2 : w1 [] l ≠ 0 := by
        unfold w1
        split
        · decide
        · rw [if_pos ⟨e, rfl⟩]; decide
      rw [if_neg e2] at h
      exact e2 h
    rw [un2, if_neg hb, un]
theorem ds_both : ∀ (r : List (List UInt8)),
    (∀ out, dsL out false r = if wr [] r = 0 then (0, out ++ grpA [] (un r)) else (wr [] r, [])) ∧
    (∀ init mid z a, z ≠ [] → a ≠ [] → dsL (init ++ [mid ++ [z]]) true r = if wr a r = 0 then (0, init ++ grpA mid (un2 z r)) else (wr a r, []))
  | [] => by
    refine ⟨fun out => ?_, fun init mid z a hz ha => ?_⟩
    · rw [dsL, wr_nil, if_pos rfl, un, grpA, if_pos rfl, List.append_nil]
    · rw [dsL, wr_nil, if_pos rfl, un2, grpA, if_neg hz, grpA, if_neg (by simp)]
  | l :: r => by
    obtain ⟨ih1, ih2⟩ := ds_both r
    refine ⟨fun out => ?_, fun init mid z a hz ha => ?_⟩
    · rw [dsL, wr_step]
      by_cases hl : 72 < l.length
      · have e : w1 [] l = 3 := by rw [w1, if_pos hl]
        rw [if_pos hl, e]; rfl
      · rw [if_neg hl]
        by_cases h0 : l = []
        · subst h0
          have e : w1 [] [] = 0 := rfl
          rw [if_pos rfl, e, if_pos rfl, ih1, un]
          by_cases hw : wr [] r = 0
          · rw [if_pos hw, if_pos hw, un2_nil hw, grpA, if_pos rfl, if_pos rfl]
          · rw [if_neg hw, if_neg hw]
        · rw [if_neg h0]
          by_cases hb : l.head? = some 32
          · have e : w1 [] l = 2 := by rw [w1, if_neg hl, if_pos ⟨hb, rfl⟩]
            rw [if_pos ⟨hb, rfl⟩, e]; rfl
          · have e : w1 [] l = 0 := by rw [w1, if_neg hl, if_neg (fun h => hb h.1)]
            rw [if_neg (fun h => hb h.1), if_neg hb, if_pos rfl, e, if_pos rfl, un]
            have := ih2 out [] l l h0 h0
            rw [List.nil_append] at this
            exact this
    · rw [dsL, wr_step]
      by_cases hl : 72 < l.length
      · have e : w1 a l = 3 := by rw [w1, if_pos hl]
        rw [if_pos hl, e]; rfl
      · have e : w1 a l = 0 := by rw [w1, if_neg hl, if_neg (fun h => ha h.2)]
        rw [if_neg hl, e, if_pos rfl]
        by_cases h0 : l = []
        · subst h0
          rw [if_pos rfl, ih1]
          by_cases hw : wr [] r = 0
          · rw [if_pos hw, if_pos hw, un2, if_neg (by simp), un2_nil hw, grpA, if_neg hz, grpA, if_pos rfl, if_neg (by simp)]
            simp
          · rw [if_neg hw, if_neg hw]
        · rw [if_neg h0, if_neg (fun h => by cases h.2)]
          by_cases hb : l.head? = some 32
          · rw [if_pos hb, glue_eq, un2, if_pos hb]
            exact ih2 init mid (z ++ l.tail) l (by simp [hz]) h0
          · rw [if_neg hb, if_neg (by simp), addL_eq, un2, if_neg hb, grpA, if_neg hz]
            exact ih2 init (mid ++ [z]) l l h0 h0

def psGall (gs : Secs) : Int × List Sec := if (psG [] gs).1 = 0 ∧ (psG [] gs).2 = [] then (2, []) else psG [] gs
/-- A text that ends in no feed. -/
theorem parse_six {b : List UInt8} (hl : b.length ≤ 16777216) (h : b.getLast? ≠ some 10) : parseP b = (6, []) := by
  obtain ⟨ls, t, rfl, h1, h2⟩ := parts_of b
  have e : Lib.replaceAll (joinN ls ++ t) [13, 10] [10] = joinN (ls.map cR) ++ t := by
    rw [all_sc _ _ _ _ (by simp), sc_joinN ls h1, sc_plain t h2]
  have hs : Lib.hasSuffix (joinN (ls.map cR) ++ t) [10] = false := by
    by_cases ht : t = []
    · subst ht
      have : ls = [] := by
        by_cases hls : ls = []
        · exact hls
        · exfalso
          obtain ⟨a, l, rfl⟩ : ∃ a l, ls = a ++ [l] := ⟨ls.dropLast, ls.getLast hls, (List.dropLast_concat_getLast hls).symm⟩
          apply h
          simp [joinN]
      subst this
      rfl
    · exact suffix_no h2 ht
  rw [parseP, if_neg (by omega), e, if_pos hs]
/-- A text of lines, as the document reads it. -/
theorem parse_ten {ls : List (List UInt8)} (h : ∀ l ∈ ls, 10 ∉ l) (hne : ls ≠ []) (hl : (joinN ls).length ≤ 16777216) :
    parseP (joinN ls) = if (dsL [] false (ls.map cR)).1 ≠ 0 then ((dsL [] false (ls.map cR)).1, []) else psGall (dsL [] false (ls.map cR)).2 := by
  have hc : ∀ l ∈ ls.map cR, 10 ∉ l := by
    intro l hl
    obtain ⟨x, hx, rfl⟩ := List.mem_map.1 hl
    exact fun e => h x hx (cR_mem e)
  have e1 : Lib.replaceAll (joinN ls) [13, 10] [10] = joinN (ls.map cR) := by
    have := sc_joinN ls h []
    rw [List.append_nil] at this
    rw [all_sc _ _ _ _ (by simp), this, sc, List.append_nil]
  have e2 : Lib.hasSuffix (joinN (ls.map cR)) [10] = true := joinN_ends _ (by simpa using hne)
  have e3 : wrongL [] (lnL (joinN (ls.map cR))) = wr [] (ls.map cR) := by rw [lnL_joinN _ hc]; rfl
  rw [parseP, if_neg (by omega), e1, if_neg (by rw [e2]; simp), e3, (ds_both (ls.map cR)).1]
  by_cases hw : wr [] (ls.map cR) = 0
  · have hw' : ¬ wr [] (ls.map cR) ≠ 0 := fun h => h hw
    rw [if_neg hw', if_pos hw]
    show _ = if (0 : Int) ≠ 0 then _ else psGall ([] ++ grpA [] (un (ls.map cR)))
    rw [if_neg (by decide), List.nil_append]
    obtain ⟨l, r, hlr⟩ := List.exists_cons_of_ne_nil (show ls.map cR ≠ [] by simpa using hne)
    rw [hlr] at hc ⊢
    have e4 : Lib.replaceAll (joinN (l :: r)) [10, 32] [] = joinN (un2 l r) := by
      rw [all_sc _ _ _ _ (by simp), joinN_cons]
      exact sc_un2 r l (hc l (by simp)) fun x hx => hc x (List.mem_cons_of_mem _ hx)
    have hu := un2_mem r l (hc l (by simp)) fun x hx => hc x (List.mem_cons_of_mem _ hx)
    have e5 := spl_grp (un2 l r) [] [] (joinN (un2 l r)).length hu (fun x hx => by cases hx) (by simp)
    rw [List.nil_append] at e5
    rw [e4, un, psAll, psGall, splL, e5]
  · rw [if_pos hw, if_neg hw]
    show _ = if wr [] (ls.map cR) ≠ 0 then _ else _
    rw [if_pos hw]

theorem chop_nat (l : List UInt8) : chop (l.map UInt8.toNat) = (cR l).map UInt8.toNat := by
  unfold chop cR
  rw [List.getLast?_map]
  by_cases h : l.getLast? = some 13
  · rw [if_pos h, h, if_pos (show Option.map UInt8.toNat (some 13) = some 13 from rfl), List.map_dropLast]
  · rw [if_neg h, if_neg]
    intro e
    apply h
    cases hq : l.getLast? with
    | none => rw [hq] at e; cases e
    | some x =>
      rw [hq] at e
      have : x.toNat = 13 := by simpa using e
      rw [show x = 13 from UInt8.toNat_inj.1 this]
theorem ln_line (out : List (List Nat)) (t : List Nat) : ∀ (l : List UInt8) (s : List UInt8), 10 ∉ l → ((l ++ [10]).map UInt8.toNat ++ t).foldl lnS (out, s.map UInt8.toNat) = t.foldl lnS (out ++ [(cR (s ++ l)).map UInt8.toNat], [])
  | [], s, _ => by
    show (10 :: t).foldl lnS _ = _
    rw [List.foldl_cons, lnS, if_pos rfl, chop_nat, List.append_nil]
  | a :: l, s, h => by
    have ha : a.toNat ≠ 10 := fun e => h (by rw [show a = 10 from UInt8.toNat_inj.1 e]; simp)
    have e : s.map UInt8.toNat ++ [a.toNat] = (s ++ [a]).map UInt8.toNat := by simp
    rw [List.cons_append, List.map_cons, List.cons_append, List.foldl_cons, lnS, if_neg ha]
    simp only
    rw [e, ln_line out t l (s ++ [a]) fun e => h (List.mem_cons_of_mem _ e)]
    simp
theorem ln_all : ∀ (ls : List (List UInt8)) (out : List (List Nat)), (∀ l ∈ ls, 10 ∉ l) → ((joinN ls).map UInt8.toNat).foldl lnS (out, []) = (out ++ ls.map fun l => (cR l).map UInt8.toNat, [])
  | [], out, _ => by simp [joinN]
  | l :: ls, out, h => by
    have e : (joinN (l :: ls)).map UInt8.toNat = (l ++ [10]).map UInt8.toNat ++ (joinN ls).map UInt8.toNat := by rw [joinN_cons]; simp
    have := ln_line out ((joinN ls).map UInt8.toNat) l [] (h l (by simp))
    rw [List.nil_append] at this
    rw [e, show ([] : List Nat) = ([] : List UInt8).map UInt8.toNat from rfl, this, ln_all ls _ fun x hx => h x (by simp [hx])]
    simp
theorem lines_eq {ls : List (List UInt8)} (h : ∀ l ∈ ls, 10 ∉ l) : linesL ((joinN ls).map UInt8.toNat) = (ls.map cR).map fun l => l.map UInt8.toNat := by
  rw [linesL, ln_all ls [] h]; simp
theorem strOf_nat (l : List UInt8) : strOf (l.map UInt8.toNat) = tx l := by
  unfold strOf tx
  rw [List.map_map]
  have e : l.map ((fun n => UInt8.ofNat n) ∘ UInt8.toNat) = l.map id := List.map_congr_left fun x _ => by simp
  rw [e, List.map_id]
theorem tsv_eq (ls : List (List UInt8)) : tsv (ls.map fun l => l.map UInt8.toNat) = sv (ls.map tx) := by
  unfold tsv
  rw [List.map_map]
  congr 1
  exact List.map_congr_left fun l _ => strOf_nat l

theorem occ_cb (l : List UInt8) (i : Nat) (h : i + 1 < l.length) : Lib.occAt l [58, 32] i = cb (tx l) i := by
  have e : l.drop i = l[i] :: l[i + 1] :: l.drop (i + 2) := by rw [List.drop_eq_getElem_cons (by omega), List.drop_eq_getElem_cons h]
  unfold Lib.occAt cb by_
  rw [e, tx_list, List.getD_eq_getElem?_getD, List.getD_eq_getElem?_getD, List.getElem?_eq_getElem (by omega), List.getElem?_eq_getElem h]
  simp only [List.isPrefixOf, Bool.and_true, Option.getD_some]
  rw [Bool.eq_iff_iff]
  simp only [Bool.and_eq_true, beq_iff_eq]
  constructor
  · rintro ⟨h1, h2⟩; rw [← h1, ← h2]; exact ⟨rfl, rfl⟩
  · rintro ⟨h1, h2⟩; exact ⟨(UInt8.toNat_inj.1 h1).symm, (UInt8.toNat_inj.1 h2).symm⟩
theorem hdr_cut (l : List UInt8) : ((Lib.cut l [58, 32]).2.2 = true → hdrM (tx l) = ((pairL l).1, (pairL l).2, true)) ∧ ((Lib.cut l [58, 32]).2.2 = false → hdrM (tx l) = (⟨#[]⟩, ⟨#[]⟩, false)) := by
  have hs : (tx l).size = l.length := tx_size l
  rcases Lib.index_spec l [58, 32] with ⟨h1, h2⟩ | ⟨i, h1, h2, h3, h4⟩
  · have hc : (Lib.cut l [58, 32]).2.2 = false := by unfold Lib.cut; rw [h1, if_neg (by omega)]
    refine ⟨fun e => (by rw [hc] at e; cases e), fun _ => ?_⟩
    have hn : hdrAt (tx l) = none := hdrAt_none fun j hj => by
      rw [← occ_cb l j (by omega)]; exact h2 j (by omega)
    unfold hdrM
    rw [hn]
  · have hr := Lib.index_room l [58, 32] (by omega)
    rw [h1] at hr
    have hi : i + 1 < l.length := by simp at hr; omega
    have e : Lib.cut l [58, 32] = (l.take i, l.drop (i + 2), true) := by
      unfold Lib.cut; rw [h1, if_pos (by omega)]; rfl
    refine ⟨fun _ => ?_, fun e2 => (by rw [e] at e2; cases e2)⟩
    have hn : hdrAt (tx l) = some i := hdrAt_some (by omega) (by rw [← occ_cb l i hi]; exact h3) fun j hj => by
      rw [← occ_cb l j (by omega)]; exact h4 j hj
    unfold hdrM pairL
    rw [hn, e]
    simp only
    have e1 : (tx l).extract 0 i = tx (l.take i) := by
      unfold tx; rw [ByteArray.extract_mk]; simp
    have e2 : (tx l).extract (i + 2) (tx l).size = tx (l.drop (i + 2)) := by
      rw [hs]; unfold tx; rw [ByteArray.extract_mk]; simp
      exact List.take_of_length_le (by rw [List.length_drop]; omega)
    rw [e1, e2]
end Go.Proofs.YteadhiehhpafjaaDoor
