/-
  Mathematics of a manifest's text: what is printed is read as the same. Nothing of the program's memory.
-/
import Derived.Test.YteadhiehhpafjaaDoorPB
namespace Go.Proofs.YteadhiehhpafjaaDoor
open Go Go.RowKit
set_option maxRecDepth 100000

theorem by_mem {s : ByteArray} {x : UInt8} (h : x ∈ s.data.toList) : ∃ k, k < s.size ∧ by_ s k = x.toNat := by
  obtain ⟨k, hk, rfl⟩ := List.mem_iff_getElem.1 h
  refine ⟨k, hk, ?_⟩
  unfold by_
  rw [List.getD_eq_getElem?_getD, List.getElem?_eq_getElem hk]; rfl
theorem name_bytes {a : ByteArray} (h : nameM a = true) : ∀ x ∈ a.data.toList, x ≠ 10 ∧ x ≠ 13 ∧ x ≠ 58 ∧ x ≠ 32 := by
  intro x hx
  obtain ⟨k, hk, hb⟩ := by_mem hx
  unfold nameM at h
  rw [Bool.and_eq_true] at h
  have hc := List.all_eq_true.1 h.1 k (List.mem_range.2 hk)
  rw [hb, okN, decide_eq_true_iff] at hc
  refine ⟨?_, ?_, ?_, ?_⟩ <;> (rintro rfl; simp at hc)
theorem name_size {a : ByteArray} (h : nameM a = true) : 1 ≤ a.size ∧ a.size ≤ 70 := by
  unfold nameM at h
  rw [Bool.and_eq_true, decide_eq_true_iff] at h
  exact h.2
theorem value_bytes {b : ByteArray} (h : valueM b = true) : ∀ x ∈ b.data.toList, x ≠ 10 ∧ x ≠ 13 := by
  intro x hx
  obtain ⟨k, hk, hb⟩ := by_mem hx
  have hc := List.all_eq_true.1 h k (List.mem_range.2 hk)
  rw [hb, okV_yes] at hc
  refine ⟨?_, ?_⟩ <;> (rintro rfl; simp at hc)

/-- A header that may be. -/
def Good (p : ByteArray × ByteArray) : Prop := nameM p.1 = true ∧ valueM p.2 = true
theorem judge_good {first : ByteArray} {S : List ByteArray} {p : ByteArray × ByteArray} (h : judgeM first S p = 0) : Good p := by
  unfold judgeM at h
  split at h
  · cases h
  split at h
  · cases h
  rename_i h1 h2
  exact ⟨by simpa using h2, by simpa using h1⟩
theorem secErr_good {first : ByteArray} : ∀ (s : Sec) (S : List ByteArray), secErr first S s = 0 → ∀ p ∈ s, Good p
  | [], _, _, _, hp => by cases hp
  | q :: s, S, h, p, hp => by
    rw [secErr] at h
    by_cases hq : judgeM first S q = 0
    · rw [if_pos hq] at h
      rcases List.mem_cons.1 hp with rfl | hp
      · exact judge_good hq
      · exact secErr_good s _ h p hp
    · rw [if_neg hq] at h; exact absurd h hq
/-- A header's line. -/
def hL (p : ByteArray × ByteArray) : List UInt8 := p.1.data.toList ++ 58 :: 32 :: p.2.data.toList
theorem hL_eq (p : ByteArray × ByteArray) : (hLine p).data.toList = hL p := by
  rw [hLine, ByteArray.data_append, Array.toList_append, ByteArray.data_append, Array.toList_append, hL]
  simp
theorem hL_bytes {p : ByteArray × ByteArray} (h : Good p) : ∀ x ∈ hL p, x ≠ 10 ∧ x ≠ 13 := by
  intro x hx
  rw [hL, List.mem_append, List.mem_cons, List.mem_cons] at hx
  rcases hx with hx | rfl | rfl | hx
  · have := name_bytes h.1 x hx; exact ⟨this.1, this.2.1⟩
  · decide
  · decide
  · exact value_bytes h.2 x hx
theorem hL_head {p : ByteArray × ByteArray} (h : Good p) : ∃ z t, hL p = z :: t ∧ z ≠ 32 := by
  have h1 := (name_size h.1).1
  cases e : p.1.data.toList with
  | nil => have : p.1.data.toList.length = p.1.size := rfl; rw [e] at this; simp at this; omega
  | cons z t => exact ⟨z, t ++ 58 :: 32 :: p.2.data.toList, by rw [hL, e]; rfl, (name_bytes h.1 z (by rw [e]; exact List.mem_cons_self ..)).2.2.2⟩
theorem hL_full {p : ByteArray × ByteArray} (h : Good p) : hL p ≠ [] ∧ 10 ∉ hL p := by
  obtain ⟨z, t, e, _⟩ := hL_head h
  exact ⟨by rw [e]; simp, fun hx => (hL_bytes h 10 hx).1 rfl⟩
/-- A header's lines, folded. -/
def hls (p : ByteArray × ByteArray) : List (List UInt8) := foldF (hL p) :: (foldQ (hL p)).map fun q => 32 :: q
theorem hText_eq (p : ByteArray × ByteArray) : hText p = joinCR (hls p) := by
  have e : hls p = (pfoldL (hLine p)).map fun a => a.data.toList := by rw [pfold_lists, hL_eq]; rfl
  rw [hText, lnText, e, joinCR, List.flatMap_map]
theorem foldF_head {p : ByteArray × ByteArray} (h : Good p) : ∃ z t, foldF (hL p) = z :: t ∧ z ≠ 32 := by
  obtain ⟨z, t, e, hz⟩ := hL_head h
  exact ⟨z, t.take 71, by rw [foldF, e, List.take_succ_cons], hz⟩
theorem hls_bytes {p : ByteArray × ByteArray} (h : Good p) : ∀ l ∈ hls p, 10 ∉ l ∧ 13 ∉ l ∧ l.length ≤ 72 ∧ l ≠ [] := by
  intro l hl
  rcases List.mem_cons.1 hl with rfl | hl
  · obtain ⟨z, t, e, _⟩ := foldF_head h
    exact ⟨fun hx => (hL_bytes h _ (List.mem_of_mem_take hx)).1 rfl, fun hx => (hL_bytes h _ (List.mem_of_mem_take hx)).2 rfl, by rw [foldF, List.length_take]; omega, by rw [e]; simp⟩
  · obtain ⟨q, hq, rfl⟩ := List.mem_map.1 hl
    obtain ⟨h1, h2, h3⟩ := foldQ_mem _ q hq
    refine ⟨fun hx => ?_, fun hx => ?_, by simp; omega, by simp⟩
    · rcases List.mem_cons.1 hx with e | hx
      · cases e
      · exact (hL_bytes h _ (h3 _ hx)).1 rfl
    · rcases List.mem_cons.1 hx with e | hx
      · cases e
      · exact (hL_bytes h _ (h3 _ hx)).2 rfl
/-- A section's lines. -/
def secLs (s : Sec) : List (List UInt8) := s.flatMap hls ++ [[]]
theorem joinCR_flat {α : Type} (f : α → List (List UInt8)) : ∀ l : List α, (l.flatMap fun a => joinCR (f a)) = joinCR (l.flatMap f)
  | [] => rfl
  | a :: l => by rw [List.flatMap_cons, List.flatMap_cons, joinCR_app, joinCR_flat f l]
theorem secText_eq (s : Sec) : secText s = joinCR (secLs s) := by
  have e : s.flatMap hText = s.flatMap fun p => joinCR (hls p) := by congr 1; funext p; exact hText_eq p
  rw [secText, secLs, joinCR_app, e, joinCR_flat]
  rfl
theorem manText_eq (main : Sec) (ps : List Sec) : manText main ps = joinCR ((main :: ps).flatMap secLs) := by
  have e : (main :: ps).flatMap secText = (main :: ps).flatMap fun s => joinCR (secLs s) := by congr 1; funext s; exact secText_eq s
  rw [← joinCR_flat, ← e, manText, List.flatMap_cons]
/-- Sections of headers that may be. -/
def Goods (ss : List Sec) : Prop := ∀ s ∈ ss, s ≠ [] ∧ ∀ p ∈ s, Good p
theorem secLs_bytes {s : Sec} (h : ∀ p ∈ s, Good p) : ∀ l ∈ secLs s, 10 ∉ l ∧ 13 ∉ l := by
  intro l hl
  rcases List.mem_append.1 hl with hl | hl
  · obtain ⟨p, hp, hl⟩ := List.mem_flatMap.1 hl
    have := hls_bytes (h p hp) l hl
    exact ⟨this.1, this.2.1⟩
  · rw [List.mem_singleton.1 hl]; exact ⟨by simp, by simp⟩
theorem wr_sec {r : List (List UInt8)} (hr : ∀ b, wr b r = 0) : ∀ (s : Sec) (a : List UInt8), (∀ p ∈ s, Good p) → wr a (s.flatMap hls ++ [] :: r) = 0
  | [], a, _ => wr_empty hr a
  | p :: s, a, h => by
    have hp := h p (List.mem_cons_self ..)
    obtain ⟨z, t, e, hz⟩ := foldF_head hp
    have hh := hls_bytes hp
    rw [List.flatMap_cons, List.append_assoc]
    refine wr_head (fun b => wr_sec hr s b fun x hx => h x (List.mem_cons_of_mem _ hx)) (foldF (hL p)) _ (hh _ (List.mem_cons_self ..)).2.2.1 (hh _ (List.mem_cons_self ..)).2.2.2 (by rw [e]; simpa using hz) (fun l hl => ?_) a
    exact (hh l (List.mem_cons_of_mem _ hl)).2.2
theorem wr_all : ∀ (ss : List Sec) (a : List UInt8), Goods ss → wr a (ss.flatMap secLs) = 0
  | [], _, _ => rfl
  | s :: ss, a, h => by
    rw [List.flatMap_cons, secLs, List.append_assoc]
    exact wr_sec (fun b => wr_all ss b fun x hx => h x (List.mem_cons_of_mem _ hx)) s a (h s (List.mem_cons_self ..)).2
theorem head_hls {r : List UInt8} (hr : r.head? ≠ some 32) : ∀ s : Sec, (∀ p ∈ s, Good p) → (joinN (s.flatMap hls) ++ r).head? ≠ some 32
  | [], _ => hr
  | p :: s, h => by
    obtain ⟨z, t, e, hz⟩ := foldF_head (h p (List.mem_cons_self ..))
    rw [List.flatMap_cons, hls, e, List.cons_append, joinN_cons]
    simpa using hz
theorem sc_sec {r : List UInt8} (hr : r.head? ≠ some 32) : ∀ s : Sec, (∀ p ∈ s, Good p) → sc 10 32 [] (joinN (s.flatMap hls) ++ r) = joinN (s.map hL) ++ sc 10 32 [] r
  | [], _ => rfl
  | p :: s, h => by
    have hp := h p (List.mem_cons_self ..)
    have ht := fun x hx => h x (List.mem_cons_of_mem p hx)
    have e : joinN ((p :: s).flatMap hls) ++ r = foldF (hL p) ++ 10 :: (joinN ((foldQ (hL p)).map fun q => 32 :: q) ++ (joinN (s.flatMap hls) ++ r)) := by
      rw [List.flatMap_cons, hls, List.cons_append, joinN_cons, joinN_app]; simp
    have hq : ∀ q ∈ foldQ (hL p), 10 ∉ q := fun q hq hx => (hL_bytes hp _ ((foldQ_mem _ q hq).2.2 _ hx)).1 rfl
    rw [e, sc_folds (head_hls hr s ht) (foldQ (hL p)) (foldF (hL p)) (hls_bytes hp _ (List.mem_cons_self ..)).1 hq, fold_whole, sc_sec hr s ht, List.map_cons, joinN_cons]
    simp
theorem head_secs : ∀ ss : List Sec, Goods ss → (joinN (ss.flatMap secLs)).head? ≠ some 32
  | [], _ => by simp [joinN]
  | s :: ss, h => by
    rw [List.flatMap_cons, secLs, joinN_app, joinN_app, List.append_assoc]
    exact head_hls (by simp [joinN]) s (h s (List.mem_cons_self ..)).2
theorem sc_all : ∀ ss : List Sec, Goods ss → sc 10 32 [] (joinN (ss.flatMap secLs)) = ss.flatMap fun s => sj (s.map hL) ++ [10, 10]
  | [], _ => by rw [List.flatMap_nil, List.flatMap_nil, joinN, List.flatMap_nil, sc]
  | s :: ss, h => by
    obtain ⟨h1, h2⟩ := h s (List.mem_cons_self ..)
    have ht : Goods ss := fun x hx => h x (List.mem_cons_of_mem _ hx)
    have e : joinN ((s :: ss).flatMap secLs) = joinN (s.flatMap hls) ++ (10 :: joinN (ss.flatMap secLs)) := by
      rw [List.flatMap_cons, secLs, joinN_app, joinN_app, List.append_assoc]; rfl
    obtain ⟨p, s', rfl⟩ := List.exists_cons_of_ne_nil h1
    rw [e, sc_sec (by simp) _ h2, sc_miss _ (head_secs ss ht), sc_all ss ht, List.flatMap_cons, List.map_cons, joinN_sj]
    simp
theorem full_hL {s : Sec} (h : ∀ p ∈ s, Good p) : Full (s.map hL) := by
  intro l hl
  obtain ⟨p, hp, rfl⟩ := List.mem_map.1 hl
  exact hL_full (h p hp)
theorem flat_len (f : Sec → List UInt8) : ∀ ss : List Sec, ss.length ≤ (ss.flatMap fun s => f s ++ [10, 10]).length
  | [] => Nat.le_refl _
  | s :: ss => by
    have := flat_len f ss
    rw [List.flatMap_cons]; simp only [List.length_append, List.length_cons] at this ⊢; omega
theorem spl_all (ss : List Sec) (h : Goods ss) : splL [10, 10] (ss.flatMap fun s => sj (s.map hL) ++ [10, 10]) = ss.map (fun s => sj (s.map hL)) ++ [[]] := by
  have := spl_secs (ss.map fun s => s.map hL) (ss.flatMap fun s => sj (s.map hL) ++ [10, 10]).length (fun g hg => by
    obtain ⟨s, hs, rfl⟩ := List.mem_map.1 hg
    exact ⟨by simpa using (h s hs).1, full_hL (h s hs).2⟩) (by rw [List.length_map]; exact flat_len _ ss)
  rw [List.flatMap_map, List.map_map] at this
  exact this
theorem cut_hL {p : ByteArray × ByteArray} (h : Good p) : Lib.cut (hL p) [58, 32] = (p.1.data.toList, p.2.data.toList, true) := by
  have hi := index_ahead (c := 58) (sub := [32]) (t := 58 :: 32 :: p.2.data.toList) (k := 0) (by simp [Lib.index, List.isPrefixOf]) p.1.data.toList (fun hx => (name_bytes h.1 _ hx).2.2.1 rfl)
  unfold Lib.cut
  rw [hL, hi, if_pos (by omega)]
  have e : ((p.1.data.toList.length + 0 : Nat) : Int).toNat = p.1.data.toList.length := by omega
  rw [e]
  have e2 : p.1.data.toList ++ 58 :: 32 :: p.2.data.toList = (p.1.data.toList ++ [58, 32]) ++ p.2.data.toList := by simp
  have e3 : (p.1.data.toList ++ 58 :: 32 :: p.2.data.toList).drop (p.1.data.toList.length + [(58 : UInt8), 32].length) = p.2.data.toList := by
    rw [e2, ← List.length_append, List.drop_left]
  rw [e3, List.take_left]
theorem pairL_hL {p : ByteArray × ByteArray} (h : Good p) : pairL (hL p) = p := by
  rw [pairL, cut_hL h, tx_data, tx_data]
theorem psL_back (first : ByteArray) : ∀ (s acc : Sec), secErr first (smNames acc) s = 0 → psL first acc (s.map hL) = (0, acc ++ s)
  | [], acc, _ => by rw [List.map_nil, psL, List.append_nil]
  | p :: s, acc, h => by
    have hg := secErr_good (p :: s) _ h p (List.mem_cons_self ..)
    rw [secErr] at h
    by_cases hq : judgeM first (smNames acc) p = 0
    · rw [if_pos hq, ← smNames_snoc] at h
      have e : ps1 first acc (hL p) = 0 := by rw [ps1, if_neg (by rw [cut_hL hg]; simp), pairL_hL hg, hq]
      rw [List.map_cons, psL, if_pos e, pairL_hL hg, psL_back first s _ h, List.append_assoc, List.singleton_append]
    · rw [if_neg hq] at h; exact absurd h hq
theorem psF_one {acc : List Sec} {s : Sec} {r : List (List UInt8)} (hs : s ≠ []) (h : secErr (fstOf acc) [] s = 0) : psF acc (sj (s.map hL) :: r) = psF (acc ++ [s]) r := by
  have hg := secErr_good s _ h
  obtain ⟨p, s', rfl⟩ := List.exists_cons_of_ne_nil hs
  have hf : Full (hL p :: s'.map hL) := full_hL hg
  obtain ⟨z, t, e, _⟩ := sj_head _ _ hf
  have ht := trim_sj _ _ hf
  rw [psF, List.map_cons, ht, if_neg (by rw [e]; simp), spl_sj _ _ hf]
  have := psL_back (fstOf acc) (p :: s') [] h
  rw [List.map_cons] at this
  rw [this, if_pos rfl, List.nil_append]
theorem psF_parts : ∀ (ps acc : List Sec), acc ≠ [] → (∀ s ∈ ps, s ≠ [] ∧ secErr partF [] s = 0) → psF acc (ps.map (fun s => sj (s.map hL)) ++ [[]]) = (0, acc ++ ps)
  | [], acc, _, _ => by
    rw [List.map_nil, List.nil_append, psF, if_pos (by rfl), psF, List.append_nil]
  | s :: ps, acc, ha, h => by
    obtain ⟨h1, h2⟩ := h s (List.mem_cons_self ..)
    rw [List.map_cons, List.cons_append, psF_one h1 (by rw [fstOf, if_neg ha]; exact h2), psF_parts ps (acc ++ [s]) (by simp) fun x hx => h x (List.mem_cons_of_mem _ hx)]
    simp
theorem secRes_ok {first : ByteArray} {s : Sec} (h : secRes first s = 0) : s ≠ [] ∧ secErr first [] s = 0 := by
  unfold secRes at h
  split at h
  · cases h
  · exact ⟨by assumption, h⟩
theorem partsErr_ok : ∀ ps : List Sec, partsErr ps = 0 → ∀ s ∈ ps, s ≠ [] ∧ secErr partF [] s = 0
  | [], _, _, hs => by cases hs
  | p :: ps, h, s, hs => by
    rw [partsErr] at h
    by_cases hp : secRes partF p = 0
    · rw [if_pos hp] at h
      rcases List.mem_cons.1 hs with rfl | hs
      · exact secRes_ok hp
      · exact partsErr_ok ps h s hs
    · rw [if_neg hp] at h; exact absurd h hp
theorem manErr_ok {main : Sec} {ps : List Sec} (h : manErr main ps = 0) : (main ≠ [] ∧ secErr mainF [] main = 0) ∧ ∀ s ∈ ps, s ≠ [] ∧ secErr partF [] s = 0 := by
  unfold manErr at h
  by_cases hp : secRes mainF main = 0
  · rw [if_pos hp] at h
    exact ⟨secRes_ok hp, partsErr_ok ps h⟩
  · rw [if_neg hp] at h; exact absurd h hp
/-- WHAT IS PRINTED IS READ AS THE SAME. -/
theorem parse_print (main : Sec) (ps : List Sec) (h : manErr main ps = 0) (hl : (manText main ps).length ≤ 16777216) : parseP (manText main ps) = (0, main :: ps) := by
  obtain ⟨⟨h1, h2⟩, h3⟩ := manErr_ok h
  have hg : Goods (main :: ps) := by
    intro s hs
    rcases List.mem_cons.1 hs with rfl | hs
    · exact ⟨h1, secErr_good _ _ h2⟩
    · exact ⟨(h3 s hs).1, secErr_good _ _ (h3 s hs).2⟩
  have hb : ∀ l ∈ (main :: ps).flatMap secLs, 10 ∉ l ∧ 13 ∉ l := by
    intro l hl
    obtain ⟨s, hs, hl⟩ := List.mem_flatMap.1 hl
    exact secLs_bytes (hg s hs).2 l hl
  have e1 : Lib.replaceAll (manText main ps) [13, 10] [10] = joinN ((main :: ps).flatMap secLs) := by
    rw [all_sc _ _ _ _ (by simp), manText_eq, sc_joinCR _ fun l hl => (hb l hl).2]
  have e2 : Lib.replaceAll (joinN ((main :: ps).flatMap secLs)) [10, 32] [] = (main :: ps).flatMap fun s => sj (s.map hL) ++ [10, 10] := by
    rw [all_sc _ _ _ _ (by simp), sc_all _ hg]
  have e3 : wrongL [] (lnL (joinN ((main :: ps).flatMap secLs))) = 0 := by
    rw [lnL_joinN _ fun l hl => (hb l hl).1]
    exact wr_all _ [] hg
  have e4 : Lib.hasSuffix (joinN ((main :: ps).flatMap secLs)) [10] = true := joinN_ends _ (by simp [secLs])
  rw [parseP, if_neg (by omega), e1, if_neg (by rw [e4]; simp), if_neg (by rw [e3]; simp), e2, spl_all _ hg]
  have e5 : psF [] ((main :: ps).map (fun s => sj (s.map hL)) ++ [[]]) = (0, main :: ps) := by
    rw [List.map_cons, List.cons_append, psF_one h1 (by rw [fstOf, if_pos rfl]; exact h2), psF_parts ps _ (by simp) h3]
    simp
  rw [psAll, e5, if_neg (by simp)]
end Go.Proofs.YteadhiehhpafjaaDoor
