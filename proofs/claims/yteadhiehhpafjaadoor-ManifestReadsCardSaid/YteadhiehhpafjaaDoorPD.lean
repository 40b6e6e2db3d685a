/-
  Mathematics of a manifest's text: what was read may be printed, and is not long. Nothing of the program's memory.
-/
import Derived.Test.YteadhiehhpafjaaDoorPC
namespace Go.Proofs.YteadhiehhpafjaaDoor
open Go Go.RowKit
set_option maxRecDepth 100000

def wt (s : Sec) : Nat := (s.map fun p => p.1.size + p.2.size + 3).sum
def wts (ss : List Sec) : Nat := (ss.map fun s => wt s + 1).sum
def ws (c : Nat) (ls : List (List UInt8)) : Nat := (ls.map fun l => l.length + c).sum
theorem ws_spl (sep : List UInt8) : ∀ (k : Nat) (s : List UInt8), ws sep.length (splF sep k s) = s.length + sep.length
  | 0, s => by simp [splF, ws]
  | k + 1, s => by
    rw [splF]
    split
    · simp [ws]
    · rename_i h
      have hge := Lib.index_ge s sep
      have hr := Lib.index_room s sep (by omega)
      have ih := ws_spl sep k (s.drop ((Lib.index s sep).toNat + sep.length))
      unfold ws at ih ⊢
      rw [List.map_cons, List.sum_cons, ih, List.length_take, List.length_drop]
      omega
theorem pairL_size {l : List UInt8} (h : (Lib.cut l [58, 32]).2.2 = true) : (pairL l).1.size + (pairL l).2.size + 3 = l.length + 1 := by
  rw [pairL]
  show (tx _).size + (tx _).size + 3 = _
  rw [tx_size, tx_size]
  unfold Lib.cut at h ⊢
  split
  · rename_i h0
    have hr := Lib.index_room l [58, 32] h0
    simp only [List.length_cons, List.length_nil] at hr
    simp only [List.length_take, List.length_drop, List.length_cons, List.length_nil]
    omega
  · rename_i h0
    rw [if_neg h0] at h
    cases h
theorem psL_ok (first : ByteArray) : ∀ (ls : List (List UInt8)) (acc acc2 : Sec), psL first acc ls = (0, acc2) → ∃ s, acc2 = acc ++ s ∧ secErr first (smNames acc) s = 0 ∧ s.length = ls.length ∧ wt s = ws 1 ls
  | [], acc, acc2, h => ⟨[], by rw [psL] at h; simpa using (Prod.mk.inj h).2.symm, rfl, rfl, rfl⟩
  | l :: ls, acc, acc2, h => by
    rw [psL] at h
    split at h
    · rename_i h1
      obtain ⟨s, rfl, h2, h3, h4⟩ := psL_ok first ls _ _ h
      unfold ps1 at h1
      split at h1
      · cases h1
      rename_i hc
      refine ⟨pairL l :: s, by simp, ?_, by simp [h3], ?_⟩
      · rw [secErr, if_pos h1, ← smNames_snoc]; exact h2
      · have := pairL_size (by simpa using hc)
        unfold wt ws at h4 ⊢
        rw [List.map_cons, List.sum_cons, List.map_cons, List.sum_cons, h4, this]
    · rename_i h1
      exact absurd (Prod.mk.inj h).1 h1
/-- Sections that may stand behind others. -/
def OkS : List Sec → List Sec → Prop
  | _, [] => True
  | acc, s :: ss => (s ≠ [] ∧ secErr (fstOf acc) [] s = 0) ∧ OkS (acc ++ [s]) ss
theorem psF_ok : ∀ (xs : List (List UInt8)) (acc acc2 : List Sec), psF acc xs = (0, acc2) → ∃ ss, acc2 = acc ++ ss ∧ OkS acc ss ∧ wts ss ≤ ws 2 xs
  | [], acc, acc2, h => ⟨[], by rw [psF] at h; simpa using (Prod.mk.inj h).2.symm, trivial, Nat.le_refl _⟩
  | x :: xs, acc, acc2, h => by
    have hw : ws 2 (x :: xs) = x.length + 2 + ws 2 xs := by unfold ws; rw [List.map_cons, List.sum_cons]
    rw [psF] at h
    split at h
    · obtain ⟨ss, h1, h2, h3⟩ := psF_ok xs _ _ h
      exact ⟨ss, h1, h2, by omega⟩
    · split at h
      · rename_i h1
        obtain ⟨ss, rfl, h2, h3⟩ := psF_ok xs _ _ h
        obtain ⟨s, g1, g2, g3, g4⟩ := psL_ok (fstOf acc) (splL [10] (Lib.trimB x 10)) [] (psL (fstOf acc) [] (splL [10] (Lib.trimB x 10))).2 (Prod.ext h1 rfl)
        rw [List.nil_append] at g1
        have hs := ws_spl [10] (Lib.trimB x 10).length (Lib.trimB x 10)
        have ht := trimB_len x 10
        have hp := splF_pos [10] (Lib.trimB x 10).length (Lib.trimB x 10)
        rw [g1] at h2 ⊢
        refine ⟨s :: ss, by simp, ⟨⟨fun e => ?_, g2⟩, h2⟩, ?_⟩
        · rw [e] at g3
          unfold splL at g3
          simp at g3
          omega
        · have e : wts (s :: ss) = wt s + 1 + wts ss := by unfold wts; rw [List.map_cons, List.sum_cons]
          rw [e, hw, g4]
          simp only [List.length_cons, List.length_nil, Nat.zero_add] at hs
          unfold splL
          omega
      · rename_i h1
        exact absurd (Prod.mk.inj h).1 h1
theorem OkS.parts : ∀ (ss acc : List Sec), acc ≠ [] → OkS acc ss → partsErr ss = 0
  | [], _, _, _ => rfl
  | s :: ss, acc, ha, h => by
    obtain ⟨⟨h1, h2⟩, h3⟩ := h
    rw [fstOf, if_neg ha] at h2
    have e : secRes partF s = 0 := by rw [secRes, if_neg h1]; exact h2
    rw [partsErr, if_pos e]
    exact OkS.parts ss _ (by simp) h3
theorem OkS.full : ∀ (ss acc : List Sec), OkS acc ss → ∀ s ∈ ss, s ≠ []
  | _ :: _, _, h, s, hs => by
    rcases List.mem_cons.1 hs with rfl | hs
    · exact h.1.1
    · exact OkS.full _ _ h.2 s hs
theorem mem_wts : ∀ (ss : List Sec) (s : Sec), s ∈ ss → wt s + 1 ≤ wts ss
  | t :: ss, s, h => by
    have e : wts (t :: ss) = wt t + 1 + wts ss := by unfold wts; rw [List.map_cons, List.sum_cons]
    rcases List.mem_cons.1 h with rfl | h
    · omega
    · have := mem_wts ss s h; omega
theorem mem_wt : ∀ (s : Sec) (p : ByteArray × ByteArray), p ∈ s → p.1.size + p.2.size + 3 ≤ wt s
  | q :: s, p, h => by
    have e : wt (q :: s) = q.1.size + q.2.size + 3 + wt s := by unfold wt; rw [List.map_cons, List.sum_cons]
    rcases List.mem_cons.1 h with rfl | h
    · omega
    · have := mem_wt s p h; omega
theorem len_wt : ∀ s : Sec, 3 * s.length ≤ wt s
  | [] => Nat.le_refl _
  | q :: s => by
    have e : wt (q :: s) = q.1.size + q.2.size + 3 + wt s := by unfold wt; rw [List.map_cons, List.sum_cons]
    have := len_wt s
    rw [List.length_cons]; omega
theorem len_wts : ∀ ss : List Sec, (∀ s ∈ ss, s ≠ []) → 4 * ss.length ≤ wts ss
  | [], _ => Nat.le_refl _
  | s :: ss, h => by
    have e : wts (s :: ss) = wt s + 1 + wts ss := by unfold wts; rw [List.map_cons, List.sum_cons]
    have h1 := len_wts ss fun x hx => h x (List.mem_cons_of_mem _ hx)
    have h2 := len_wt s
    have h3 : 0 < s.length := List.length_pos_iff.2 (h s (List.mem_cons_self ..))
    rw [List.length_cons]; omega
theorem text_wt : ∀ s : Sec, (s.flatMap hText).length ≤ 74 * wt s
  | [] => Nat.le_refl _
  | q :: s => by
    have e : wt (q :: s) = q.1.size + q.2.size + 3 + wt s := by unfold wt; rw [List.map_cons, List.sum_cons]
    have h1 := text_wt s
    have h2 := hText_length q
    rw [List.flatMap_cons, List.length_append]; omega
theorem texts_wt : ∀ ss : List Sec, (ss.flatMap secText).length ≤ 74 * wts ss
  | [] => Nat.le_refl _
  | s :: ss => by
    have e : wts (s :: ss) = wt s + 1 + wts ss := by unfold wts; rw [List.map_cons, List.sum_cons]
    have h1 := texts_wt ss
    have h2 := text_wt s
    have h3 : (secText s).length = (s.flatMap hText).length + 2 := by rw [secText, List.length_append]; rfl
    rw [List.flatMap_cons, List.length_append]; omega
/-- WHAT WAS READ OF A TEXT THAT IS NOT LONG MAY BE PRINTED. -/
theorem parsed_ok {t : List UInt8} {r : List Sec} (h : parseP t = (0, r)) (ht : t.length ≤ 1500) : ∃ main ps, r = main :: ps ∧ manErr main ps = 0 ∧ Small main ∧ (∀ s ∈ ps, Small s) ∧ ps.length ≤ 500 ∧ (manText main ps).length ≤ 200000 := by
  unfold parseP at h
  split at h
  · cases (Prod.mk.inj h).1
  split at h
  · cases (Prod.mk.inj h).1
  split at h
  · rename_i h1; exact absurd (Prod.mk.inj h).1 h1
  have l1 := replaceAll_le t [13, 10] [10] (by simp)
  have l2 := replaceAll_le (Lib.replaceAll t [13, 10] [10]) [10, 32] [] (by simp)
  obtain ⟨U, hU⟩ : ∃ U, Lib.replaceAll (Lib.replaceAll t [13, 10] [10]) [10, 32] [] = U := ⟨_, rfl⟩
  rw [hU] at h l2
  unfold psAll at h
  split at h
  · cases (Prod.mk.inj h).1
  rename_i hne
  obtain ⟨ss, e, hok, hw⟩ := psF_ok _ _ _ h
  rw [List.nil_append] at e
  subst e
  have hs : ws 2 (splF [10, 10] U.length U) = U.length + 2 := ws_spl [10, 10] U.length U
  unfold splL at hw
  have hw2 : wts r ≤ 1502 := by omega
  cases r with
  | nil => exact absurd ⟨by rw [h], by rw [h]⟩ hne
  | cons main ps =>
    have hf := OkS.full _ _ hok
    obtain ⟨⟨h1, h2⟩, h3⟩ := hok
    rw [fstOf, if_pos rfl] at h2
    have hsm : ∀ s ∈ main :: ps, Small s := by
      intro s hs
      have a1 := mem_wts _ _ hs
      have a2 := len_wt s
      exact ⟨by omega, fun p hp => by have := mem_wt s p hp; exact ⟨by omega, by omega⟩⟩
    have e1 : secRes mainF main = 0 := by rw [secRes, if_neg h1]; exact h2
    have hl := len_wts _ hf
    rw [List.length_cons] at hl
    refine ⟨main, ps, rfl, by rw [manErr, if_pos e1]; exact OkS.parts ps _ (by simp) h3, hsm main (List.mem_cons_self ..), fun s hs => hsm s (List.mem_cons_of_mem _ hs), by omega, ?_⟩
    have := texts_wt (main :: ps)
    rw [List.flatMap_cons] at this
    rw [manText]
    omega
end Go.Proofs.YteadhiehhpafjaaDoor
