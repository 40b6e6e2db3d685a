/-
  What is printed of a section: mathematics, and memory beside a buffer. Conditions: none. Nothing of the program's walks stands here.
-/
import Derived.Test.YteadhiehhpafjaaDoorNJ
namespace Go.Proofs.YteadhiehhpafjaaDoor
open Go Go.RowKit
set_option maxRecDepth 100000

/-- Lines, each with its end. -/
def lnText (ls : List ByteArray) : List UInt8 := ls.flatMap fun l => l.data.toList ++ [13, 10]
/-- A header's line. -/
def hLine (p : ByteArray × ByteArray) : ByteArray := p.1 ++ ⟨#[58, 32]⟩ ++ p.2
def hText (p : ByteArray × ByteArray) : List UInt8 := lnText (pfoldL (hLine p))
def secText (l : List (ByteArray × ByteArray)) : List UInt8 := l.flatMap hText ++ [13, 10]
/-- The first error of a section's headers. -/
def secErr (first : ByteArray) : List ByteArray → List (ByteArray × ByteArray) → Int
  | _, [] => 0
  | S, p :: ps => if judgeM first S p = 0 then secErr first (S ++ [smallM p.1]) ps else judgeM first S p
def secRes (first : ByteArray) (l : List (ByteArray × ByteArray)) : Int := if l = [] then 2 else secErr first [] l
/-- The small names of headers. -/
def smNames (l : List (ByteArray × ByteArray)) : List ByteArray := l.map fun p => smallM p.1

theorem smNames_snoc (l : List (ByteArray × ByteArray)) (p : ByteArray × ByteArray) : smNames (l ++ [p]) = smNames l ++ [smallM p.1] := by simp [smNames]
/-- All headers ahead of that place are right. -/
theorem secErr_app (first : ByteArray) : ∀ (l : List (ByteArray × ByteArray)) (S : List ByteArray) (r : List (ByteArray × ByteArray)), secErr first S l = 0 → secErr first S (l ++ r) = secErr first (S ++ smNames l) r
  | [], S, r, _ => by simp [smNames]
  | p :: l, S, r, h => by
    rw [secErr] at h
    by_cases hj : judgeM first S p = 0
    · rw [if_pos hj] at h
      rw [List.cons_append, secErr, if_pos hj, secErr_app first l _ r h]
      simp [smNames]
    · rw [if_neg hj] at h; exact absurd h hj
theorem secErr_take (first : ByteArray) (l : List (ByteArray × ByteArray)) (k : Nat) (hk : k < l.length) (h : secErr first [] (l.take k) = 0) :
    secErr first [] l = if judgeM first (smNames (l.take k)) l[k] = 0 then secErr first (smNames (l.take k) ++ [smallM l[k].1]) (l.drop (k + 1)) else judgeM first (smNames (l.take k)) l[k] := by
  have e : l = l.take k ++ (l[k] :: l.drop (k + 1)) := by rw [← List.drop_eq_getElem_cons hk, List.take_append_drop]
  have := secErr_app first (l.take k) [] (l[k] :: l.drop (k + 1)) h
  rw [← e, secErr] at this
  simpa using this
theorem take_next {α : Type} (l : List α) (k : Nat) (hk : k < l.length) : l.take (k + 1) = l.take k ++ [l[k]] := by
  rw [List.take_add_one, List.getElem?_eq_getElem hk]; rfl
theorem secErr_next (first : ByteArray) (l : List (ByteArray × ByteArray)) (k : Nat) (hk : k < l.length) (h : secErr first [] (l.take k) = 0) (hj : judgeM first (smNames (l.take k)) l[k] = 0) : secErr first [] (l.take (k + 1)) = 0 := by
  rw [take_next l k hk, secErr_app first _ _ _ h]
  simp [secErr, hj]

theorem pieceOf_size (s : ByteArray) (n : Nat) (x : Nat × Nat) (h : x ∈ chF 71 (s.size - 72) n 0) : (pieceOf s x).size ≤ 72 := by
  obtain ⟨h1, h2, h3⟩ := chF_mem 71 (s.size - 72) (by decide) _ _ _ h
  have hb1 : (⟨#[32]⟩ : ByteArray).size = 1 := rfl
  rw [pieceOf, ByteArray.size_append, hb1, ByteArray.size_extract]; omega
theorem pfoldL_size (s : ByteArray) : ∀ x ∈ pfoldL s, x.size ≤ 72 := by
  intro x hx
  rcases List.mem_cons.1 hx with rfl | hx
  · rw [ByteArray.size_extract]; omega
  · obtain ⟨y, hy, rfl⟩ := List.mem_map.1 hx
    exact pieceOf_size s _ y hy
theorem pfoldL_length (s : ByteArray) : (pfoldL s).length ≤ s.size + 1 := by
  have := chF_length 71 (s.size - 72) (s.size - 72) 0
  simp [pfoldL]; omega
theorem pfoldL_pos (s : ByteArray) : 0 < (pfoldL s).length := by simp [pfoldL]
theorem lnText_length (ls : List ByteArray) (h : ∀ x ∈ ls, x.size ≤ 72) : (lnText ls).length ≤ 74 * ls.length := by
  induction ls with
  | nil => simp [lnText]
  | cons a ls ih =>
    have h1 := h a (by simp)
    have h2 := ih (fun x hx => h x (by simp [hx]))
    have e : lnText (a :: ls) = a.data.toList ++ [13, 10] ++ lnText ls := rfl
    have h3 : a.data.toList.length = a.size := by simp
    rw [e, List.length_append, List.length_append, List.length_cons]
    simp only [List.length_cons, List.length_nil]
    omega
theorem lnText_snoc (ls : List ByteArray) (a : ByteArray) : lnText (ls ++ [a]) = lnText ls ++ (a.data.toList ++ [13, 10]) := by simp [lnText]
theorem hLine_size (p : ByteArray × ByteArray) : (hLine p).size = p.1.size + 2 + p.2.size := by
  have h2 : (⟨#[58, 32]⟩ : ByteArray).size = 2 := rfl
  rw [hLine, ByteArray.size_append, ByteArray.size_append, h2]
theorem hText_length (p : ByteArray × ByteArray) : (hText p).length ≤ 74 * (p.1.size + p.2.size + 3) := by
  have h1 := lnText_length (pfoldL (hLine p)) (pfoldL_size _)
  have h2 := pfoldL_length (hLine p)
  rw [hLine_size] at h2
  unfold hText
  omega
theorem hTexts_length (l : List (ByteArray × ByteArray)) (hl : ∀ p ∈ l, p.1.size ≤ 100000 ∧ p.2.size ≤ 100000) : (l.flatMap hText).length ≤ 15000000 * l.length := by
  induction l with
  | nil => simp
  | cons p l ih =>
    have h1 := hl p (by simp)
    have h2 := ih (fun q hq => hl q (by simp [hq]))
    have h3 := hText_length p
    rw [List.flatMap_cons, List.length_append, List.length_cons]
    omega

/-- The blocks that a buffer's writes may change. -/
def S5 (w : World) (b : Nat) : Nat → Prop := fun k => k = b ∨ ∃ cs fz, w.heap[k]? = some (.cells cs 5 fz)
theorem only_others {B b : Nat} {w w' : World} (hb : Below B w w') (ho : Lib.OthersKept 5 (some b) w w') : Only (S5 w b) w w' :=
  ⟨hb.os, hb.tape, hb.output, hb.size, fun k hk hn => by
    have h1 : w.heap[k]? = some w.heap[k] := Array.getElem?_eq_getElem hk
    rw [h1]
    exact ho k _ h1 (fun h => hn (.inl (by injection h))) (fun c fz h => hn (.inr ⟨c, fz, h ▸ h1⟩))⟩
theorem s5_whole {w : World} {b g : Nat} {t : TypeId} {cs : Array Value} (h : Whole w g t cs) (hg : g ≠ b) (ht : t ≠ 5) : ¬ S5 w b g := by
  rintro (h' | ⟨cs', fz, h'⟩)
  · exact hg h'
  · unfold Whole at h
    rw [h] at h'
    injection h' with h'
    injection h' with _ e
    exact ht e
theorem s5_set {w : World} {b M : Nat} {l : List ByteArray} (h : SetAt w M l) (hg : M ≠ b) : ¬ S5 w b M := by
  rintro (h' | ⟨cs', fz, h'⟩)
  · exact hg h'
  · obtain ⟨es, clock, hb, _⟩ := h
    rw [hb] at h'
    cases h'
theorem buf_ne {w : World} {B b g : Nat} {t : TypeId} {cs : Array Value} {bs : List Value} (hb : Lib.IsBuffer 60 5 B b bs w) (h : Whole w g t cs) (ht : t ≠ 60) : g ≠ b := by
  rintro rfl
  obtain ⟨_, v, lr, h1, _⟩ := hb
  unfold Whole at h
  rw [h] at h1
  injection h1 with h1
  injection h1 with _ e
  exact ht e
theorem buf_ne_set {w : World} {B b M : Nat} {bs : List Value} {l : List ByteArray} (hb : Lib.IsBuffer 60 5 B b bs w) (h : SetAt w M l) : M ≠ b := by
  rintro rfl
  obtain ⟨_, v, lr, h1, _⟩ := hb
  obtain ⟨es, clock, h2, _⟩ := h
  rw [h1] at h2
  cases h2
theorem JudgeAt.written {w w' : World} {B b g M c : Nat} {first : ByteArray} {l : List ByteArray} {bs : List Value} (h : JudgeAt w g M c first l) (hB : Lib.IsBuffer 60 5 B b bs w) (hb : Below B w w') (ho : Lib.OthersKept 5 (some b) w w') : JudgeAt w' g M c first l :=
  h.only (only_others hb ho) (s5_whole h.fst (buf_ne hB h.fst (by decide)) (by decide)) (s5_set h.set (buf_ne_set hB h.set)) (s5_whole h.ptr (buf_ne hB h.ptr (by decide)) (by decide))
theorem own_written {w w' : World} {B b base n : Nat} {v : Value} {xs bs : List Value} (h : w.ownsRow base 9 1 v n xs) (hB : Lib.IsBuffer 60 5 B b bs w) (hb : Below B w w') (ho : Lib.OthersKept 5 (some b) w w') : w'.ownsRow base 9 1 v n xs :=
  own_only h (only_others hb ho) (fun k hk => by
    obtain ⟨_, cs, hw⟩ := own_whole h hk
    exact s5_whole hw (buf_ne hB hw (by decide)) (by decide))
theorem byteCells_one (l : List UInt8) : ∀ v ∈ Lib.byteCells l, v.oneCell' = true := by
  intro v hv
  obtain ⟨x, _, rfl⟩ := List.mem_map.1 hv
  rfl
theorem byteCells_app (a b : List UInt8) : Lib.byteCells (a ++ b) = Lib.byteCells a ++ Lib.byteCells b := by simp [Lib.byteCells]
/-- A buffer that holds these bytes. -/
def BufAt (B b : Nat) (l : List UInt8) (w : World) : Prop := Lib.IsBuffer 60 5 B b (Lib.byteCells l) w
/-- A write's outcome. -/
def Writes (w : World) (B b : Nat) (l : List UInt8) (s : ByteArray) (e : Ending) (w' : World) : Prop :=
  e = .returned (.tuple #[.int .i64 s.size, .nilIface]) ∧ BufAt B b (l ++ s.data.toList) w' ∧ Below B w w' ∧ Lib.OthersKept 5 (some b) w w'
theorem write_any (B b : Nat) (l : List UInt8) (s : ByteArray) (w : World) (h : BufAt B b l w) (hB : B ≤ w.heap.size) (hl : l.length + s.size ≤ 140737488355328) :
    Calls Tryd.prog 45 #[.pointer (some ⟨b, 0, none⟩), .string s] w (Writes w B b l s) :=
  (Tryd.Buffer_WriteString_k B b (Lib.byteCells l) s w h hB (byteCells_one l) (by rw [Lib.byteCells_length]; exact hl)).mono fun _ _ ⟨h1, h2, h3, h4⟩ => ⟨h1, by unfold BufAt; rw [byteCells_app]; exact h2, h3, h4⟩
end Go.Proofs.YteadhiehhpafjaaDoor
