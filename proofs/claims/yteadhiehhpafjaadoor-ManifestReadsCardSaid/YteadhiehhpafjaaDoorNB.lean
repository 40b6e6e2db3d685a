/-
  A text's bytes in a row of their own; the program's Name and small. Conditions: small: a text of less than four thousand million bytes.
-/
import Derived.Test.YteadhiehhpafjaaDoorNA
import Derived.Lib.ConvBytes
import Derived.Laws.IdiomStrings
namespace Go.Proofs.YteadhiehhpafjaaDoor
open Go.RowKit
set_option maxRecDepth 100000

/-- Block g is a row made of a text: its first cells are these bytes. -/
def Bys (w : World) (g : Nat) (l : List UInt8) (c : Nat) : Prop :=
  ∃ cs : Array Value, w.heap[g]? = some (.cells cs 5 (cs.size, cs.size + 1)) ∧ cs.size = c ∧ l.length ≤ c ∧ ∀ (j : Nat) (b : UInt8), l[j]? = some b → cs[j]? = some (Value.int .u8 b.toNat)
theorem Bys.lt {w : World} {g c : Nat} {l : List UInt8} (h : Bys w g l c) : g < w.heap.size := by
  obtain ⟨cs, h1, _⟩ := h
  exact (Array.getElem?_eq_some_iff.1 h1).1
theorem Bys.block {w w' : World} {g c : Nat} {l : List UInt8} (h : Bys w g l c) (hk : w'.heap[g]? = w.heap[g]?) : Bys w' g l c := by
  obtain ⟨cs, h1, h2, h3, h4⟩ := h
  exact ⟨cs, hk.trans h1, h2, h3, h4⟩
theorem Bys.cell {w : World} {g c : Nat} {l : List UInt8} (h : Bys w g l c) (j : Nat) (hj : j < l.length) : w.cell? ⟨g, j, none⟩ = some (Value.int .u8 l[j].toNat) := by
  obtain ⟨cs, h1, h2, h3, h4⟩ := h
  rw [cell_of_row w g j cs 5 _ h1]
  exact h4 j _ (List.getElem?_eq_getElem hj)
theorem Bys.frozen {w : World} {g c : Nat} {l : List UInt8} (h : Bys w g l c) (j : Nat) (hj : j < c) : w.frozen? ⟨g, j, none⟩ = false := by
  obtain ⟨cs, h1, h2, h3, h4⟩ := h
  simp [World.frozen?, h1]; omega
theorem Bys.put {w : World} {g c : Nat} {l : List UInt8} (h : Bys w g l c) (i : Nat) (b : UInt8) (hi : i < l.length) : Bys (w.setCell ⟨g, i, none⟩ (Value.int .u8 b.toNat)) g (l.set i b) c := by
  obtain ⟨cs, h1, h2, h3, h4⟩ := h
  refine ⟨cs.setIfInBounds i (Value.int .u8 b.toNat), ?_, by simpa using h2, by simpa using h3, fun j x hx => ?_⟩
  · simp [World.setCell, Array.getElem?_modify, h1]
  · rw [List.getElem?_set] at hx
    rw [Array.getElem?_setIfInBounds]
    split at hx
    · rename_i hij
      subst hij
      rw [if_pos rfl, if_pos (by omega)]
      injection hx with hx; rw [hx]
    · rename_i hij
      rw [if_neg hij]; exact h4 j x hx
theorem Bys.conv {w : World} {g c cap : Nat} {l : List UInt8} (h : Bys w g l c) (n : Nat) (hn : l.length = n) : (convert 22 9 (.slice (some ⟨g, 0, none⟩) n cap)).run Tryd.prog w = .ok (.string ⟨l.toArray⟩) w := by
  subst hn
  refine run_convert_bytes_back w 22 9 5 _ cap l Tryd.underlying22 Tryd.underlying5 Tryd.underlying9 (fun j hj => ?_)
  have := h.cell j hj
  rw [Addr.add_lit, Nat.zero_add]; exact this
theorem bys_new (w : World) (s : ByteArray) : Bys (Lib.bytesWorld w 5 s) w.heap.size s.data.toList (grownCap w s.size 0 5) ∧ Below w.heap.size w (Lib.bytesWorld w 5 s) ∧ s.size ≤ grownCap w s.size 0 5 ∧ (Lib.bytesWorld w 5 s).heap.size = w.heap.size + 1 := by
  have hsz : (Lib.bytesCells w 5 s).size = s.size + (grownCap w s.size 0 5 - s.size) := by
    simp only [Lib.bytesCells, Array.size_append, Array.size_map, Array.size_replicate]; rfl
  have hle : s.size ≤ grownCap w s.size 0 5 := grownCap_ge w s.size 0 5
  have hl : s.data.toList.length = s.size := by simp
  refine ⟨⟨Lib.bytesCells w 5 s, Lib.bytesWorld_at_new w 5 s, by omega, by omega, fun j b hb => ?_⟩, ⟨?_, ?_, ?_, ?_, fun i hi => Lib.bytesWorld_at_old w 5 s i hi⟩, hle, Lib.bytesWorld_size w 5 s⟩
  · have hj : j < s.data.size := by have := (List.getElem?_eq_some_iff.1 hb).1; simpa using this
    simp only [Lib.bytesCells, Array.getElem?_append, Array.size_map, hj, if_true, Array.getElem?_map]
    rw [Array.getElem?_toList] at hb
    rw [hb]; rfl
  · simp [Lib.bytesWorld, World.freeze, World.alloc, World.drew, -World.alloc_eq, -World.drew_eq]
  · simp [Lib.bytesWorld, World.freeze, World.alloc, World.drew, -World.alloc_eq, -World.drew_eq]
  · simp [Lib.bytesWorld, World.freeze, World.alloc, World.drew, -World.alloc_eq, -World.drew_eq]
  · rw [Lib.bytesWorld_size]; omega
theorem bys_conv (w : World) (s : ByteArray) : (convert 9 22 (.string s)).run Tryd.prog w = .ok (.slice (some ⟨w.heap.size, 0, none⟩) s.size (grownCap w s.size 0 5)) (Lib.bytesWorld w 5 s) :=
  Lib.run_convert_string_bytes (P := Tryd.prog) w 9 22 5 s Tryd.underlying9 Tryd.underlying22 Tryd.underlying5
end Go.Proofs.YteadhiehhpafjaaDoor
