/-
  Texts of bytes; rows that are read. Conditions: each theorem names the range of its arguments.
-/
import Derived.Test.YtnnpiblnjflceaaU
import Derived.Test.YtnnpiblnjflceaaN
namespace Go.Proofs.Ytnnpiblnjflceaa
open Go.RowKit

/-- The text of bytes. -/
def strOf (bs : List Nat) : ByteArray := ⟨(bs.map fun n => UInt8.ofNat n).toArray⟩

theorem conv_seen {w : World} {B : Nat} {A : Option Addr} {n c : Nat} {bs : List Nat} (h : Seen w B 1 A n c (bs.map fun x : Nat => Value.int .u8 x)) :
    (convert 27 9 (.slice A n c)).run Try.prog w = .ok (.string (strOf bs)) w := by
  obtain ⟨h1, h2, h3⟩ := h
  rcases h3 with ⟨rfl, rfl⟩ | ⟨a, rfl, h3⟩
  · obtain rfl : bs = [] := List.eq_nil_of_length_eq_zero (by simp at h1; omega)
    exact run_convert_bytes_nil w 27 5 Try.underlying27 Try.underlying5 n 0 9 Try.underlying9
  · by_cases hb : bs = []
    · subst hb
      obtain rfl : n = 0 := by simpa using h1.symm
      rw [run_convert_bytes_string w 27 9 5 _ 0 c Try.underlying27 Try.underlying5 Try.underlying9, run_bytesToString w _ 0 c [] (by simpa using run_loadCells_list (P := Try.prog) w a [] (by simp))]
      rfl
    · obtain ⟨g1, g2, g3⟩ := h3 (by simpa using hb)
      obtain ⟨b, o, s⟩ := a
      simp only at g1 g2 g3
      subst g1
      have hl : bs.length = n := by simpa using h1
      have := run_convert_bytes_arg (P := Try.prog) w 27 5 Try.underlying27 Try.underlying5 b o n c (bs.map fun x : Nat => (x : Int)) (by simpa using hl) (fun i hi => by
        have hi' : i < bs.length := by omega
        rw [g3 i (.int .u8 (bs[i] : Int)) (by simp [hi'])]
        simp [List.getD, hi']) 9 Try.underlying9
      rw [this]
      simp only [strOfNums, strOf, List.map_map]
      rfl

theorem own_seen {w : World} {base : Nat} {e : TypeId} {size n : Nat} {v : Value} {xs : List Value} (h : w.ownsRow base e size v n xs) : ∃ A c, v = .slice A n c ∧ c ≤ maxLen ∧ Seen w w.heap.size size A n c xs := by
  obtain ⟨A, c, rfl, hc⟩ := own_form h
  exact ⟨A, c, rfl, hc, Seen.of_own h⟩

theorem Seen.cut {w : World} {B : Nat} {A : Option Addr} {len c q n : Nat} {xs : List Value} (h : Seen w B 1 A len c xs) (hq : q + n ≤ len) : Seen w B 1 (Option.map (fun x => x.add q) A) n (c - q) ((xs.drop q).take n) := by
  obtain ⟨h1, h2, h3⟩ := h
  refine ⟨by simp; omega, by omega, ?_⟩
  rcases h3 with ⟨rfl, rfl⟩ | ⟨⟨b, o, s⟩, rfl, h3⟩
  · exact .inl ⟨rfl, by omega⟩
  · refine .inr ⟨_, rfl, fun hx => ?_⟩
    obtain ⟨g1, g2, g3⟩ := h3 (by rintro rfl; simp at hx)
    simp only at g1 g2 g3
    subst g1
    simp only [Addr.add_lit]
    refine ⟨trivial, g2, fun j u hu => ?_⟩
    rw [Nat.add_assoc]
    refine g3 _ u ?_
    rw [List.getElem?_take] at hu
    split at hu
    · rw [← hu, List.getElem?_drop]
    · cases hu
theorem Seen.empty {w : World} {B : Nat} {A : Option Addr} {len c : Nat} {xs : List Value} (h : Seen w B 1 A len c xs) : Seen w B 1 A 0 0 [] := by
  obtain ⟨h1, h2, h3⟩ := h
  refine ⟨rfl, Nat.le_refl _, ?_⟩
  rcases h3 with ⟨rfl, _⟩ | ⟨a, rfl, h3⟩
  · exact .inl ⟨rfl, rfl⟩
  · exact .inr ⟨a, rfl, fun hx => absurd rfl hx⟩

theorem seen_nil (w : World) (B : Nat) : Seen w B 1 none 0 0 [] := ⟨rfl, Nat.le_refl _, .inl ⟨rfl, rfl⟩⟩

theorem seen_lit (w : World) (t : TypeId) (xs : List Value) : Seen (w.alloc (.cells xs.toArray t)) (w.heap.size + 1) 1 (some ⟨w.heap.size, 0, none⟩) xs.length xs.length xs := by
  refine ⟨by simp, Nat.le_refl _, .inr ⟨_, rfl, fun _ => ⟨rfl, by simp, fun j x hx => ?_⟩⟩⟩
  rw [Whole.cell (Whole.new w t xs.toArray)]
  simpa using hx



end Go.Proofs.Ytnnpiblnjflceaa
