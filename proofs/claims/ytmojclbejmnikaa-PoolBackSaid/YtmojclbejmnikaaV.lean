/-
  Contracts and words that layer 2 rests on: Clone, a text of bytes. Conditions: each theorem names the range of its arguments.
-/
import Derived.Test.YtmojclbejmnikaaProg
import Derived.Test.YtmojclbejmnikaaB
import Derived.StillTailTactics
import Derived.Lib.SliceRun
namespace Go.Proofs.Ytmojclbejmnikaa
open Go.RowKit

/-- What Bits gives, and every call that makes one row of its own. -/
def GivesRow (w : World) (e : TypeId) (size n : Nat) (xs : List Value) (end_ : Ending) (w' : World) : Prop :=
  ∃ v, end_ = .returned v ∧ w'.ownsRow w.heap.size e size v n xs ∧ Below w.heap.size w w'

theorem byte_info : (Try.prog.info? 5).map (fun i => (i.zero, i.size, i.bytes)) = some (some (.int .u8 0), 1, 1) := by kernel_rfl

theorem clone_any (A : Option Addr) (n c B : Nat) (xs : List Value) (w : World) (hs : Seen w B 1 A n c xs) (hB : B ≤ w.heap.size) (h1 : ∀ u ∈ xs, u.oneCell' = true) (hn : n ≤ 140737488355328) :
    Calls Try.prog 23 #[.slice A n c] w (GivesRow w 5 1 n xs) := by
  obtain ⟨i0, hi0, hz0, hz1, hz2⟩ := info_parts byte_info
  have HS := Lib.hid hs
  have q33 : ∀ (w : World) (a : Option Addr) (n c n' c' : Nat), (binOp .eql 22 (.slice a n c) (.slice none n' c')).run Try.prog w = .ok (.bool a.isNone) w := fun w a n c n' c' => Lib.run_eql_slice_nil w _ _ a n c n' c' Try.underlying22
  cases A with
  | none =>
    obtain ⟨g1, g2, g3⟩ := hs
    obtain rfl : c = 0 := by simpa using g3
    obtain rfl : n = 0 := by omega
    obtain rfl : xs = [] := List.eq_nil_of_length_eq_zero (by simpa using g1)
    clear g1 g2 g3
    go_enter Try.func23, Try.ntmps23
    go_wp2
    go_ret
    exact ⟨_, rfl, World.ownsRow_nil _ _ _ _, Below.refl _ _⟩
  | some a =>
    clear hs
    have H1 := Lib.hid h1; clear h1
    go_enter Try.func23, Try.ntmps23
    go_wp2_with (at_builtin; refine wpList_append_seen _ rfl (.tmp 5) (.tmp 6) _ rfl w.heap.size 5 i0 _ 1 1 Try.underlying22 hi0 hz0 hz1 hz2 rfl (by omega) (.slice (some ⟨w.heap.size, 0, none⟩) 0 0) 0 [] rfl (World.ownsRow_made w #[] 0 (Nat.le_refl _) (by simp [maxLen]) rfl) B (some a) n c xs rfl (HS.out.below ((Below.refl _ _).alloc hB _)) H1.out (by simp [maxLen]; omega) (by omega) (by simp) ?_; intro v1 w1 hown1 hg1 hat1)
    go_ret
    refine ⟨_, rfl, by simpa using hown1, ((Below.refl _ _).alloc (Nat.le_refl _) _).grown hg1 (by simp) (by simp [Value.ownBlock])⟩

theorem bytes_oneCell (l : List Nat) : ∀ u ∈ l.map (fun x : Nat => Value.int .u8 x), u.oneCell' = true := by
  intro u hu
  obtain ⟨_, _, rfl⟩ := List.mem_map.1 hu
  rfl

/-- The text of bytes. -/
def strOf (bs : List Nat) : ByteArray := ⟨(bs.map fun n => UInt8.ofNat n).toArray⟩

theorem conv_seen {w : World} {B : Nat} {A : Option Addr} {n c : Nat} {bs : List Nat} (h : Seen w B 1 A n c (bs.map fun x : Nat => Value.int .u8 x)) :
    (convert 22 9 (.slice A n c)).run Try.prog w = .ok (.string (strOf bs)) w := by
  obtain ⟨h1, h2, h3⟩ := h
  rcases h3 with ⟨rfl, rfl⟩ | ⟨a, rfl, h3⟩
  · obtain rfl : bs = [] := List.eq_nil_of_length_eq_zero (by simp at h1; omega)
    exact run_convert_bytes_nil w 22 5 Try.underlying22 Try.underlying5 n 0 9 Try.underlying9
  · by_cases hb : bs = []
    · subst hb
      obtain rfl : n = 0 := by simpa using h1.symm
      rw [run_convert_bytes_string w 22 9 5 _ 0 c Try.underlying22 Try.underlying5 Try.underlying9, run_bytesToString w _ 0 c [] (by simpa using run_loadCells_list (P := Try.prog) w a [] (by simp))]
      rfl
    · obtain ⟨g1, g2, g3⟩ := h3 (by simpa using hb)
      obtain ⟨b, o, s⟩ := a
      simp only at g1 g2 g3
      subst g1
      have hl : bs.length = n := by simpa using h1
      have := run_convert_bytes_arg (P := Try.prog) w 22 5 Try.underlying22 Try.underlying5 b o n c (bs.map fun x : Nat => (x : Int)) (by simpa using hl) (fun i hi => by
        have hi' : i < bs.length := by omega
        rw [g3 i (.int .u8 (bs[i] : Int)) (by simp [hi'])]
        simp [List.getD, hi']) 9 Try.underlying9
      rw [this]
      simp only [strOfNums, strOf, List.map_map]
      rfl

theorem own_seen {w : World} {base : Nat} {e : TypeId} {size n : Nat} {v : Value} {xs : List Value} (h : w.ownsRow base e size v n xs) : ∃ A c, v = .slice A n c ∧ c ≤ maxLen ∧ Seen w w.heap.size size A n c xs := by
  obtain ⟨A, c, rfl, hc⟩ := own_form h
  exact ⟨A, c, rfl, hc, Seen.of_own h⟩

theorem Seen.cut {w : World} {B : Nat} {A : Option Addr} {len c q n : Nat} {xs : List Value} (h : Seen w B 1 A len c xs) (hq : q + n ≤ len) : Seen w B 1 (Option.map (fun x => x.add q) A) n (c - q) ((xs.drop q).take n) := by
  obtain ⟨h1, h2, h3⟩ := h
  refine ⟨by simp; omega, by omega, ?_⟩
  rcases h3 with ⟨rfl, rfl⟩ | ⟨⟨b, o, s⟩, rfl, h3⟩
  · exact .inl ⟨rfl, by omega⟩
  · refine .inr ⟨_, rfl, fun hx => ?_⟩
    obtain ⟨g1, g2, g3⟩ := h3 (by rintro rfl; simp at hx)
    simp only at g1 g2 g3
    subst g1
    simp only [Addr.add_lit]
    refine ⟨trivial, g2, fun j u hu => ?_⟩
    rw [Nat.add_assoc]
    refine g3 _ u ?_
    rw [List.getElem?_take] at hu
    split at hu
    · rw [← hu, List.getElem?_drop]
    · cases hu
theorem Seen.empty {w : World} {B : Nat} {A : Option Addr} {len c : Nat} {xs : List Value} (h : Seen w B 1 A len c xs) : Seen w B 1 A 0 0 [] := by
  obtain ⟨h1, h2, h3⟩ := h
  refine ⟨rfl, Nat.le_refl _, ?_⟩
  rcases h3 with ⟨rfl, _⟩ | ⟨a, rfl, h3⟩
  · exact .inl ⟨rfl, rfl⟩
  · exact .inr ⟨a, rfl, fun hx => absurd rfl hx⟩

theorem seen_nil (w : World) (B : Nat) : Seen w B 1 none 0 0 [] := ⟨rfl, Nat.le_refl _, .inl ⟨rfl, rfl⟩⟩

theorem seen_lit (w : World) (t : TypeId) (xs : List Value) : Seen (w.alloc (.cells xs.toArray t)) (w.heap.size + 1) 1 (some ⟨w.heap.size, 0, none⟩) xs.length xs.length xs := by
  refine ⟨by simp, Nat.le_refl _, .inr ⟨_, rfl, fun _ => ⟨rfl, by simp, fun j x hx => ?_⟩⟩⟩
  rw [Whole.cell (Whole.new w t xs.toArray)]
  simpa using hx


end Go.Proofs.Ytmojclbejmnikaa
