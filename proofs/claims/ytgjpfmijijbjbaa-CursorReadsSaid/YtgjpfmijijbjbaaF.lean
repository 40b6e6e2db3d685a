/-
  The first check of every statement on layer 1, called fixed, answers true. Conditions: none.
-/
import Derived.Test.YtgjpfmijijbjbaaU
import Derived.Test.YtgjpfmijijbjbaaK
namespace Go.Proofs.Ytgjpfmijijbjbaa
open Go.RowKit

/-- The text of bytes. -/
def strOf (bs : List Nat) : ByteArray := ⟨(bs.map fun n => UInt8.ofNat n).toArray⟩

theorem conv_seen {w : World} {B : Nat} {A : Option Addr} {n c : Nat} {bs : List Nat} (h : Seen w B 1 A n c (bs.map fun x : Nat => Value.int .u8 x)) :
    (convert 33 9 (.slice A n c)).run Try.prog w = .ok (.string (strOf bs)) w := by
  obtain ⟨h1, h2, h3⟩ := h
  rcases h3 with ⟨rfl, rfl⟩ | ⟨a, rfl, h3⟩
  · obtain rfl : bs = [] := List.eq_nil_of_length_eq_zero (by simp at h1; omega)
    exact run_convert_bytes_nil w 33 5 Try.underlying33 Try.underlying5 n 0 9 Try.underlying9
  · by_cases hb : bs = []
    · subst hb
      obtain rfl : n = 0 := by simpa using h1.symm
      rw [run_convert_bytes_string w 33 9 5 _ 0 c Try.underlying33 Try.underlying5 Try.underlying9, run_bytesToString w _ 0 c [] (by simpa using run_loadCells_list (P := Try.prog) w a [] (by simp))]
      rfl
    · obtain ⟨g1, g2, g3⟩ := h3 (by simpa using hb)
      obtain ⟨b, o, s⟩ := a
      simp only at g1 g2 g3
      subst g1
      have hl : bs.length = n := by simpa using h1
      have := run_convert_bytes_arg (P := Try.prog) w 33 5 Try.underlying33 Try.underlying5 b o n c (bs.map fun x : Nat => (x : Int)) (by simpa using hl) (fun i hi => by
        have hi' : i < bs.length := by omega
        rw [g3 i (.int .u8 (bs[i] : Int)) (by simp [hi'])]
        simp [List.getD, hi']) 9 Try.underlying9
      rw [this]
      simp only [strOfNums, strOf, List.map_map]
      rfl

theorem own_seen {w : World} {base : Nat} {e : TypeId} {size n : Nat} {v : Value} {xs : List Value} (h : w.ownsRow base e size v n xs) : ∃ A c, v = .slice A n c ∧ c ≤ maxLen ∧ Seen w w.heap.size size A n c xs := by
  obtain ⟨A, c, rfl, hc⟩ := own_form h
  exact ⟨A, c, rfl, hc, Seen.of_own h⟩

theorem WriterAt.only {w w' : World} {B g : Nat} {sv : Value} {l : List Bool} {S : Nat → Prop} (h : WriterAt w B g sv l) (ho : Only S w w') (hS : ∀ k, k < w.heap.size → ¬ S k) : WriterAt w' B g sv l :=
  ⟨h.1, h.2.1.only ho (hS _ h.2.1.lt), own_only h.2.2 ho (fun k hk => hS k (own_whole h.2.2 hk).2.choose_spec.lt)⟩
theorem ReaderAt.only {w w' : World} {B g : Nat} {sv : Value} {bs : List Nat} {a : Nat} {S : Nat → Prop} (h : ReaderAt w B g sv bs a) (ho : Only S w w') (hS : ∀ k, k < w.heap.size → ¬ S k) : ReaderAt w' B g sv bs a :=
  ⟨h.1, h.2.1.only ho (hS _ h.2.1.lt), own_only h.2.2 ho (fun k hk => hS k (own_whole h.2.2 hk).2.choose_spec.lt)⟩
theorem seen_two (w : World) (t : TypeId) (u v : Value) : Seen (w.alloc (.cells #[u, v] t)) (w.heap.size + 1) 1 (some ⟨w.heap.size, 0, none⟩) 2 2 [u, v] := by
  refine ⟨rfl, Nat.le_refl _, .inr ⟨_, rfl, fun _ => ⟨rfl, by simp, fun j x hx => ?_⟩⟩⟩
  rw [Whole.cell (Whole.new w t #[u, v])]
  simpa using hx

set_option maxHeartbeats 1000000 in
theorem fixed_yes (w : World) : Calls Try.prog 9 #[] w fun e w' => e = .returned (.bool true) ∧ Below w.heap.size w w' := by
  go_enter Try.func9, Try.ntmps9
  go_wp2_with fail
  refine (newWriter_any _).mono ?_; rintro e w1 ⟨rfl, hW1, hb1⟩
  go_wp2_with fail
  refine (put_yes 1 1 _ _ _ [] (by omega) (by omega) _ hW1 (by simp)).mono ?_; rintro e w2 ⟨rfl, sv2, hW2, hO2, hB2⟩
  go_wp2_with fail
  refine (put_yes 2 2 _ _ _ _ (by omega) (by omega) _ hW2 (by simp)).mono ?_; rintro e w3 ⟨rfl, sv3, hW3, hO3, hB3⟩
  have hb3 : Below w.heap.size w w3 := by
    have h2 := hO2.below hb1.size (fun k hk => by rcases hk with rfl | h; exact Nat.le_refl _; simp [Value.ownBlock] at h)
    have h3 := hO3.below (Nat.le_trans hb1.size hO2.size) (fun k hk => by
      rcases hk with rfl | h
      · exact Nat.le_refl _
      · exact (own_whole hW2.2.2 h).1)
    exact (hb1.trans h2).trans h3
  clear hW1 hb1 hW2 hO2 hB2 hO3 hB3
  have HB3 := Lib.hid hb3; clear hb3
  have HW3 := Lib.hid hW3; clear hW3
  go_wp2_with fail
  refine (newReader_any _ 2 2 _ [5, 9] _ rfl (seen_two _ _ _ _) (by simp) (by omega)).mono ?_; rintro e w4 ⟨g, sv, rfl, hR4, hb4⟩
  have HR4 := Lib.hid hR4; clear hR4
  have HB4 := Lib.hid hb4; clear hb4
  go_wp2_with fail
  refine (get_yes _ g sv [5, 9] 0 3 _ HR4.out (by simp) (by decide) (by omega) (by simp)).mono ?_; rintro e w5 ⟨rfl, hR5, hO5⟩
  rw [show num (((unpack [5, 9]).drop 0).take 3) = 5 by decide]
  have HR5 := Lib.hid hR5; clear hR5
  have HO5 := Lib.hid hO5; clear hO5
  go_wp2_with fail
  refine (take_yes _ g sv [5, 9] (0 + 3) 1 _ HR5.out (by simp) (by simp)).mono ?_; rintro e w6 ⟨v6, rfl, hown6, hR6, hO6⟩
  obtain ⟨A6, c6, rfl, hc6, hs6⟩ := own_seen hown6
  have HS6 := Lib.hid hs6; clear hs6
  have HO6 := Lib.hid hO6; clear hO6
  clear hown6 hR6
  go_wp2_with fail
  have hge : w3.heap.size + 1 ≤ g := by simpa using HR4.out.1
  have hO36 : Only (fun k => k = g) w3 w6 := ((((Only.refl _ w3).alloc _).trans (Only.of_below HB4.out _)).trans HO5.out).trans HO6.out
  have hW6 := HW3.out.only hO36 (fun k hk h => by omega)
  have hb6 : Below w.heap.size w w6 := HB3.out.trans (hO36.below HB3.out.size (fun k hk => by have := HB3.out.size; omega))
  rw [show ([] ++ bitsOf 1 1 ++ bitsOf 2 2) = [true, false, true] from rfl] at hW6
  have HW6 := Lib.hid hW6; clear hW6
  have HB6 := Lib.hid hb6; clear hb6
  clear hO36 hge HB3 HW3 HR4 HB4 HR5 HO5 HO6
  refine (writerBytes_any _ _ _ _ _ HW6.out (by simp)).mono ?_; rintro e w7 ⟨v7, rfl, hown7, hb7⟩
  rw [show pack [true, false, true] = [5] by decide, show (([true, false, true] : List Bool).length + 7) / 8 = 1 from rfl] at hown7
  obtain ⟨A7, c7, rfl, hc7, hs7⟩ := own_seen hown7
  have cv7 := conv_seen hs7
  have hO67 := Only.of_below hb7 Nob
  have hW7 := HW6.out.only hO67 (fun _ _ h => h)
  have hs67 := HS6.out.below hb7
  have cv6 := conv_seen hs67
  rw [show strOf [5] = ⟨#[5]⟩ from rfl] at cv7
  rw [show strOf ((([5, 9] : List Nat).drop ((0 + 3 + 7) / 8)).take 1) = ⟨#[9]⟩ from rfl] at cv6
  have HB7 := Lib.hid (HB6.out.trans (hb7.mono HB6.out.size))
  have HW7 := Lib.hid hW7
  clear hW7 hs67 hs7 hown7 hO67 hb7 HB6 HW6 HS6
  go_wp2_with fail
  refine (len_any _ _ _ _ _ HW7.out).mono ?_; rintro e w8 ⟨rfl, rfl⟩
  rw [show ([true, false, true] : List Bool).length = 3 from rfl]
  go_wp2_with fail
  refine (reverse_yes 6 4 (by omega) (by omega) _).mono ?_; rintro e w8 ⟨rfl, rfl⟩
  rw [show rev 6 4 = 6 by decide]
  go_wp2_with fail
  refine (reverse_yes 1 4 (by omega) (by omega) _).mono ?_; rintro e w8 ⟨rfl, rfl⟩
  rw [show rev 1 4 = 8 by decide]
  go_wp2_with fail
  go_ret
  exact ⟨rfl, HB7.out⟩
end Go.Proofs.Ytgjpfmijijbjbaa
