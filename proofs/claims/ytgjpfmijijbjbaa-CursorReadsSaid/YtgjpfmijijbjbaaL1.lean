/-
  The walk of BitioReverse: it answers true, and changes nothing that was there. Conditions: none.
-/
import Derived.Test.YtgjpfmijijbjbaaF
namespace Go.Proofs.Ytgjpfmijijbjbaa
open Go.RowKit

def LawPost (w : World) (e : Ending) (w' : World) : Prop := e = .returned (.bool true) ∧ Below w.heap.size w w'

theorem reverse_law_no (v n : Int) (h : n < 0 ∨ 32 < n) (w : World) : Calls Try.prog 6 #[.int .u32 v, .int .i64 n] w (LawPost w) := by
  rcases h with h | h
  all_goals
    go_enter Try.func6, Try.ntmps6
    go_wp2_with (first | (go_at_call 9; refine (fixed_yes _).mono ?_; rintro e w1 ⟨rfl, hb1⟩) | (go_at_call 26; refine (reverse_no v n (by omega) _).mono ?_; rintro e w2 ⟨rfl, rfl⟩))
    go_ret
    exact ⟨rfl, hb1⟩

set_option maxHeartbeats 1000000 in
theorem reverse_law_yes (v n : Nat) (hv : v < 4294967296) (h : n ≤ 32) (w : World) : Calls Try.prog 6 #[.int .u32 v, .int .i64 n] w (LawPost w) := by
  obtain ⟨i0, hi0, hz0, hz1, hz2⟩ := info_parts bool_info
  have hx1 := rev_lt v n
  have hp := pow_le_32 h
  go_enter Try.func6, Try.ntmps6
  go_wp2_with fail
  refine (fixed_yes _).mono ?_; rintro e w1 ⟨rfl, hb1⟩
  have HB1 := Lib.hid hb1; clear hb1
  go_wp2_with fail
  refine (bits_any v n hv h _).mono ?_; rintro e w2 ⟨vl, rfl, hown, hb2⟩
  obtain ⟨A, c, rfl, hc, hs⟩ := own_seen hown
  have HS := Lib.hid hs; clear hs hown
  have HB2 := Lib.hid (HB1.out.trans (hb2.mono HB1.out.size)); clear hb2 HB1
  obtain ⟨L, hL⟩ : ∃ L, bitsOf v n = L := ⟨_, rfl⟩
  have hLn : L.length = n := by rw [← hL]; simp
  have HL := Lib.hid hL
  rw [hL] at HS
  clear hL
  have HN := Lib.hid hLn; clear hLn
  go_wp2_with fail
  go_loopw [6, 7] (fun s i wr => ∃ k : Nat, k ≤ n ∧ i = .int .i64 ((k : Int) - 1) ∧ wr.ownsRow w2.heap.size 4 1 s (n - k) ((L.drop k).reverse.map .bool) ∧ Below w2.heap.size w2 wr) (fun _ i _ => (intOf i + 1).toNat)
  case atStart => exact ⟨n, Nat.le_refl _, rfl, by rw [Nat.sub_self, List.drop_of_length_le (by rw [HN.out]; omega)]; exact World.ownsRow_nil _ _ _ _, Below.refl _ _⟩
  case round =>
    obtain ⟨k, hk, rfl, hown, hbel⟩ := hrel
    by_cases hlt : 0 < k
    · obtain ⟨j, rfl⟩ : ∃ j, k = j + 1 := ⟨k - 1, by omega⟩
      have hj : j < L.length := by have := HN.out; omega
      obtain ⟨b, o, u, rfl, hb, hu, hcell⟩ := HS.out.at (k := j) (by omega)
      have hu' : u = .bool L[j] := by simpa [hj] using hu.symm
      subst hu'
      have hd : Hid (L.drop j = L[j] :: L.drop (j + 1)) := List.drop_eq_getElem_cons hj
      have hc2 : wr.cell? ⟨b, o + j, none⟩ = some (.bool L[j]) := (hbel.cell (p := ⟨b, o + j, none⟩) hb).trans hcell
      have e1 : (((j + 1 : Nat) : Int) - 1) = (j : Int) := by omega
      clear hu hcell
      rw [e1]
      have hsz := hbel.size
      have hlt1 := hown.lt
      have HLT := Lib.hid hlt1; clear hlt1
      generalize L[j] = bit at *
      go_wp2_with (at_builtin; refine wpList_append_seen _ rfl (.tmp 30) (.tmp 35) _ rfl w2.heap.size 4 i0 _ 1 1 Try.underlying26 hi0 hz0 hz1 hz2 rfl (by omega) u6 (n - (j + 1)) _ rfl (hown.alloc _) _ _ 1 1 _ rfl (seen_one _ _ _) (by simp [Value.oneCell']) (by simp only [maxLen]; omega) (by omega) (by simp only [World.size_alloc]; omega) ?_; intro v1 w3 hown1 hg1 hat1)
      go_roundw
      case rel =>
        refine ⟨j, by omega, by go_num, ?_, (hbel.alloc hsz _).grown hg1 (by simp; omega) (fun i hi => (HLT.out i hi).1)⟩
        rw [hd.out, List.reverse_cons, List.map_append, show n - j = n - (j + 1) + 1 by omega]
        exact hown1
      case measure => simp [intOf]
    · obtain rfl : k = 0 := by omega
      rw [Nat.sub_zero, List.drop_zero] at hown
      obtain ⟨A6, c6, rfl, hc6, hs6⟩ := own_seen hown
      have HS6 := Lib.hid hs6; clear hs6 hown
      have HSL := Lib.hid (HS.out.below hbel)
      have HBZ := Lib.hid (HB2.out.trans (hbel.mono HB2.out.size))
      clear hbel HB2
      have HX1 := Lib.hid hx1; clear hx1
      go_wp2_with fail
      refine (reverse_yes v n hv h _).mono ?_; rintro e w3 ⟨rfl, rfl⟩
      go_wp2_with fail
      refine (number_any A6 n c6 L.reverse (by rw [List.length_reverse]; exact HN.out) h _ _ HS6.out).mono ?_; rintro e w3 ⟨rfl, rfl⟩
      rw [show num L.reverse = rev v n by rw [← HL.out]; rfl]
      go_wp2_with fail
      refine (reverse_yes (rev v n) n (by have := HX1.out; omega) h _).mono ?_; rintro e w3 ⟨rfl, rfl⟩
      go_wp2_with fail
      refine (number_any A n c L HN.out h _ _ HSL.out).mono ?_; rintro e w3 ⟨rfl, rfl⟩
      rw [show num L = rev (rev v n) n by rw [← HL.out, num_bitsOf, rev_rev]]
      go_wp2_with fail
      go_ret
      exact ⟨rfl, HBZ.out⟩

theorem reverse_law (v n : Int) (hv : (Lit.int .u32 v).wf = true) (w : World) : Calls Try.prog 6 #[.int .u32 v, .int .i64 n] w (LawPost w) := by
  have hv' : 0 ≤ v ∧ v < 4294967296 := by
    simp [Lit.wf, IntKind.min, IntKind.max, IntKind.signed, IntKind.bits] at hv
    omega
  by_cases h : 0 ≤ n ∧ n ≤ 32
  · obtain ⟨v, rfl⟩ := Int.eq_ofNat_of_zero_le hv'.1
    obtain ⟨n, rfl⟩ := Int.eq_ofNat_of_zero_le h.1
    exact reverse_law_yes v n (by omega) (by omega) w
  · exact reverse_law_no v n (by omega) w
end Go.Proofs.Ytgjpfmijijbjbaa
