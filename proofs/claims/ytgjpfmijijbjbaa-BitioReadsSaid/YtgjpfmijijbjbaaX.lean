/-
  Contracts of the writer: Align, and the document: Bytes of bits. Conditions: each theorem names the range of its arguments.
-/
import Derived.Test.YtgjpfmijijbjbaaL2
import Derived.Test.YtgjpfmijijbjbaaN2
namespace Go.Proofs.Ytgjpfmijijbjbaa
open Go.RowKit

theorem writerAlign_any (B g : Nat) (sv : Value) (l : List Bool) (w : World) (hw : WriterAt w B g sv l) (hl : l.length ≤ 1000000) :
    Calls Try.prog 11 #[.pointer (some ⟨g, 0, none⟩)] w fun e w' => e = .returned (.tuple #[]) ∧ WriterAt w' B g sv (padTo l) ∧ Only (fun k => k = g) w w' := by
  obtain ⟨hBg, hWh, hown⟩ := hw
  have hne := own_ne_whole hown hWh (by decide)
  have HN := Lib.hid hne; clear hne
  obtain ⟨A, c, rfl, hcm⟩ := own_form hown
  have c0 : w.cell? ⟨g, 0, none⟩ = some (.slice A ((l.length + 7) / 8) c) := by simpa using hWh.cell 0
  have c1 : w.cell? ⟨g, 1, none⟩ = some (.int .i64 l.length) := by simpa using hWh.cell 1
  have f1 := hWh.frozen 1
  obtain ⟨q, hq⟩ : ∃ q, (l.length + 7) / 8 = q := ⟨_, rfl⟩
  rw [hq] at c0 hWh hown HN
  have hq2 : q ≤ 1000000 := by omega
  have HQ := Lib.hid hq; clear hq
  go_enter Try.func11, Try.ntmps11
  go_wp2
  go_end0
  have hO := (Only.refl (fun k => k = g) w).setCell (p := ⟨g, 1, none⟩) (.inl rfl) (.int .i64 (8 * (q : Int)))
  have h8 : (padTo l).length = 8 * q := by rw [padTo_length, HQ.out]
  rw [HQ.out]
  refine ⟨rfl, ⟨hBg, ?_, ?_⟩, hO⟩
  · rw [h8]
    simpa using hWh.put 1 (.int .i64 (8 * (q : Int)))
  · rw [h8, show (8 * q + 7) / 8 = q by omega, pack_pad]
    exact own_only hown hO (fun k hk => HN.out k hk)

/-- The document's bytes of bits. -/
theorem refBytes_any (A : Option Addr) (n c B : Nat) (l : List Bool) (hl : l.length = n) (hn : n ≤ 1000000) (w : World) (hs : Seen w B 1 A n c (l.map .bool)) (hB : B ≤ w.heap.size) :
    Calls Try.prog 16 #[.slice A n c] w (GivesRow w 5 1 ((n + 7) / 8) ((pack l).map fun x : Nat => Value.int .u8 x)) := by
  obtain ⟨i0, hi0, hz0, hz1, hz2⟩ := info_parts byte_info
  have hnc := hs.2.1
  have HS := Lib.hid hs; clear hs
  have HL := Lib.hid hl; clear hl
  go_enter Try.func16, Try.ntmps16
  go_wp2
  go_loopw [3, 4] (fun s i wr => ∃ k : Nat, 8 * k ≤ n + 7 ∧ i = .int .i64 (8 * k : Nat) ∧ wr.ownsRow w.heap.size 5 1 s k (((pack l).take k).map fun x : Nat => Value.int .u8 x) ∧ Below w.heap.size w wr) (fun _ i _ => n + 8 - (intOf i).toNat)
  case atStart => exact ⟨0, by omega, rfl, World.ownsRow_nil _ _ _ _, Below.refl _ _⟩
  case round =>
    obtain ⟨k, hk, rfl, hown, hbel⟩ := hrel
    obtain ⟨a, ha⟩ : ∃ a, 8 * k = a := ⟨_, rfl⟩
    rw [ha]
    have HA := Lib.hid ha; clear ha
    have hsz := hbel.size
    have hlt1 := hown.lt
    have HLT := Lib.hid hlt1; clear hlt1
    by_cases hlt : a < n
    · have hca : (c = a) = False := by simp; omega
      have hS2 := HS.out.below (hbel.mono hB)
      have hk2 : k < (l.length + 7) / 8 := by have := HA.out; have := HL.out; omega
      have hk3 : k ≤ 1000000 := by omega
      have htake0 : (pack l).take (k + 1) = (pack l).take k ++ [num ((l.drop a).take 8)] := by
        have h1 := pack_get l k hk2
        rw [HA.out] at h1
        rw [List.getElem?_eq_getElem (by simpa using hk2)] at h1
        rw [List.take_succ_eq_append_getElem (by simpa using hk2), Option.some.inj h1]
      have hnum : num ((l.drop a).take 8) < 256 := by
        have h1 := num_lt ((l.drop a).take 8)
        have h2 : ((l.drop a).take 8).length ≤ 8 := by simp; omega
        have := Nat.pow_le_pow_right (n := 2) (by omega) h2
        omega
      have htake := Lib.hid htake0; clear htake0
      by_cases hm : n < a + 8
      · have hch : num ((l.drop a).take (n - a)) = num ((l.drop a).take 8) := by
          rw [List.take_of_length_le (by simp [HL.out]), List.take_of_length_le (by simp [HL.out]; omega)]
        generalize num ((l.drop a).take 8) = N at *
        go_wp2_with fail
        refine (number_any _ (n - a) _ ((l.drop a).take (n - a)) (by rw [List.length_take, List.length_drop, HL.out]; omega) (by omega) _ _ (by have h3 := hS2.cut (q := a) (n := (n - a)) (by omega); rw [List.map_take, List.map_drop]; exact h3)).mono ?_; rintro e w' ⟨rfl, rfl⟩
        rw [hch]
        go_wp2_with (at_builtin; refine wpList_append_seen _ rfl (.tmp 11) (.tmp 22) _ rfl w.heap.size 5 i0 _ 1 1 Try.underlying33 hi0 hz0 hz1 hz2 rfl (by omega) u3 k _ rfl (hown.alloc _) _ _ 1 1 _ rfl (seen_one _ _ _) (by simp [Value.oneCell']) (by simp only [maxLen]; omega) (by omega) (by simp only [World.size_alloc]; omega) ?_; intro v1 w1 hown1 hg1 hat1)
        go_roundw
        case rel =>
          refine ⟨k + 1, by have := HA.out; omega, by have := HA.out; go_num, ?_, (hbel.alloc hsz _).grown hg1 (by simp; omega) (fun i hi => (HLT.out i hi).1)⟩
          rw [htake.out, List.map_append]
          exact hown1
        case measure => simp [intOf]; omega
      · generalize hN : num ((l.drop a).take 8) = N at *
        go_wp2_with fail
        refine (number_any _ 8 _ ((l.drop a).take 8) (by rw [List.length_take, List.length_drop, HL.out]; omega) (by omega) _ _ (by have h3 := hS2.cut (q := a) (n := 8) (by omega); rw [List.map_take, List.map_drop]; exact h3)).mono ?_; rintro e w' ⟨rfl, rfl⟩
        rw [hN]
        go_wp2_with (at_builtin; refine wpList_append_seen _ rfl (.tmp 11) (.tmp 22) _ rfl w.heap.size 5 i0 _ 1 1 Try.underlying33 hi0 hz0 hz1 hz2 rfl (by omega) u3 k _ rfl (hown.alloc _) _ _ 1 1 _ rfl (seen_one _ _ _) (by simp [Value.oneCell']) (by simp only [maxLen]; omega) (by omega) (by simp only [World.size_alloc]; omega) ?_; intro v1 w1 hown1 hg1 hat1)
        go_roundw
        case rel =>
          refine ⟨k + 1, by have := HA.out; omega, by have := HA.out; go_num, ?_, (hbel.alloc hsz _).grown hg1 (by simp; omega) (fun i hi => (HLT.out i hi).1)⟩
          rw [htake.out, List.map_append]
          exact hown1
        case measure => simp [intOf]; omega
    · go_wp2_with fail
      go_ret
      have hkk : k = (n + 7) / 8 := by have := HA.out; omega
      subst hkk
      rw [List.take_of_length_le (by simp [HL.out])] at hown
      exact ⟨_, rfl, hown, hbel⟩
end Go.Proofs.Ytgjpfmijijbjbaa
