/-
  The document's Fold. Conditions: a text of at most a million bytes.
-/
import Derived.Test.YteadhiehhpafjaaDoorMD
namespace Go.Proofs.YteadhiehhpafjaaDoor
open Go.RowKit
set_option maxRecDepth 100000

theorem str_info : (Tryd.prog.info? 9).map (fun i => (i.zero, i.size, i.bytes)) = some (some (.string ⟨#[]⟩), 1, 16) := by kernel_rfl
theorem ba_zero {a : ByteArray} (h : a.size = 0) : a = ⟨#[]⟩ := ByteArray.ext (Array.eq_empty_of_size_eq_zero h)
theorem ba_none {s : ByteArray} {i j : Nat} (h : j ≤ i) : s.extract i j = ⟨#[]⟩ := ba_zero (by rw [ByteArray.size_extract]; omega)

theorem ba_empty (a : ByteArray) : a.toList.isEmpty = decide (a.size = 0) := by
  rw [ByteArray.toList_eq, ByteArray.size, ← Array.length_toList]
  cases a.data.toList <;> simp

/-- Texts as a row of values. -/
def sv (l : List ByteArray) : List Value := l.map .string
theorem sv_length (l : List ByteArray) : (sv l).length = l.length := by simp [sv]
theorem sv_snoc (l : List ByteArray) (a : ByteArray) : sv (l ++ [a]) = sv l ++ [.string a] := by simp [sv]
/-- A folded line's further lines: the one of that number. -/
def foldAt (s : ByteArray) (j : Nat) : ByteArray := ⟨#[32]⟩ ++ s.extract (72 + 71 * j) (min (72 + 71 * j + 71) s.size)
def foldP (s : ByteArray) (k : Nat) : List ByteArray := s.extract 0 72 :: (List.range k).map (foldAt s)
theorem foldP_length (s : ByteArray) (k : Nat) : (foldP s k).length = k + 1 := by simp [foldP]
theorem foldP_step (s : ByteArray) (k : Nat) : foldP s (k + 1) = foldP s k ++ [foldAt s k] := by simp [foldP, List.range_succ]
def foldL (s : ByteArray) : List ByteArray := if s.size ≤ 72 then [s] else foldP s ((s.size - 2) / 71)

/-- What gives a row of texts of its own. -/
def GivesTexts (w : World) (l : List ByteArray) (e : Ending) (w' : World) : Prop :=
  ∃ v, e = .returned v ∧ w'.ownsRow w.heap.size 9 1 v l.length (sv l) ∧ Below w.heap.size w w'

set_option maxHeartbeats 4000000 in
theorem fold_any (s : ByteArray) (n : Nat) (hn : s.size = n) (hs : n ≤ 1000000) (w : World) : Calls Tryd.prog 16 #[.string s] w (GivesTexts w (foldL s)) := by
  obtain ⟨i0, hi0, hz0, hz1, hz2⟩ := info_parts str_info
  by_cases h72 : n ≤ 72
  · have hf : foldL s = [s] := by rw [foldL, if_pos (by omega)]
    rw [hf]
    go_enter Tryd.func16, Tryd.ntmps16
    go_wp2
    go_ret
    exact ⟨_, rfl, World.ownsRow_lit w #[.string s] 1 (Nat.le_refl _) (by simp [maxLen]) rfl, (Below.refl _ _).alloc (Nat.le_refl _) _⟩
  · have hf : foldL s = foldP s ((n - 2) / 71) := by rw [foldL, if_neg (by omega), hn]
    rw [hf]
    obtain ⟨m, hm⟩ : ∃ m, (n - 2) / 71 = m := ⟨_, rfl⟩
    rw [hm]
    go_enter Tryd.func16, Tryd.ntmps16
    have hO : (w.alloc (.cells #[.string (s.extract 0 72)] 9)).ownsRow w.heap.size 9 1 (.slice (some ⟨w.heap.size, 0, none⟩) 1 1) 1 (sv (foldP s 0)) := World.ownsRow_lit w #[.string (s.extract 0 72)] 1 (Nat.le_refl _) (by simp [maxLen]) rfl
    have hB := (Below.refl w.heap.size w).alloc (Nat.le_refl _) (.cells #[.string (s.extract 0 72)] 9)
    go_wp2
    go_loopg [3, 4] m (fun j v r wr => ∃ k : Nat, k ≤ m ∧ j = m - k ∧ r = .string (s.extract (72 + 71 * k) n) ∧ wr.ownsRow w.heap.size 9 1 v (k + 1) (sv (foldP s k)) ∧ Below w.heap.size w wr)
    case atStart => exact ⟨0, by omega, rfl, rfl, hO, hB⟩
    case round =>
      obtain ⟨k, hk, rfl, rfl, ho, hb⟩ := hrel

      by_cases hlt : k < m
      · obtain ⟨a, ha⟩ : ∃ a, 72 + 71 * k = a := ⟨_, rfl⟩
        have hsz : (s.extract a n).size = n - a := by rw [ByteArray.size_extract]; omega
        rw [ha]
        have he : (s.extract a n).toList.isEmpty = false := by rw [ba_empty, hsz]; exact decide_eq_false (by omega)
        have HO := Lib.hid ho
        have HB := Lib.hid hb
        clear ho hb hO hB hf
        by_cases h71 : 71 < n - a
        · have hA : 71 < ((n - a : Nat) : Int) := by omega
          have hx1 : (s.extract a n).extract 0 71 = s.extract a (min (a + 71) s.size) := by rw [ByteArray.extract_extract]; congr 1; omega
          have hx2 : (s.extract a n).extract 71 (n - a) = s.extract (72 + 71 * (k + 1)) n := by rw [ByteArray.extract_extract]; congr 1 <;> omega
          have hf : ⟨#[32]⟩ ++ (s.extract a n).extract 0 71 = foldAt s k := by rw [hx1, foldAt, ha]
          have HF := Lib.hid hf
          have HX := Lib.hid hx2
          clear hx1 hx2 hf
          obtain ⟨D, hD⟩ : ∃ D, (s.extract a n).extract 0 71 = D := ⟨_, rfl⟩
          rw [hD] at HF
          have hDs : D.size ≤ 71 := by rw [← hD, ByteArray.size_extract]; omega
          have hb1 : (⟨#[32]⟩ : ByteArray).size = 1 := rfl
          have hadd := run_string_add_sum (P := Tryd.prog) (w := wr) ⟨#[32]⟩ D (by rw [hb1]; omega)
          rw [HF.out] at hadd
          clear hb1 hDs
          have BB := Lib.hid ((Below.refl wr.heap.size wr).alloc (Nat.le_refl _) (.cells #[.string (foldAt s k)] 9))
          have HO2 := Lib.hid (own_only HO.out (Only.of_below BB.out Nob) (fun _ _ h => h))
          have HS := Lib.hid (seen_one wr 9 (.string (foldAt s k)))
          have HT := Lib.hid (foldP_step s k)
          have HL2 := Lib.hid (show wr.heap.size + 1 = (wr.alloc (.cells #[.string (foldAt s k)] 9)).heap.size by simp)
          have HZ := HB.out.size
          go_wp2_with (at_builtin; refine wpList_append_seen _ rfl (.tmp 21) (.tmp 26) _ rfl w.heap.size 9 i0 _ 1 16 Tryd.underlying38 hi0 hz0 hz1 hz2 rfl (by omega) u3 (k + 1) (sv (foldP s k)) rfl HO2.out (wr.heap.size + 1) (some ⟨wr.heap.size, 0, none⟩) 1 1 [.string (foldAt s k)] rfl HS.out (by intro u hu; simp at hu; subst hu; rfl) (by simp [maxLen]; omega) (by omega) (by simp; omega) ?_; intro v2 w2 ho2 hg2 hv2)
          go_roundg (m - (k + 1))
          case measure => omega
          case rel => exact ⟨k + 1, by omega, rfl, by rw [HX.out], by rw [HT.out, sv_snoc]; exact ho2, (HB.out.alloc HZ (.cells #[.string (foldAt s k)] 9)).grown hg2 (by simp; omega) (fun j hj => (own_whole HO.out hj).1)⟩
        · have hA : ((n - a : Nat) : Int) ≤ 71 := by omega
          have hx1 : (s.extract a n).extract 0 (n - a) = s.extract a (min (a + 71) s.size) := by rw [ByteArray.extract_extract]; congr 1; omega
          have hx2 : (s.extract a n).extract (n - a) (n - a) = s.extract (72 + 71 * (k + 1)) n := by rw [ByteArray.extract_extract, ba_none (by omega), ba_none (by omega)]
          have hf : ⟨#[32]⟩ ++ (s.extract a n).extract 0 (n - a) = foldAt s k := by rw [hx1, foldAt, ha]
          have HF := Lib.hid hf
          have HX := Lib.hid hx2
          clear hx1 hx2 hf
          obtain ⟨D, hD⟩ : ∃ D, (s.extract a n).extract 0 (n - a) = D := ⟨_, rfl⟩
          rw [hD] at HF
          have hDs : D.size ≤ 71 := by rw [← hD, ByteArray.size_extract]; omega
          have hb1 : (⟨#[32]⟩ : ByteArray).size = 1 := rfl
          have hadd := run_string_add_sum (P := Tryd.prog) (w := wr) ⟨#[32]⟩ D (by rw [hb1]; omega)
          rw [HF.out] at hadd
          clear hb1 hDs
          have BB := Lib.hid ((Below.refl wr.heap.size wr).alloc (Nat.le_refl _) (.cells #[.string (foldAt s k)] 9))
          have HO2 := Lib.hid (own_only HO.out (Only.of_below BB.out Nob) (fun _ _ h => h))
          have HS := Lib.hid (seen_one wr 9 (.string (foldAt s k)))
          have HT := Lib.hid (foldP_step s k)
          have HL2 := Lib.hid (show wr.heap.size + 1 = (wr.alloc (.cells #[.string (foldAt s k)] 9)).heap.size by simp)
          have HZ := HB.out.size
          go_wp2_with (at_builtin; refine wpList_append_seen _ rfl (.tmp 21) (.tmp 26) _ rfl w.heap.size 9 i0 _ 1 16 Tryd.underlying38 hi0 hz0 hz1 hz2 rfl (by omega) u3 (k + 1) (sv (foldP s k)) rfl HO2.out (wr.heap.size + 1) (some ⟨wr.heap.size, 0, none⟩) 1 1 [.string (foldAt s k)] rfl HS.out (by intro u hu; simp at hu; subst hu; rfl) (by simp [maxLen]; omega) (by omega) (by simp; omega) ?_; intro v2 w2 ho2 hg2 hv2)
          go_roundg (m - (k + 1))
          case measure => omega
          case rel => exact ⟨k + 1, by omega, rfl, by rw [← HX.out, ba_none (Nat.le_refl _)]; rfl, by rw [HT.out, sv_snoc]; exact ho2, (HB.out.alloc HZ (.cells #[.string (foldAt s k)] 9)).grown hg2 (by simp; omega) (fun j hj => (own_whole HO.out hj).1)⟩
      · obtain rfl : k = m := by omega
        have he : (s.extract (72 + 71 * k) n).toList.isEmpty = true := by rw [ba_empty, ByteArray.size_extract]; exact decide_eq_true (by omega)
        go_wp2
        go_ret
        refine ⟨_, rfl, ?_, hb⟩
        rw [foldP_length]
        exact ho
end Go.Proofs.YteadhiehhpafjaaDoor
