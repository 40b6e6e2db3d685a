/-
  The document's lines of a text. Conditions: at most a million bytes, seen in memory.
-/
import Derived.Test.YteadhiehhpafjaaDoorME
namespace Go.Proofs.YteadhiehhpafjaaDoor
open Go.RowKit
set_option maxRecDepth 100000

/-- The text of bytes. -/
def strOf (bs : List Nat) : ByteArray := ⟨(bs.map fun n => UInt8.ofNat n).toArray⟩
theorem strOf_size (l : List Nat) : (strOf l).size = l.length := by simp [strOf, ByteArray.size]
theorem strOf_snoc (l : List Nat) (c : Nat) : strOf (l ++ [c]) = strOf l ++ strOfNums [(c : Int)] := by
  rw [strOf, strOf, strOfNums, ByteArray.mk_append_mk]; simp
theorem strOf_at (l : List Nat) (hl : ∀ x ∈ l, x < 256) (k : Nat) (h : k < (strOf l).size) : (strOf l)[k].toNat = l[k]'(by rw [strOf_size] at h; exact h) := by
  have h2 : k < l.length := by rw [strOf_size] at h; exact h
  have e : (strOf l)[k] = UInt8.ofNat l[k] := by
    show (strOf l).data[k] = _
    simp [strOf]
  rw [e, UInt8.toNat_ofNat', Nat.mod_eq_of_lt (hl _ (List.getElem_mem h2))]
theorem strOf_take (l : List Nat) (k : Nat) : (strOf l).extract 0 k = strOf (l.take k) := by
  rw [strOf, strOf, ByteArray.extract_mk]; simp

/-- A line without the carriage return at its end. -/
def chop (s : List Nat) : List Nat := if s.getLast? = some 13 then s.dropLast else s
def lnS (p : List (List Nat) × List Nat) (c : Nat) : List (List Nat) × List Nat := if c = 10 then (p.1 ++ [chop p.2], []) else (p.1, p.2 ++ [c])
def lnP (l : List Nat) (k : Nat) : List (List Nat) × List Nat := (l.take k).foldl lnS ([], [])
def linesL (l : List Nat) : List (List Nat) := (l.foldl lnS ([], [])).1
theorem lnP_step (l : List Nat) (k : Nat) (h : k < l.length) : lnP l (k + 1) = lnS (lnP l k) l[k] := by
  have e : l.take (k + 1) = l.take k ++ [l[k]] := by rw [List.take_add_one, List.getElem?_eq_getElem h]; rfl
  rw [lnP, lnP, e, List.foldl_append]; rfl
theorem lnS_len (p : List (List Nat) × List Nat) (c : Nat) : (lnS p c).1.length + (lnS p c).2.length ≤ p.1.length + p.2.length + 1 := by
  unfold lnS; split
  · simp
  · simp only [List.length_append, List.length_singleton]; omega
theorem lnP_len (l : List Nat) (k : Nat) : (lnP l k).1.length + (lnP l k).2.length ≤ k := by
  induction k with
  | zero => simp [lnP]
  | succ k ih =>
    by_cases h : k < l.length
    · rw [lnP_step l k h]; have := lnS_len (lnP l k) l[k]; omega
    · have e : lnP l (k + 1) = lnP l k := by rw [lnP, lnP, List.take_of_length_le (by omega), List.take_of_length_le (by omega)]
      rw [e]; omega
theorem lnP_lt (l : List Nat) (hl : ∀ x ∈ l, x < 256) (k : Nat) : ∀ x ∈ (lnP l k).2, x < 256 := by
  induction k with
  | zero => simp [lnP]
  | succ k ih =>
    by_cases h : k < l.length
    · rw [lnP_step l k h, lnS]
      split
      · simp
      · intro x hx
        simp only [List.mem_append, List.mem_singleton] at hx
        rcases hx with hx | rfl
        · exact ih x hx
        · exact hl _ (List.getElem_mem h)
    · have e : lnP l (k + 1) = lnP l k := by rw [lnP, lnP, List.take_of_length_le (by omega), List.take_of_length_le (by omega)]
      rw [e]; exact ih
theorem chop_nil : chop [] = [] := rfl
theorem chop_cr (s : List Nat) (h : 0 < s.length) (hc : s[s.length - 1]'(by omega) = 13) : chop s = s.take (s.length - 1) := by
  have : s.getLast? = some 13 := by rw [List.getLast?_eq_getElem?, List.getElem?_eq_getElem (by omega), hc]
  rw [chop, if_pos this, List.dropLast_eq_take]
theorem chop_no (s : List Nat) (h : 0 < s.length) (hc : s[s.length - 1]'(by omega) ≠ 13) : chop s = s := by
  have : s.getLast? ≠ some 13 := by rw [List.getLast?_eq_getElem?, List.getElem?_eq_getElem (by omega)]; simpa using hc
  rw [chop, if_neg this]
/-- Texts of bytes. -/
def tsv (l : List (List Nat)) : List Value := sv (l.map strOf)
theorem tsv_snoc (l : List (List Nat)) (s : List Nat) : tsv (l ++ [s]) = tsv l ++ [.string (strOf s)] := by simp [tsv, sv]
def GivesLines (w : World) (l : List (List Nat)) (e : Ending) (w' : World) : Prop :=
  ∃ v, e = .returned v ∧ w'.ownsRow w.heap.size 9 1 v l.length (tsv l) ∧ Below w.heap.size w w'

set_option maxHeartbeats 8000000 in
theorem lines_any (l : List Nat) (hl : ∀ x ∈ l, x < 256) (A : Option Addr) (n c B : Nat) (hn : l.length = n) (hs : n ≤ 1000000) (w : World) (hA : Seen w B 1 A n c (l.map fun x : Nat => Value.int .u8 x)) (hB : B ≤ w.heap.size) :
    Calls Tryd.prog 41 #[.slice A n c] w (GivesLines w (linesL l)) := by
  obtain ⟨i0, hi0, hz0, hz1, hz2⟩ := info_parts str_info
  have HA := Lib.hid hA
  clear hA
  go_enter Tryd.func41, Tryd.ntmps41
  go_wp2
  go_loopg [3, 4, 9] n (fun j v r i wr => ∃ k : Nat, k ≤ n ∧ j = n - k ∧ r = .string (strOf (lnP l k).2) ∧ i = .int .i64 k ∧ wr.ownsRow w.heap.size 9 1 v (lnP l k).1.length (tsv (lnP l k).1) ∧ Below w.heap.size w wr)
  case atStart => exact ⟨0, by omega, rfl, rfl, rfl, World.ownsRow_nil _ _ _ _, Below.refl _ _⟩
  case round =>
    obtain ⟨k, hk, rfl, rfl, rfl, ho, hb⟩ := hrel
    by_cases hlt : k < n
    · have hkl : k < l.length := by omega
      obtain ⟨bk, o, u, rfl, hbk, hu, hcell⟩ := (HA.out.below (hb.mono hB)).at hlt
      have hc256 : l[k] < 256 := hl _ (List.getElem_mem hkl)
      obtain rfl : u = .int .u8 (l[k] : Nat) := by simpa [List.getElem?_eq_getElem hkl] using hu.symm
      have hst := lnP_step l k hkl
      have hle := lnP_len l k
      have hlt2 := lnP_lt l hl k
      clear hu
      obtain ⟨x, hx⟩ : ∃ x, l[k] = x := ⟨_, rfl⟩
      rw [hx] at hcell hst hc256
      obtain ⟨p, hp⟩ : ∃ p, lnP l k = p := ⟨_, rfl⟩
      rw [hp] at ho hst hle hlt2 ⊢
      obtain ⟨out, s⟩ := p
      simp only at ho hst hle hlt2 ⊢
      have HO := Lib.hid ho
      have HBB := Lib.hid hb
      have HST := Lib.hid hst
      have HP := Lib.hid hp
      clear ho hb hst hp hx
      by_cases h10 : x = 10
      · have hE : lnP l (k + 1) = (out ++ [chop s], []) := by rw [HST.out, lnS, if_pos h10]
        have d10 : ((x : Int) == 10) = true := by rw [h10]; rfl
        by_cases h0 : s.length = 0
        · obtain rfl : s = [] := List.eq_nil_of_length_eq_zero h0
          have he : (strOf []).toList.isEmpty = true := by rw [ba_empty]; rfl
          rw [chop_nil] at hE
          have BB := Lib.hid ((Below.refl wr.heap.size wr).alloc (Nat.le_refl _) (.cells #[.string (strOf [])] 9))
          have HO2 := Lib.hid (own_only HO.out (Only.of_below BB.out Nob) (fun _ _ h => h))
          have HS := Lib.hid (seen_one wr 9 (.string (strOf [])))
          have HZ := HBB.out.size
          go_wp2_with (at_builtin; refine wpList_append_seen _ rfl (.tmp 35) (.tmp 37) _ rfl w.heap.size 9 i0 _ 1 16 Tryd.underlying38 hi0 hz0 hz1 hz2 rfl (by omega) u3 out.length (tsv out) rfl HO2.out (wr.heap.size + 1) (some ⟨wr.heap.size, 0, none⟩) 1 1 [.string (strOf [])] rfl HS.out (by intro u hu; simp at hu; subst hu; rfl) (by simp [maxLen]; omega) (by omega) (by simp; omega) ?_; intro v2 w2 ho2 hg2 hv2)
          go_roundg (n - (k + 1))
          case measure => omega
          case rel =>
            refine ⟨k + 1, by omega, rfl, by rw [hE]; rfl, by go_num, ?_, (HBB.out.alloc HZ (.cells #[.string (strOf [])] 9)).grown hg2 (by simp; omega) (fun j hj => (own_whole HO.out hj).1)⟩
            rw [hE, tsv_snoc, List.length_append]
            exact ho2
        · have hsz := strOf_size s
          obtain ⟨t, ht⟩ : ∃ t, s.length = t := ⟨_, rfl⟩
          rw [ht] at hsz
          have he : (strOf s).toList.isEmpty = false := by rw [ba_empty, hsz]; exact decide_eq_false (by omega)
          have hat := strOf_at s hlt2 (t - 1) (by omega)
          have q1 : (t : Int) - 1 = ((t - 1 : Nat) : Int) := by omega
          by_cases h13 : s[t - 1] = 13
          · have hch : chop s = s.take (t - 1) := by subst ht; exact chop_cr s (by omega) h13
            have htk := strOf_take s (t - 1)
            rw [hch] at hE
            clear hch
            rw [h13] at hat
            have d13 : (((strOf s)[t - 1].toNat : Int) == 13) = true := by rw [hat]; rfl
            have BB := Lib.hid ((Below.refl wr.heap.size wr).alloc (Nat.le_refl _) (.cells #[.string (strOf (s.take (t - 1)))] 9))
            have HO2 := Lib.hid (own_only HO.out (Only.of_below BB.out Nob) (fun _ _ h => h))
            have HS := Lib.hid (seen_one wr 9 (.string (strOf (s.take (t - 1)))))
            have HZ := HBB.out.size
            have HE := Lib.hid hE
            clear hE
            go_wp2_with (at_builtin; refine wpList_append_seen _ rfl (.tmp 35) (.tmp 37) _ rfl w.heap.size 9 i0 _ 1 16 Tryd.underlying38 hi0 hz0 hz1 hz2 rfl (by omega) u3 out.length (tsv out) rfl HO2.out (wr.heap.size + 1) (some ⟨wr.heap.size, 0, none⟩) 1 1 [.string (strOf (s.take (t - 1)))] rfl HS.out (by intro u hu; simp at hu; subst hu; rfl) (by simp [maxLen]; omega) (by omega) (by simp; omega) ?_; intro v2 w2 ho2 hg2 hv2)
            go_roundg (n - (k + 1))
            case measure => omega
            case rel =>
              refine ⟨k + 1, by omega, rfl, by rw [HE.out]; rfl, by go_num, ?_, (HBB.out.alloc HZ (.cells #[.string (strOf (s.take (t - 1)))] 9)).grown hg2 (by simp; omega) (fun j hj => (own_whole HO.out hj).1)⟩
              rw [HE.out, tsv_snoc, List.length_append]
              exact ho2
          · have hch : chop s = s := by subst ht; exact chop_no s (by omega) h13
            have d13 : (((strOf s)[t - 1].toNat : Int) == 13) = false := by rw [hat, beq_eq_false_iff_ne]; omega
            rw [hch] at hE
            clear hch
            have BB := Lib.hid ((Below.refl wr.heap.size wr).alloc (Nat.le_refl _) (.cells #[.string (strOf s)] 9))
            have HO2 := Lib.hid (own_only HO.out (Only.of_below BB.out Nob) (fun _ _ h => h))
            have HS := Lib.hid (seen_one wr 9 (.string (strOf s)))
            have HZ := HBB.out.size
            have HE := Lib.hid hE
            clear hE
            go_wp2_with (at_builtin; refine wpList_append_seen _ rfl (.tmp 35) (.tmp 37) _ rfl w.heap.size 9 i0 _ 1 16 Tryd.underlying38 hi0 hz0 hz1 hz2 rfl (by omega) u3 out.length (tsv out) rfl HO2.out (wr.heap.size + 1) (some ⟨wr.heap.size, 0, none⟩) 1 1 [.string (strOf s)] rfl HS.out (by intro u hu; simp at hu; subst hu; rfl) (by simp [maxLen]; omega) (by omega) (by simp; omega) ?_; intro v2 w2 ho2 hg2 hv2)
            go_roundg (n - (k + 1))
            case measure => omega
            case rel =>
              refine ⟨k + 1, by omega, rfl, by rw [HE.out]; rfl, by go_num, ?_, (HBB.out.alloc HZ (.cells #[.string (strOf s)] 9)).grown hg2 (by simp; omega) (fun j hj => (own_whole HO.out hj).1)⟩
              rw [HE.out, tsv_snoc, List.length_append]
              exact ho2
      · have d10 : ((x : Int) == 10) = false := by rw [beq_eq_false_iff_ne]; omega
        have cv := conv1 wr (x : Int)
        have hsz := strOf_size s
        have hsz2 : (strOfNums [(x : Int)]).size = 1 := strOfNums_size _
        have hadd := run_string_add_sum (P := Tryd.prog) (w := wr.alloc (.cells #[.int .u8 (x : Int)] 5)) (strOf s) (strOfNums [(x : Int)]) (by rw [hsz, hsz2]; omega)
        rw [← strOf_snoc] at hadd
        clear hsz hsz2
        have hE : lnP l (k + 1) = (out, s ++ [x]) := by rw [HST.out, lnS, if_neg h10]
        go_wp2
        go_roundg (n - (k + 1))
        case measure => omega
        case rel =>
          refine ⟨k + 1, by omega, rfl, by rw [hE], by go_num, ?_, HBB.out.alloc HBB.out.size _⟩
          rw [hE]
          exact own_only HO.out (Only.of_below ((Below.refl _ _).alloc (Nat.le_refl _) _) Nob) (fun _ _ h => h)
    · obtain rfl : k = n := by omega
      go_wp2
      go_ret
      refine ⟨_, rfl, ?_, hb⟩
      rw [lnP, List.take_of_length_le (by omega)] at ho
      exact ho
end Go.Proofs.YteadhiehhpafjaaDoor
