/-
  The library's IndexAny, ContainsAny for the three signs that no value has; the program's isValue. Conditions: a text of less than four thousand million bytes.
-/
import Derived.Test.YteadhiehhpafjaaDoorNF
import Derived.Lib.OthersKept
import Derived.Lib.DecodeN
namespace Go.Proofs.YteadhiehhpafjaaDoor
open Go.RowKit
set_option maxRecDepth 100000

theorem get_by (s : ByteArray) (k : Nat) : (s.get! k).toNat = by_ s k := by
  obtain ⟨d⟩ := s
  show (d[k]!).toNat = (d.toList.getD k 0).toNat
  by_cases h : k < d.size
  · have h2 : k < d.toList.length := by simpa using h
    rw [List.getD_eq_getElem?_getD, List.getElem?_eq_getElem h2, getElem!_pos d k h]; rfl
  · have h2 : d.toList.length ≤ k := by simpa using h
    rw [List.getD_eq_getElem?_getD, List.getElem?_eq_none h2, getElem!_neg d k h]; rfl
theorem dec_low (s : ByteArray) (i : Nat) (hi : i < s.size) (h : by_ s i < 128) : Utf8.decode s i = (by_ s i, 1) := by
  have hx := by_at s i hi
  rw [decode_ascii s i hi (by omega), hx]
theorem dec_high (s : ByteArray) (i : Nat) (hi : i < s.size) (h : 128 ≤ by_ s i) :
    128 ≤ (Utf8.decode s i).1 ∧ Sign (Utf8.decode s i).1 ∧ 1 ≤ (Utf8.decode s i).2 ∧ i + (Utf8.decode s i).2 ≤ s.size ∧ ∀ j, i ≤ j → j < i + (Utf8.decode s i).2 → 128 ≤ by_ s j := by
  have h4 := Lib.decode_at s i
  rw [get_by, get_by, get_by, get_by] at h4
  have l0 := by_lt s i
  generalize hb0 : by_ s i = b0 at *
  generalize hb1 : by_ s (i + 1) = b1 at *
  generalize hb2 : by_ s (i + 2) = b2 at *
  generalize hb3 : by_ s (i + 3) = b3 at *
  have key : 128 ≤ (Lib.decodeN (s.size - i) b0 b1 b2 b3).1 ∧ Sign (Lib.decodeN (s.size - i) b0 b1 b2 b3).1 ∧ 1 ≤ (Lib.decodeN (s.size - i) b0 b1 b2 b3).2 ∧ (Lib.decodeN (s.size - i) b0 b1 b2 b3).2 ≤ s.size - i ∧
      (Lib.decodeN (s.size - i) b0 b1 b2 b3).2 ≤ 4 ∧ (2 ≤ (Lib.decodeN (s.size - i) b0 b1 b2 b3).2 → 128 ≤ b1) ∧ (3 ≤ (Lib.decodeN (s.size - i) b0 b1 b2 b3).2 → 128 ≤ b2) ∧ (4 ≤ (Lib.decodeN (s.size - i) b0 b1 b2 b3).2 → 128 ≤ b3) := by
    unfold Lib.decodeN Sign
    repeat' split
    all_goals (simp only; omega)
  rw [h4]
  obtain ⟨k1, k2, k3, k4, k5, k6, k7, k8⟩ := key
  refine ⟨k1, k2, k3, by omega, fun j h1 h2 => ?_⟩
  have hj : j = i ∨ j = i + 1 ∨ j = i + 2 ∨ j = i + 3 := by omega
  rcases hj with rfl | rfl | rfl | rfl
  · omega
  · rw [hb1]; exact k6 (by omega)
  · rw [hb2]; exact k7 (by omega)
  · rw [hb3]; exact k8 (by omega)
theorem dec_next (s : ByteArray) (i : Nat) (hi : i < s.size) : 1 ≤ (Utf8.decode s i).2 ∧ i + (Utf8.decode s i).2 ≤ s.size := by
  by_cases h : by_ s i < 128
  · rw [dec_low s i hi h]; exact ⟨Nat.le_refl _, hi⟩
  · have := dec_high s i hi (by omega); exact ⟨this.2.2.1, this.2.2.2.1⟩

theorem badC_has (x : Nat) (h : x < 128) : decide (0 ≤ Lib.indexByte badC.data.toList (x : Int).toNat.toUInt8) = !okV x := by
  have : ∀ x : Fin 128, decide (0 ≤ Lib.indexByte badC.data.toList (x.val : Int).toNat.toUInt8) = !okV x.val := by decide +kernel
  exact this ⟨x, h⟩
theorem irune_low (x : Nat) (h : x < 128) (w : World) : Calls Tryd.prog 93 #[.string badC, .int .i32 x] w fun e w' => (∃ v : Int, e = .returned (.int .i64 v) ∧ decide (0 ≤ v) = !okV x) ∧ w' = w :=
  (Any.strings_IndexRune_ascii { Tryd.lays150 with } badC (x : Int) w (by omega) (by omega)).mono fun _ _ ⟨h1, h2⟩ => ⟨⟨_, h1, badC_has x h⟩, h2⟩

/-- What tells whether there is something. -/
def TellsIdx (w : World) (b : Bool) (e : Ending) (w' : World) : Prop := ∃ v : Int, e = .returned (.int .i64 v) ∧ decide (0 ≤ v) = b ∧ Below w.heap.size w w'

set_option maxHeartbeats 4000000 in
theorem iany_short (s : ByteArray) (n : Nat) (hn : s.size = n) (h8 : n ≤ 8) (w : World) : Calls Tryd.prog 95 #[.string s, .string badC] w (TellsIdx w (!valueM s)) := by
  have C := Lib.hid (fun W => Any.strings_shouldUseASCIISet (P := Tryd.prog) { Tryd.lays150 with } (n : Int) W)
  have hc3 : badC.size = 3 := rfl
  have hce : badC.toList.isEmpty = false := by rw [ba_empty]; rfl
  have I1 := Lib.hid irune_low
  have I2 := Lib.hid irune_none
  have h8z : decide ((8 : Int) < (n : Int)) = false := decide_eq_false (by omega)
  generalize badC = B at *
  go_enter Tryd.func95, Tryd.ntmps95
  go_wp2_with (go_at_call 99; refine (C.out _).mono ?_; rintro e w' ⟨rfl, hw⟩; rw [hw, h8z])
  obtain ⟨r, hr⟩ : ∃ r, (!valueM s) = r := ⟨_, rfl⟩
  rw [hr]
  have HR := Lib.hid hr
  clear hr
  go_loopg [9, 10] n (fun j _ _ wr => ∃ k : Nat, k ≤ n ∧ j = n - k ∧ wr.heap[w.heap.size]? = some (.stringIter s k) ∧ Below w.heap.size w wr ∧ ∀ j, j < k → okV (by_ s j) = true)
  case atStart => exact ⟨0, by omega, rfl, World.iter_heap w s 0, (Below.refl _ _).alloc (Nat.le_refl _) _, fun j hj => by omega⟩
  case round =>
    obtain ⟨k, hk, rfl, hit, hbl, hal⟩ := hrel
    have HBL := Lib.hid hbl
    clear hbl
    by_cases hlt : k < n
    · have hks : k < s.size := by omega
      have hnx := fun ty => Lib.run_next_any_at (P := Tryd.prog) wr w.heap.size s k ty hit hks
      obtain ⟨d, hd⟩ : ∃ d, Utf8.decode s k = d := ⟨_, rfl⟩
      rw [hd] at hnx
      have hdn := dec_next s k hks
      rw [hd] at hdn
      have HDN := Lib.hid hdn
      have HIT := Lib.hid (Lib.iterAt_heap wr w.heap.size s k (k + d.2) hit)
      have HB2 := Lib.hid (Lib.below_iterAt HBL.out (Nat.le_refl _) s (k + d.2))
      clear hdn
      generalize wr.iterAt w.heap.size s (k + d.2) = W1 at hnx HIT HB2
      by_cases hx : by_ s k < 128
      · have hdl := dec_low s k hks hx
        rw [hd] at hdl
        obtain rfl := hdl
        simp only at hnx HDN HIT
        cases ho : okV (by_ s k) with
        | true =>
          have HN : Hid (∀ j, j < k + 1 → okV (by_ s j) = true) := Lib.hid (fun j hj => by
            by_cases hjk : j < k
            · exact hal j hjk
            · obtain rfl : j = k := by omega
              exact ho)
          have IX := Lib.hid (fun W => I1.out (by_ s k) hx W)
          rw [ho] at IX
          clear ho hal hit
          generalize by_ s k = x at hnx IX hx
          go_wp2_with (go_at_call 93; refine (IX.out _).mono ?_; rintro e w' ⟨⟨v, rfl, hv⟩, rfl⟩)
          go_roundg (n - (k + 1))
          case measure => omega
          case rel => exact ⟨k + 1, by omega, rfl, HIT.out, HB2.out, HN.out⟩
        | false =>
          have hvm := valueM_no hks ho
          have IX := Lib.hid (fun W => I1.out (by_ s k) hx W)
          rw [ho] at IX
          have HV := Lib.hid hvm
          clear ho hal hit hvm
          generalize by_ s k = x at hnx IX hx
          go_wp2_with (go_at_call 93; refine (IX.out _).mono ?_; rintro e w' ⟨⟨v, rfl, hv⟩, rfl⟩)
          go_ret
          refine ⟨_, rfl, ?_, HB2.out⟩
          rw [← HR.out, HV.out]
          simp
      · have hh := dec_high s k hks (by omega)
        rw [hd] at hh
        obtain ⟨x1, x2, x3, x4, x5⟩ := hh
        have HN : Hid (∀ j, j < k + d.2 → okV (by_ s j) = true) := Lib.hid (fun j hj => by
          by_cases hjk : j < k
          · exact hal j hjk
          · have := x5 j (by omega) (by omega)
            exact okV_yes.2 ⟨by omega, by omega, by omega⟩)
        have IX := Lib.hid (fun W => I2.out d.1 x2 x1 W)
        have HX3 := Lib.hid x3
        have HX4 := Lib.hid x4
        clear x1 x2 x3 x4 x5 hal hit hd hx
        obtain ⟨x, m⟩ := d
        simp only at hnx HDN HIT IX HX3 HX4 HN
        go_wp2_with (go_at_call 93; refine (IX.out _).mono ?_; rintro e w' ⟨rfl, b1⟩)
        have HBW := Lib.hid (bel_after HB2.out (Nat.le_refl _) b1)
        have hlt1 : w.heap.size < W1.heap.size := (Array.getElem?_eq_some_iff.1 HIT.out).1
        go_roundg (n - (k + m))
        case measure => have := HX3.out; have := HX4.out; omega
        case rel => exact ⟨k + m, by have := HX4.out; omega, rfl, (b1.block _ hlt1).trans HIT.out, HBW.out, HN.out⟩
    · obtain rfl : k = n := by omega
      have hv := valueM_yes (fun j (hj : j < s.size) => hal j (by omega))
      have hnx := fun ty => Lib.run_next_end_at (P := Tryd.prog) wr w.heap.size s k ty hit (by omega)
      have HV := Lib.hid hv
      clear hal hit hv
      go_wp2
      go_ret
      refine ⟨_, rfl, ?_, HBL.out⟩
      rw [HV.out]
      rfl

theorem valueM_list (s : ByteArray) : valueM s = s.data.toList.all fun u => okV u.toNat := by
  rw [Bool.eq_iff_iff, valueM, List.all_eq_true, List.all_eq_true]
  constructor
  · intro h u hu
    obtain ⟨k, hk, rfl⟩ := List.getElem_of_mem hu
    have := h k (List.mem_range.2 (by simpa using hk))
    simpa [by_, List.getD_eq_getElem?_getD, List.getElem?_eq_getElem hk] using this
  · intro h k hk
    have hk' : k < s.data.toList.length := by simpa using List.mem_range.1 hk
    have := h _ (List.getElem_mem hk')
    simpa [by_, List.getD_eq_getElem?_getD, List.getElem?_eq_getElem hk'] using this
theorem badC_contains (u : UInt8) : badC.data.toList.contains u = !okV u.toNat := by
  have : ∀ x : Fin 256, badC.data.toList.contains (UInt8.ofNat x.val) = !okV x.val := by decide +kernel
  have h := this ⟨u.toNat, UInt8.toNat_lt _⟩
  simpa using h
theorem badC_any (l : List UInt8) : decide (0 ≤ Lib.indexAny l badC.data.toList) = !(l.all fun u => okV u.toNat) := by
  induction l with
  | nil => rfl
  | cons b l ih =>
    rw [Lib.indexAny, badC_contains, List.all_cons]
    have hge := Lib.indexAny_ge badC.data.toList l
    cases hb : okV b.toNat with
    | false => simp
    | true =>
      rw [Bool.true_and, ← ih]
      by_cases hm : Lib.indexAny l badC.data.toList = -1
      · rw [hm]; rfl
      · have : (Lib.indexAny l badC.data.toList == -1) = false := by rw [beq_eq_false_iff_ne]; exact hm
        rw [this]
        simp; omega

set_option maxHeartbeats 2000000 in
theorem iany_any (s : ByteArray) (hs : s.size < 4294967281) (w : World) : Calls Tryd.prog 95 #[.string s, .string badC] w (TellsIdx w (!valueM s)) := by
  by_cases h8 : s.size ≤ 8
  · exact iany_short s s.size rfl h8 w
  · have hz : (Tryd.prog.info? 97).map (fun i => (i.zero, i.size)) = some (some (.agg (Array.replicate 256 (.bool false))), 256) := by kernel_rfl
    refine (Any.strings_IndexAny_long (P := Tryd.prog) { Tryd.lays150 with } (zero_of_info hz).1 (zero_of_info hz).2 s badC w (by decide) (by omega) hs (by decide) ?_).mono ?_
    · intro j b hb
      match j, hb with
      | 0, hb => cases hb; decide
      | 1, hb => cases hb; decide
      | 2, hb => cases hb; decide
    · rintro e w' ⟨rfl, rfl⟩
      refine ⟨_, rfl, ?_, ((Below.refl _ _).alloc (Nat.le_refl _) _).alloc (by simp) _⟩
      rw [badC_any, valueM_list]

theorem cany_any (s : ByteArray) (hs : s.size < 4294967281) (w : World) : Calls Tryd.prog 83 #[.string s, .string badC] w (Gives w (.bool (!valueM s))) := by
  have I := Lib.hid (fun W => iany_any s hs W)
  generalize badC = B at *
  go_enter Tryd.func83, Tryd.ntmps83
  go_wp2_with (go_at_call 95; refine (I.out _).mono ?_; rintro e w' ⟨v, rfl, hv, b1⟩)
  go_ret
  exact ⟨by rw [← hv]; rfl, b1⟩

theorem pvalue_any (s : ByteArray) (hs : s.size < 4294967281) (w : World) : Calls Tryd.prog 68 #[.string s] w (Gives w (.bool (valueM s))) := by
  have I := Lib.hid (fun W => cany_any s hs W)
  unfold badC at I
  go_enter Tryd.func68, Tryd.ntmps68
  go_wp2_with (go_at_call 83; refine (I.out _).mono ?_; rintro e w' ⟨rfl, b1⟩)
  go_ret
  exact ⟨by simp, b1⟩
end Go.Proofs.YteadhiehhpafjaaDoor
