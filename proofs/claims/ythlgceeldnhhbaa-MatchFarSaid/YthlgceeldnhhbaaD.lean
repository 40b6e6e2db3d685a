/-
  The contract of appended: what a token adds. Conditions: the token is right, its distance no farther than there are bytes, of which there are at most 2 to the 24.
-/
import Derived.Test.YthlgceeldnhhbaaC
namespace Go.Proofs.Ythlgceeldnhhbaa
open Go.RowKit
set_option maxRecDepth 100000

theorem bx_append (a b : List Nat) : bx (a ++ b) = bx a ++ bx b := by simp [bx]

/-- What a token adds to a row of one's own. -/
theorem appended_any (base : Nat) (v : Value) (o : List Nat) (m : Nat) (hm : o.length = m) (hl : m ≤ 16777216) (l : Nat) (n d : Int) (hr : rightT ⟨l, n, d⟩ = true) (hd : d ≤ m) (w : World) (hown : w.ownsRow base 5 1 v m (bx o)) (hb : base ≤ w.heap.size) :
    Calls Try.prog 16 #[v, .agg #[.int .u8 l, .int .i64 n, .int .i64 d]] w fun e w' => ∃ v', e = .returned v' ∧ w'.ownsRow base 5 1 v' (addT ⟨l, n, d⟩ o).length (bx (addT ⟨l, n, d⟩ o)) ∧ Below base w w' := by
  obtain ⟨i0, hi0, hz0, hz1, hz2⟩ := info_parts byte_info
  by_cases h0 : n = 0
  · subst h0
    have e : addT ⟨l, 0, d⟩ o = o ++ [l] := rfl
    rw [e]
    have HO := Lib.hid hown; clear hown e
    obtain ⟨A, c, rfl, _⟩ := own_form HO.out
    have HS : Hid (Seen ((w.alloc (.cells #[.int .u8 l, .int .i64 0, .int .i64 d] 29)).alloc (.cells #[.int .u8 l] 5)) (w.heap.size + 1 + 1) 1 (some ⟨w.heap.size + 1, 0, none⟩) 1 1 [.int .u8 l]) := Lib.hid (by have := seen_one (w.alloc (.cells #[.int .u8 l, .int .i64 0, .int .i64 d] 29)) 5 (.int .u8 l); simpa using this)
    have hB2 : Below w.heap.size w ((w.alloc (.cells #[.int .u8 l, .int .i64 0, .int .i64 d] 29)).alloc (.cells #[.int .u8 l] 5)) := ((Below.refl _ _).alloc (Nat.le_refl _) _).alloc (by simp) _
    have HO2 := Lib.hid (own_only HO.out (Only.of_below hB2 Nob) (fun _ _ h => h))
    have HB2 := Lib.hid hB2; clear hB2
    have hk : ∀ k, (Value.slice A m c).ownBlock = some k → base ≤ k := fun k hk => (own_whole HO.out hk).1
    have HK := Lib.hid hk; clear hk
    go_enter Try.func16, Try.ntmps16
    go_wp2_with (at_builtin; (refine wpList_append_seen _ rfl (.tmp 8) (.tmp 11) _ rfl base 5 i0 _ 1 1 Try.underlying24 hi0 hz0 hz1 hz2 rfl (by omega) (.slice A m c) m (bx o) rfl HO2.out _ _ 1 1 [.int .u8 l] rfl HS.out (by simp [Value.oneCell']) (by simp only [maxLen]; omega) (by omega) (Nat.le_trans hb HB2.out.size) ?_); intro v1 w1 hown1 hg1 hat1)
    go_ret
    refine ⟨_, rfl, by simpa [hm] using hown1, ?_⟩
    exact (HB2.out.mono hb).grown hg1 (Nat.le_trans hb HB2.out.size) (fun k hk => HK.out k hk)
  · obtain ⟨h00, hn1, hn2, hd1, hd2⟩ := rightT_copy hr h0
    clear h00
    simp only at hn1 hn2 hd1 hd2
    obtain ⟨N, rfl⟩ := Int.eq_ofNat_of_zero_le (show 0 ≤ n by omega)
    obtain ⟨D, rfl⟩ := Int.eq_ofNat_of_zero_le (show 0 ≤ d by omega)
    have e : addT ⟨l, N, D⟩ o = copyN D N o := by unfold addT; rw [if_neg h0]; rfl
    rw [e]
    have d0 : ((N : Int) == 0) = false := by simpa using h0
    have HO := Lib.hid hown; clear hown e hr h0
    obtain ⟨A, c, rfl, _⟩ := own_form HO.out
    have hB2 : Below w.heap.size w (w.alloc (.cells #[.int .u8 l, .int .i64 N, .int .i64 D] 29)) := ((Below.refl _ _).alloc (Nat.le_refl _) _)
    have HO2 := Lib.hid (own_only HO.out (Only.of_below hB2 Nob) (fun _ _ h => h))
    have HT : Hid (Whole (w.alloc (.cells #[.int .u8 l, .int .i64 N, .int .i64 D] 29)) w.heap.size 29 #[.int .u8 l, .int .i64 N, .int .i64 D]) := Lib.hid (Whole.new w 29 _)
    have HB2 := Lib.hid hB2; clear hB2
    have HM := Lib.hid hm
    go_enter Try.func16, Try.ntmps16
    go_wp2_with fail
    go_loopw [0, 15] (fun s i wr => ∃ k : Nat, k ≤ N ∧ i = .int .i64 k ∧ wr.ownsRow base 5 1 s (m + k) (bx (copyN D k o)) ∧ Whole wr w.heap.size 29 #[.int .u8 l, .int .i64 N, .int .i64 D] ∧ Below base w wr ∧ w.heap.size < wr.heap.size) (fun _ i _ => N - (intOf i).toNat)
    case atStart => exact ⟨0, Nat.zero_le _, rfl, by simpa [copyN] using HO2.out, HT.out, HB2.out.mono hb, by simp⟩
    case round =>
      obtain ⟨k, hk, rfl, hown, hWh, hbel, hsz⟩ := hrel
      by_cases hlt : k < N
      · have hcl := copyN_length D k o
        rw [HM.out] at hcl
        have HCS : Hid (copyN D (k + 1) o = copyN D k o ++ [(copyN D k o).getD (m + k - D) 0]) := Lib.hid (by rw [← hcl]; rfl)
        obtain ⟨O, hO⟩ : ∃ O, copyN D k o = O := ⟨_, rfl⟩
        rw [hO] at hown hcl HCS
        obtain ⟨x, hx⟩ : ∃ x, O.getD (m + k - D) 0 = x := ⟨_, rfl⟩
        rw [hx] at HCS
        obtain ⟨r, cap, rfl, hcap, hcapm⟩ := own_pos hown (by omega)
        obtain ⟨q, hq⟩ : ∃ q, m + k - D = q := ⟨_, rfl⟩
        have hXQ : (bx O)[q]? = some (.int .u8 (x : Nat)) := by
          rw [bx_get (by omega), ← hq, hx]
        have cq : wr.cell? ⟨r, q, none⟩ = some (.int .u8 (x : Nat)) := (own_cell hown hXQ).1
        have c2 := hWh.cell 2
        simp only [List.getElem?_toArray, List.getElem?_cons_succ, List.getElem?_cons_zero] at c2
        have wq : ((m + k : Nat) : Int) - D = q := by omega
        have wq' : (m : Int) + k - D = q := by omega
        have wq2 : IntKind.i64.wrap (q : Int) = q := IntWalk.i64_in _ (by omega)
        have q0 : (0 : Int) ≤ q := by omega
        have q1 : (q : Int) < (m + k : Nat) := by omega
        have q1' : (q : Int) < m + k := by omega
        have HS : Hid (Seen (wr.alloc (.cells #[.int .u8 x] 5)) (wr.heap.size + 1) 1 (some ⟨wr.heap.size, 0, none⟩) 1 1 [.int .u8 x]) := Lib.hid (seen_one wr 5 (.int .u8 x))
        have hB3 : Below wr.heap.size wr (wr.alloc (.cells #[.int .u8 x] 5)) := (Below.refl _ _).alloc (Nat.le_refl _) _
        have HO3 := Lib.hid (own_only hown (Only.of_below hB3 Nob) (fun _ _ h => h))
        have hbr : base ≤ r := (own_cell hown hXQ).2.2
        have hbk : base ≤ wr.heap.size := by omega
        have hne : r ≠ w.heap.size := own_ne_whole hown hWh (by decide) r rfl
        have HWH := Lib.hid hWh
        have HBEL := Lib.hid hbel
        clear hown hWh hbel hXQ hx hB3 hO
        go_wp2_with (at_builtin; (refine wpList_append_seen _ rfl (.tmp 17) (.tmp 26) _ rfl base 5 i0 _ 1 1 Try.underlying24 hi0 hz0 hz1 hz2 rfl (by omega) (.slice (some ⟨r, 0, none⟩) (m + k) cap) (m + k) (bx O) rfl HO3.out _ _ 1 1 [.int .u8 x] rfl HS.out (by simp [Value.oneCell']) (by simp only [maxLen]; omega) (by omega) (by simp; omega) ?_); intro v1 w1 hown1 hg1 hat1)
        have hw1 := ((HWH.out.alloc (.cells #[.int .u8 x] 5)).grown hg1 (by simpa [Value.ownBlock] using fun e => hne e.symm))
        have hb1 := (HBEL.out.alloc hbk (.cells #[.int .u8 x] 5)).grown hg1 (by simp; omega) (by simpa [Value.ownBlock] using hbr)
        have hs1 := hg1.size
        simp at hs1
        go_roundw
        case rel => exact ⟨k + 1, by omega, by go_num, by rw [HCS.out, bx_append]; simpa [Nat.add_assoc] using hown1, hw1, hb1, by omega⟩
        case measure => simp [intOf]; omega
      · obtain rfl : k = N := by omega
        have HO4 := Lib.hid hown
        have HB4 := Lib.hid hbel
        clear hown hWh hbel
        go_wp2_with fail
        go_ret
        refine ⟨_, rfl, ?_, HB4.out⟩
        rw [copyN_length, HM.out]
        exact HO4.out
end Go.Proofs.Ythlgceeldnhhbaa
