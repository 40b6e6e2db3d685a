/-
  The contract of the document's Expand. Conditions: both slices are read as told (Seen), there are at most a thousand runs.
-/
import Derived.Test.YtnobeghnljjidaaE
namespace Go.Proofs.Ytnobeghnljjidaa
open Go.RowKit
set_option maxRecDepth 100000

def sgs (l : List Rn) : List Int := l.map Rn.sign
def mrs (l : List Rn) : List Int := l.map Rn.more
@[simp] theorem sgs_length (l : List Rn) : (sgs l).length = l.length := List.length_map _
@[simp] theorem mrs_length (l : List Rn) : (mrs l).length = l.length := List.length_map _

set_option maxHeartbeats 4000000 in
theorem rexpand_any (A A2 : Option Addr) (n c c2 B : Nat) (l : List Rn) (hwf : ∀ r ∈ l, r.more ≤ 9223372036854775807) (hn : n ≤ 1000) (w : World) (hs : Seen w B 1 A n c (iv (sgs l))) (hs2 : Seen w B 1 A2 n c2 (iv (mrs l))) (hB : B ≤ w.heap.size) :
    Calls Try.prog 11 #[.slice A n c, .slice A2 n c2] w (ExpRes l w) := by
  obtain ⟨i0, hi0, hz0, hz1, hz2⟩ := info_parts int_info
  have hln : l.length = n := by have := hs.1; simpa using this
  have HS := Lib.hid hs; clear hs
  have HS2 := Lib.hid hs2; clear hs2
  have HLN := Lib.hid hln; clear hln
  have HWF := Lib.hid hwf; clear hwf
  go_enter Try.func11, Try.ntmps11
  go_wp2_with fail
  go_loopw [6, 14] (fun s i wr => ∃ (k : Nat) (o : List Int), k ≤ n ∧ i = .int .i64 k ∧ wr.ownsRow w.heap.size 3 1 s o.length (iv o) ∧ expR l [] = expR (l.drop k) o ∧ o.length ≤ 320 ∧ Below w.heap.size w wr) (fun _ i _ => n - (intOf i).toNat)
  case atStart => exact ⟨0, [], Nat.zero_le _, rfl, World.ownsRow_nil _ _ _ _, rfl, by simp, (Below.refl _ _)⟩
  case round =>
    obtain ⟨k, o, hk, rfl, hown, hexp, hom, hbel⟩ := hrel
    by_cases hlt : k < n
    · have hkl : k < l.length := by have := HLN.out; omega
      obtain ⟨b, of', rfl, hbB, c0⟩ := (HS.out.below (hbel.mono hB)).int (by simpa using HLN.out) hlt
      obtain ⟨b2, of2, rfl, hbB2, c1⟩ := (HS2.out.below (hbel.mono hB)).int (by simpa using HLN.out) hlt
      have hdr : l.drop k = l[k] :: l.drop (k + 1) := List.drop_eq_getElem_cons hkl
      have e0 : (sgs l)[k]'(by simpa using hkl) = (l[k]).sign := by simp [sgs]
      have e1 : (mrs l)[k]'(by simpa using hkl) = (l[k]).more := by simp [mrs]
      rw [e0] at c0
      rw [e1] at c1
      rw [hdr] at hexp
      have hmx := HWF.out l[k] (List.getElem_mem hkl)
      obtain ⟨⟨ts, tm⟩, ht⟩ : ∃ t, l[k] = t := ⟨_, rfl⟩
      rw [ht] at c0 c1 hexp hmx
      simp only at c0 c1 hmx
      obtain ⟨As, cs, rfl, _⟩ := own_form hown
      have CW := Lib.hid (fun W => rright_any ts tm hmx W)
      have HO := Lib.hid hown
      have HBel := Lib.hid hbel
      obtain ⟨x, hx⟩ : ∃ x, wrongR ⟨ts, tm⟩ o.length = x := ⟨_, rfl⟩
      have hx' := hx
      unfold wrongR at hx'
      have HX := Lib.hid hx
      obtain ⟨ol, hol⟩ : ∃ ol, o.length = ol := ⟨_, rfl⟩
      rw [hol] at hom HO hx' ⊢
      have HOL := Lib.hid hol
      have hk0 : (0 : Int) ≤ k := by omega
      clear hown hbel hdr hx hol e0 e1 ht hmx
      obtain ⟨R, hR⟩ : ∃ R, rightR ⟨ts, tm⟩ = R := ⟨_, rfl⟩
      rw [hR] at CW hx'
      cases R with
      | false =>
        rw [if_pos rfl] at hx'
        subst hx'
        rw [expR_er (by rw [HX.out]; omega), HX.out] at hexp
        have HE := Lib.hid hexp; clear hexp hR
        go_wp2_with fail
        refine (CW.out _).mono ?_; rintro e w1 ⟨rfl, rfl⟩
        go_wp2_with fail
        go_ret2
        exact .inr ⟨5, by omega, by omega, HE.out, rfl, HBel.out⟩
      | true =>
        rw [if_neg (by simp)] at hx'
        have h4 := rightR_nums hR
        simp only at h4 hx'
        have h6 := roomR_pos ts
        have hmm : 0 ≤ tm ∧ tm < 128 := by omega
        clear hR
        by_cases h16 : ts = 16
        · subst h16
          by_cases hol0 : ol = 0
          · subst hol0
            rw [if_pos ⟨rfl, rfl⟩] at hx'
            subst hx'
            rw [expR_er (by rw [HX.out]; omega), HX.out] at hexp
            have HE := Lib.hid hexp; clear hexp h4 h6
            go_wp2_with fail
            refine (CW.out _).mono ?_; rintro e w1 ⟨rfl, rfl⟩
            go_wp2_with fail
            go_ret2
            exact .inr ⟨2, by omega, by omega, HE.out, rfl, HBel.out⟩
          · rw [if_neg (by omega)] at hx'
            have dol : ((ol : Int) == 0) = false := by simpa using hol0
            have dol' : (ol == 0) = false := by simpa using hol0
            have hle : leastR 16 = 3 := rfl
            obtain ⟨m, rfl⟩ : ∃ m, ol = m + 1 := ⟨ol - 1, by omega⟩
            have dol2 : ((m : Int) + 1 == 0) = false := by simp; omega
            obtain ⟨rb, rcap, e, _, _⟩ := own_pos HO.out (by omega)
            injection e with e1 e2 e3
            subst e1 e3
            have hol2 := HOL.out
            have hyy : toldR 16 o = o[m]'(by omega) := by simp [toldR, List.getD, hol2]
            obtain ⟨y, hy⟩ : ∃ y, toldR 16 o = y := ⟨_, rfl⟩
            have cq : wr.cell? ⟨rb, m, none⟩ = some (.int .i64 y) := (own_cell HO.out (by rw [iv_get? (by omega), ← hy, hyy])).1
            clear hyy hol2
            obtain ⟨N, hN⟩ : ∃ N : Nat, (3 : Int) + tm = N := Int.eq_ofNat_of_zero_le (by omega)
            rw [hle, hN] at hx'
            clear h4 h6
            by_cases hlg : 320 - (((m + 1) : Nat) : Int) < N
            · rw [if_pos hlg] at hx'
              subst hx'
              rw [expR_er (by rw [HX.out]; omega), HX.out] at hexp
              have HE := Lib.hid hexp; clear hexp hle hy
              have dl : decide (320 - (((m + 1) : Nat) : Int) < N) = true := decide_eq_true hlg
              go_wp2_with fail
              refine (CW.out _).mono ?_; rintro e w1 ⟨rfl, rfl⟩
              go_wp2_with fail
              go_quiet (fail)
              go_wp2_with fail
              go_ret2
              exact .inr ⟨4, by omega, by omega, HE.out, rfl, below_drewN HBel.out _⟩
            · rw [if_neg hlg] at hx'
              subst hx'
              rw [expR_ok HX.out] at hexp
              have hlen := (addR_length HX.out).2
              have hadd : addR ⟨16, tm⟩ o = o ++ List.replicate N y := by unfold addR; simp only; rw [hle, hy, hN, Int.toNat_natCast]
              rw [hadd] at hexp hlen
              have dl : decide (320 - (((m + 1) : Nat) : Int) < N) = false := decide_eq_false hlg
              have HE := Lib.hid hexp
              have HLE := Lib.hid hlen
              clear hexp hlen hle hy hadd
              go_wp2_with fail
              refine (CW.out _).mono ?_; rintro e w1 ⟨rfl, rfl⟩
              go_wp2_with fail
              go_quiet (fail)
              go_wp2_with fail
              go_loopw [6, 11] (fun s i wq => ∃ j : Nat, j ≤ N ∧ i = .int .i64 j ∧ wq.ownsRow w.heap.size 3 1 s ((m + 1) + j) (iv (o ++ List.replicate j y)) ∧ Below w.heap.size w wq) (fun _ i _ => N - (intOf i).toNat)
              case atStart => exact ⟨0, Nat.zero_le _, rfl, by simpa using own_only HO.out ((Only.refl Nob _).drewN _) (fun _ _ h => h), below_drewN HBel.out _⟩
              case round =>
                obtain ⟨j, hj, rfl, hown4, hbel4⟩ := hrel
                by_cases hjN : j < N
                · have dj : decide ((j : Int) < N) = true := decide_eq_true (by omega)
                  obtain ⟨A4, c4, rfl, _⟩ := own_form hown4
                  have HS5 : Hid (Seen (wr.alloc (.cells #[.int .i64 y] 3)) (wr.heap.size + 1) 1 (some ⟨wr.heap.size, 0, none⟩) 1 1 [.int .i64 y]) := Lib.hid (seen_one wr 3 (.int .i64 y))
                  have hB5 : Below wr.heap.size wr (wr.alloc (.cells #[.int .i64 y] 3)) := (Below.refl _ _).alloc (Nat.le_refl _) _
                  have HO5 := Lib.hid (own_only hown4 (Only.of_below hB5 Nob) (fun _ _ h => h))
                  have hbk : w.heap.size ≤ wr.heap.size := hbel4.size
                  have hkk : ∀ k, (Value.slice A4 ((m + 1) + j) c4).ownBlock = some k → w.heap.size ≤ k := fun k hk => (own_whole hown4 hk).1
                  have HKK := Lib.hid hkk
                  have HBEL := Lib.hid hbel4
                  clear hown4 hbel4 hB5 hkk
                  go_wp2_with (at_builtin; (refine wpList_append_seen _ rfl (.tmp 68) (.tmp 70) _ rfl w.heap.size 3 i0 _ 1 8 Try.underlying24 hi0 hz0 hz1 hz2 rfl (by omega) (.slice A4 ((m + 1) + j) c4) ((m + 1) + j) (iv (o ++ List.replicate j y)) rfl HO5.out _ _ 1 1 [.int .i64 y] rfl HS5.out (one_int _) (by simp only [maxLen]; omega) (by omega) (by simp; omega) ?_); intro v2 w3 hown2 hg2 hat2)
                  have hb2 := (HBEL.out.alloc hbk (.cells #[.int .i64 y] 3)).grown hg2 (by simp; omega) (fun k hk => HKK.out k hk)
                  go_roundw
                  case rel => exact ⟨j + 1, by omega, by go_num, by rw [addR_take, iv_append]; exact hown2, hb2⟩
                  case measure => simp [intOf]; omega
                · obtain rfl : j = N := by omega
                  have dj : decide ((j : Int) < j) = false := decide_eq_false (by omega)
                  have HO5 := Lib.hid hown4
                  have HB5 := Lib.hid hbel4
                  clear hown4 hbel4
                  go_wp2_with fail
                  go_roundw
                  case rel => exact ⟨k + 1, o ++ List.replicate j y, by omega, by go_num, by rw [List.length_append, List.length_replicate, HOL.out]; exact HO5.out, HE.out, HLE.out, HB5.out⟩
                  case measure => simp [intOf]; omega
        · rw [if_neg (by omega)] at hx'
          have d16 : (ts == 16) = false := by simpa using h16
          by_cases h17 : ts = 17
          · subst h17
            have hle : leastR 17 = 3 := rfl
            obtain ⟨y, hy⟩ : ∃ y, toldR 17 o = y := ⟨_, rfl⟩
            have hy0 : toldR 17 o = 0 := rfl
            obtain rfl : y = 0 := by rw [← hy, hy0]
            clear hy0
            obtain ⟨N, hN⟩ : ∃ N : Nat, (3 : Int) + tm = N := Int.eq_ofNat_of_zero_le (by omega)
            rw [hle, hN] at hx'
            clear h4 h6
            by_cases hlg : 320 - ((ol : Nat) : Int) < N
            · rw [if_pos hlg] at hx'
              subst hx'
              rw [expR_er (by rw [HX.out]; omega), HX.out] at hexp
              have HE := Lib.hid hexp; clear hexp hle hy
              have dl : decide (320 - ((ol : Nat) : Int) < N) = true := decide_eq_true hlg
              go_wp2_with fail
              refine (CW.out _).mono ?_; rintro e w1 ⟨rfl, rfl⟩
              go_wp2_with fail
              go_quiet (fail)
              go_wp2_with fail
              go_ret2
              exact .inr ⟨4, by omega, by omega, HE.out, rfl, below_drewN HBel.out _⟩
            · rw [if_neg hlg] at hx'
              subst hx'
              rw [expR_ok HX.out] at hexp
              have hlen := (addR_length HX.out).2
              have hadd : addR ⟨17, tm⟩ o = o ++ List.replicate N 0 := by unfold addR; simp only; rw [hle, hy, hN, Int.toNat_natCast]
              rw [hadd] at hexp hlen
              have dl : decide (320 - ((ol : Nat) : Int) < N) = false := decide_eq_false hlg
              have HE := Lib.hid hexp
              have HLE := Lib.hid hlen
              clear hexp hlen hle hy hadd
              go_wp2_with fail
              refine (CW.out _).mono ?_; rintro e w1 ⟨rfl, rfl⟩
              go_wp2_with fail
              go_quiet (fail)
              go_wp2_with fail
              go_loopw [6, 11] (fun s i wq => ∃ j : Nat, j ≤ N ∧ i = .int .i64 j ∧ wq.ownsRow w.heap.size 3 1 s (ol + j) (iv (o ++ List.replicate j 0)) ∧ Below w.heap.size w wq) (fun _ i _ => N - (intOf i).toNat)
              case atStart => exact ⟨0, Nat.zero_le _, rfl, by simpa using own_only HO.out ((Only.refl Nob _).drewN _) (fun _ _ h => h), below_drewN HBel.out _⟩
              case round =>
                obtain ⟨j, hj, rfl, hown4, hbel4⟩ := hrel
                by_cases hjN : j < N
                · have dj : decide ((j : Int) < N) = true := decide_eq_true (by omega)
                  obtain ⟨A4, c4, rfl, _⟩ := own_form hown4
                  have HS5 : Hid (Seen (wr.alloc (.cells #[.int .i64 0] 3)) (wr.heap.size + 1) 1 (some ⟨wr.heap.size, 0, none⟩) 1 1 [.int .i64 0]) := Lib.hid (seen_one wr 3 (.int .i64 0))
                  have hB5 : Below wr.heap.size wr (wr.alloc (.cells #[.int .i64 0] 3)) := (Below.refl _ _).alloc (Nat.le_refl _) _
                  have HO5 := Lib.hid (own_only hown4 (Only.of_below hB5 Nob) (fun _ _ h => h))
                  have hbk : w.heap.size ≤ wr.heap.size := hbel4.size
                  have hkk : ∀ k, (Value.slice A4 (ol + j) c4).ownBlock = some k → w.heap.size ≤ k := fun k hk => (own_whole hown4 hk).1
                  have HKK := Lib.hid hkk
                  have HBEL := Lib.hid hbel4
                  clear hown4 hbel4 hB5 hkk
                  go_wp2_with (at_builtin; (refine wpList_append_seen _ rfl (.tmp 68) (.tmp 70) _ rfl w.heap.size 3 i0 _ 1 8 Try.underlying24 hi0 hz0 hz1 hz2 rfl (by omega) (.slice A4 (ol + j) c4) (ol + j) (iv (o ++ List.replicate j 0)) rfl HO5.out _ _ 1 1 [.int .i64 0] rfl HS5.out (one_int _) (by simp only [maxLen]; omega) (by omega) (by simp; omega) ?_); intro v2 w3 hown2 hg2 hat2)
                  have hb2 := (HBEL.out.alloc hbk (.cells #[.int .i64 0] 3)).grown hg2 (by simp; omega) (fun k hk => HKK.out k hk)
                  go_roundw
                  case rel => exact ⟨j + 1, by omega, by go_num, by rw [addR_take, iv_append]; exact hown2, hb2⟩
                  case measure => simp [intOf]; omega
                · obtain rfl : j = N := by omega
                  have dj : decide ((j : Int) < j) = false := decide_eq_false (by omega)
                  have HO5 := Lib.hid hown4
                  have HB5 := Lib.hid hbel4
                  clear hown4 hbel4
                  go_wp2_with fail
                  go_roundw
                  case rel => exact ⟨k + 1, o ++ List.replicate j 0, by omega, by go_num, by rw [List.length_append, List.length_replicate, HOL.out]; exact HO5.out, HE.out, HLE.out, HB5.out⟩
                  case measure => simp [intOf]; omega
          · have d17 : (ts == 17) = false := by simpa using h17
            by_cases h18 : ts = 18
            · subst h18
              have hle : leastR 18 = 11 := rfl
              obtain ⟨y, hy⟩ : ∃ y, toldR 18 o = y := ⟨_, rfl⟩
              have hy0 : toldR 18 o = 0 := rfl
              obtain rfl : y = 0 := by rw [← hy, hy0]
              clear hy0
              obtain ⟨N, hN⟩ : ∃ N : Nat, (11 : Int) + tm = N := Int.eq_ofNat_of_zero_le (by omega)
              rw [hle, hN] at hx'
              clear h4 h6
              by_cases hlg : 320 - ((ol : Nat) : Int) < N
              · rw [if_pos hlg] at hx'
                subst hx'
                rw [expR_er (by rw [HX.out]; omega), HX.out] at hexp
                have HE := Lib.hid hexp; clear hexp hle hy
                have dl : decide (320 - ((ol : Nat) : Int) < N) = true := decide_eq_true hlg
                go_wp2_with fail
                refine (CW.out _).mono ?_; rintro e w1 ⟨rfl, rfl⟩
                go_wp2_with fail
                go_quiet (fail)
                go_wp2_with fail
                go_ret2
                exact .inr ⟨4, by omega, by omega, HE.out, rfl, below_drewN HBel.out _⟩
              · rw [if_neg hlg] at hx'
                subst hx'
                rw [expR_ok HX.out] at hexp
                have hlen := (addR_length HX.out).2
                have hadd : addR ⟨18, tm⟩ o = o ++ List.replicate N 0 := by unfold addR; simp only; rw [hle, hy, hN, Int.toNat_natCast]
                rw [hadd] at hexp hlen
                have dl : decide (320 - ((ol : Nat) : Int) < N) = false := decide_eq_false hlg
                have HE := Lib.hid hexp
                have HLE := Lib.hid hlen
                clear hexp hlen hle hy hadd
                go_wp2_with fail
                refine (CW.out _).mono ?_; rintro e w1 ⟨rfl, rfl⟩
                go_wp2_with fail
                go_quiet (fail)
                go_wp2_with fail
                go_loopw [6, 11] (fun s i wq => ∃ j : Nat, j ≤ N ∧ i = .int .i64 j ∧ wq.ownsRow w.heap.size 3 1 s (ol + j) (iv (o ++ List.replicate j 0)) ∧ Below w.heap.size w wq) (fun _ i _ => N - (intOf i).toNat)
                case atStart => exact ⟨0, Nat.zero_le _, rfl, by simpa using own_only HO.out ((Only.refl Nob _).drewN _) (fun _ _ h => h), below_drewN HBel.out _⟩
                case round =>
                  obtain ⟨j, hj, rfl, hown4, hbel4⟩ := hrel
                  by_cases hjN : j < N
                  · have dj : decide ((j : Int) < N) = true := decide_eq_true (by omega)
                    obtain ⟨A4, c4, rfl, _⟩ := own_form hown4
                    have HS5 : Hid (Seen (wr.alloc (.cells #[.int .i64 0] 3)) (wr.heap.size + 1) 1 (some ⟨wr.heap.size, 0, none⟩) 1 1 [.int .i64 0]) := Lib.hid (seen_one wr 3 (.int .i64 0))
                    have hB5 : Below wr.heap.size wr (wr.alloc (.cells #[.int .i64 0] 3)) := (Below.refl _ _).alloc (Nat.le_refl _) _
                    have HO5 := Lib.hid (own_only hown4 (Only.of_below hB5 Nob) (fun _ _ h => h))
                    have hbk : w.heap.size ≤ wr.heap.size := hbel4.size
                    have hkk : ∀ k, (Value.slice A4 (ol + j) c4).ownBlock = some k → w.heap.size ≤ k := fun k hk => (own_whole hown4 hk).1
                    have HKK := Lib.hid hkk
                    have HBEL := Lib.hid hbel4
                    clear hown4 hbel4 hB5 hkk
                    go_wp2_with (at_builtin; (refine wpList_append_seen _ rfl (.tmp 68) (.tmp 70) _ rfl w.heap.size 3 i0 _ 1 8 Try.underlying24 hi0 hz0 hz1 hz2 rfl (by omega) (.slice A4 (ol + j) c4) (ol + j) (iv (o ++ List.replicate j 0)) rfl HO5.out _ _ 1 1 [.int .i64 0] rfl HS5.out (one_int _) (by simp only [maxLen]; omega) (by omega) (by simp; omega) ?_); intro v2 w3 hown2 hg2 hat2)
                    have hb2 := (HBEL.out.alloc hbk (.cells #[.int .i64 0] 3)).grown hg2 (by simp; omega) (fun k hk => HKK.out k hk)
                    go_roundw
                    case rel => exact ⟨j + 1, by omega, by go_num, by rw [addR_take, iv_append]; exact hown2, hb2⟩
                    case measure => simp [intOf]; omega
                  · obtain rfl : j = N := by omega
                    have dj : decide ((j : Int) < j) = false := decide_eq_false (by omega)
                    have HO5 := Lib.hid hown4
                    have HB5 := Lib.hid hbel4
                    clear hown4 hbel4
                    go_wp2_with fail
                    go_roundw
                    case rel => exact ⟨k + 1, o ++ List.replicate j 0, by omega, by go_num, by rw [List.length_append, List.length_replicate, HOL.out]; exact HO5.out, HE.out, HLE.out, HB5.out⟩
                    case measure => simp [intOf]; omega
            · have d18 : (ts == 18) = false := by simpa using h18
              have hle : leastR ts = 1 := by simp [leastR, h16, h17, h18]
              have hroom : roomR ts = 1 := by simp [roomR, h16, h17, h18]
              obtain ⟨y, hy⟩ : ∃ y, toldR ts o = y := ⟨_, rfl⟩
              have hy0 : toldR ts o = ts := by simp [toldR, h16, h17, h18]
              obtain rfl : y = ts := by rw [← hy, hy0]
              have htm : tm = 0 := by omega
              clear hy0 h16 h17 h18
              subst htm
              rw [hle] at hx'
              clear h4 h6 hmm hroom
              have e10 : (1 : Int) + 0 = 1 := rfl
              rw [e10] at hx'
              by_cases hlg : 320 - (ol : Int) < 1
              · rw [if_pos hlg] at hx'
                subst hx'
                rw [expR_er (by rw [HX.out]; omega), HX.out] at hexp
                have HE := Lib.hid hexp; clear hexp hle hy
                have dl : decide (320 - (ol : Int) < 1) = true := decide_eq_true hlg
                clear hlg
                go_wp2_with fail
                refine (CW.out _).mono ?_; rintro e w1 ⟨rfl, rfl⟩
                go_wp2_with fail
                go_ret2
                exact .inr ⟨4, by omega, by omega, HE.out, rfl, HBel.out⟩
              · rw [if_neg hlg] at hx'
                subst hx'
                rw [expR_ok HX.out] at hexp
                have hlen := (addR_length HX.out).2
                have hadd : addR ⟨y, 0⟩ o = o ++ [y] := by unfold addR; simp only; rw [hle, hy, e10]; rfl
                rw [hadd] at hexp hlen
                have dl : decide (320 - (ol : Int) < 1) = false := decide_eq_false hlg
                have hol3 : ol ≤ 319 := by omega
                have HE := Lib.hid hexp
                have HLE := Lib.hid hlen
                clear hexp hlen hle hy hadd hlg e10
                go_wp2_with fail
                refine (CW.out _).mono ?_; rintro e w1 ⟨rfl, rfl⟩
                go_wp2_with fail
                go_loopw [6, 11] (fun s i wq => (i = .int .i64 0 ∧ Hid (wq.ownsRow w.heap.size 3 1 s ol (iv o) ∧ Below w.heap.size w wq)) ∨ (i = .int .i64 1 ∧ Hid (wq.ownsRow w.heap.size 3 1 s (ol + 1) (iv (o ++ [y])) ∧ Below w.heap.size w wq))) (fun _ i _ => 1 - (intOf i).toNat)
                case atStart => exact .inl ⟨rfl, Lib.hid ⟨HO.out, HBel.out⟩⟩
                case round =>
                  rcases hrel with ⟨rfl, h⟩ | ⟨rfl, h⟩
                  · obtain ⟨hown4, hbel4⟩ := h.out
                    obtain ⟨A4, c4, rfl, _⟩ := own_form hown4
                    have HS5 : Hid (Seen (wr.alloc (.cells #[.int .i64 y] 3)) (wr.heap.size + 1) 1 (some ⟨wr.heap.size, 0, none⟩) 1 1 [.int .i64 y]) := Lib.hid (seen_one wr 3 (.int .i64 y))
                    have hB5 : Below wr.heap.size wr (wr.alloc (.cells #[.int .i64 y] 3)) := (Below.refl _ _).alloc (Nat.le_refl _) _
                    have HO5 := Lib.hid (own_only hown4 (Only.of_below hB5 Nob) (fun _ _ h => h))
                    have hbk : w.heap.size ≤ wr.heap.size := hbel4.size
                    have hkk : ∀ k, (Value.slice A4 ol c4).ownBlock = some k → w.heap.size ≤ k := fun k hk => (own_whole hown4 hk).1
                    have HKK := Lib.hid hkk
                    have HBEL := Lib.hid hbel4
                    clear hown4 hbel4 hB5 hkk h
                    go_wp2_with (at_builtin; (refine wpList_append_seen _ rfl (.tmp 68) (.tmp 70) _ rfl w.heap.size 3 i0 _ 1 8 Try.underlying24 hi0 hz0 hz1 hz2 rfl (by omega) (.slice A4 ol c4) ol (iv o) rfl HO5.out _ _ 1 1 [.int .i64 y] rfl HS5.out (one_int _) (by simp only [maxLen]; omega) (by omega) (by simp; omega) ?_); intro v2 w3 hown2 hg2 hat2)
                    have hb2 := (HBEL.out.alloc hbk (.cells #[.int .i64 y] 3)).grown hg2 (by simp; omega) (fun k hk => HKK.out k hk)
                    have HF := Lib.hid (And.intro hown2 hb2)
                    clear hown2 hg2 hat2 hb2
                    go_roundw
                    case rel => exact .inr ⟨rfl, Lib.hid ⟨by rw [iv_append]; exact HF.out.1, HF.out.2⟩⟩
                    case measure => simp [intOf]
                  · go_wp2_with fail
                    go_roundw
                    case rel => exact ⟨k + 1, o ++ [y], by omega, by go_num, by rw [List.length_append, HOL.out]; exact h.out.1, HE.out, HLE.out, h.out.2⟩
                    case measure => simp [intOf]; omega
    · obtain rfl : k = n := by omega
      rw [List.drop_eq_nil_of_le (by rw [HLN.out]; exact Nat.le_refl _)] at hexp
      have HO := Lib.hid hown
      have HBel := Lib.hid hbel
      have HE := Lib.hid hexp
      clear hown hbel hexp
      obtain ⟨As, cs, rfl, _⟩ := own_form HO.out
      go_wp2_with fail
      go_ret2
      exact .inl ⟨o, _, HE.out, rfl, HO.out, hom, HBel.out⟩
end Go.Proofs.Ytnobeghnljjidaa
