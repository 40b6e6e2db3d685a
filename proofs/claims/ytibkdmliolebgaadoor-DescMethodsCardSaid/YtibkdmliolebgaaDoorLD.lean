/-
  The law of methods' walk. Conditions: none.
-/
import Derived.Test.YtibkdmliolebgaaDoorLA
namespace Go.Proofs.YtibkdmliolebgaaDoor
open Go Go.RowKit
set_option maxRecDepth 100000

theorem flatten_take (out : List (List UInt8)) (i : Nat) (h : i < out.length) : (out.take i).flatten ++ out[i] = (out.take (i + 1)).flatten := by
  rw [take_next out i h, List.flatten_append]; simp
theorem flatten_le (out : List (List UInt8)) (i : Nat) : (out.take i).flatten.length ≤ out.flatten.length := by
  conv => rhs; rw [← List.take_append_drop i out, List.flatten_append, List.length_append]
  omega

set_option maxHeartbeats 16000000 in
theorem methods_yes (l : List UInt8) (w : World) : Calls Tryd.prog 4 #[.string (tx l)] w (Gives w (.bool true)) := by
  have F := Lib.hid (fun W => fixed_any W)
  obtain ⟨n, hn⟩ : ∃ n, l.length = n := ⟨_, rfl⟩
  have hts : (tx l).size = n := by rw [tx_size, hn]
  by_cases h200 : 200 < n
  · have d1 : decide ((200 : Int) < (n : Int)) = true := by rw [decide_eq_true_iff]; omega
    clear hn
    generalize tx l = s at *
    go_enter Tryd.func4, Tryd.ntmps4
    go_wp2_with (go_at_call 6; refine (F.out _).mono ?_; rintro e w1 ⟨rfl, b1⟩)
    go_ret
    exact ⟨rfl, b1⟩
  have d1 : decide ((200 : Int) < (n : Int)) = false := by rw [decide_eq_false_iff_not]; omega
  have hs : l.length ≤ 10000 := by omega
  have P1 := Lib.hid (fun W => pparams_any l hs W)
  have Q1 := Lib.hid (fun W => params_any l hs W)
  have P2 := Lib.hid (fun W => prooms_any l hs W)
  have Q2 := Lib.hid (fun W => rooms_any l hs W)
  generalize (roomsM l).1 = z at *
  generalize (roomsM l).2 = b at *
  have eb : (b != b) = false := by cases b <;> rfl
  cases hp : paramsM l with
  | none =>
    rw [hp] at P1 Q1
    unfold GivesPar at P1 Q1
    simp only at P1 Q1
    clear hp hn hs
    generalize tx l = s at *
    go_enter Tryd.func4, Tryd.ntmps4
    go_wp2_with (first
      | (go_at_call 6; refine (F.out _).mono ?_; rintro e w1 ⟨rfl, b1⟩)
      | (go_at_call 21; refine (P1.out _).mono ?_; rintro e w2 ⟨rfl, b2⟩)
      | (go_at_call 22; refine (Q1.out _).mono ?_; rintro e w3 ⟨rfl, b3⟩)
      | (go_at_call 23; refine (P2.out _).mono ?_; rintro e w4 ⟨rfl, b4⟩)
      | (go_at_call 24; refine (Q2.out _).mono ?_; rintro e w5 ⟨rfl, b5⟩))
    have B2 := b1.trans (b2.mono b1.size)
    have B3 := B2.trans (b3.mono B2.size)
    have B4 := B3.trans (b4.mono B3.size)
    have B5 := Lib.hid (B4.trans (b5.mono B4.size))
    clear B2 B3 B4 b1 b2 b3 b4 b5
    go_loopg [13, 69] 0 (fun j v v2 wr => j = 0 ∧ v2 = .int .i64 0 ∧ wr = w5)
    case atStart => exact ⟨rfl, rfl, rfl⟩
    case round =>
      obtain ⟨rfl, rfl, rfl⟩ := hrel
      go_wp2_with fail
      go_ret
      exact ⟨rfl, B5.out⟩
  | some q =>
    obtain ⟨out, x⟩ := q
    rw [hp] at P1 Q1
    unfold GivesPar at P1 Q1
    simp only at P1 Q1
    have hinv := params_inv hp
    have hlen : out.flatten.length + x.length + 2 = n := by
      rw [← hn, hinv]; simp only [List.length_cons, List.length_append]; omega
    obtain ⟨m, hm⟩ : ∃ m, out.length = m := ⟨_, rfl⟩
    rw [hm] at P1 Q1
    have ex : ((tx x).toList != (tx x).toList) = false := by rw [bne, tl_eq, decide_eq_true rfl]; rfl
    have HT := Lib.hid (fun (i : Nat) (h : i < out.length) => tx_app (40 :: (out.take i).flatten) out[i])
    have HE : Hid (tx (40 :: out.flatten) ++ tx [41] = tx (40 :: (out.flatten ++ [41])) ∧ tx (40 :: (out.flatten ++ [41])) ++ tx x = tx l ∧ (tx (40 :: out.flatten)).size + 1 ≤ n ∧ (tx (40 :: (out.flatten ++ [41]))).size + (tx x).size ≤ n) := Lib.hid (by
      refine ⟨by rw [tx_app]; rfl, by rw [tx_app, hinv]; simp, ?_, ?_⟩
      · rw [tx_size, List.length_cons]; omega
      · rw [tx_size, tx_size, List.length_cons, List.length_append, List.length_singleton]; omega)
    have HL : Hid (∀ i : Nat, (tx (40 :: (out.take i).flatten)).size ≤ n) := Lib.hid (fun i => by
      have := flatten_le out i
      rw [tx_size, List.length_cons]; omega)
    have HM := Lib.hid (And.intro hm (And.intro hn (And.intro hinv hlen)))
    have HEQ : Hid (((tx l).toList == (tx l).toList) = true) := Lib.hid (by rw [tl_eq, decide_eq_true rfl])
    have hn2 : n ≤ 200 := by omega
    have hm5 : m ≤ 10000 := by have := (params_facts hs hp).1; omega
    clear hp hm hn hinv hlen hs
    go_enter Tryd.func4, Tryd.ntmps4
    go_wp2_with (first
      | (go_at_call 6; refine (F.out _).mono ?_; rintro e w1 ⟨rfl, b1⟩)
      | (go_at_call 21; refine (P1.out _).mono ?_; rintro e w2 ⟨va, rfl, b2, ha⟩; obtain ⟨A1, c1, rfl, _⟩ := own_form ha; have SA := Lib.hid (Seen.of_own ha); clear ha)
      | (go_at_call 22; refine (Q1.out _).mono ?_; rintro e w3 ⟨vb, rfl, b3, hb⟩; obtain ⟨A2, c2, rfl, _⟩ := own_form hb; have SB := Lib.hid (Seen.of_own hb); clear hb)
      | (go_at_call 23; refine (P2.out _).mono ?_; rintro e w4 ⟨rfl, b4⟩)
      | (go_at_call 24; refine (Q2.out _).mono ?_; rintro e w5 ⟨rfl, b5⟩))
    have B2 := b1.trans (b2.mono b1.size)
    have B3 := B2.trans (b3.mono B2.size)
    have B4 := B3.trans (b4.mono B3.size)
    have C35 := b4.trans (b5.mono b4.size)
    have C25 := b3.trans (C35.mono b3.size)
    have HH := Lib.hid (And.intro (B4.trans (b5.mono B4.size)) (And.intro C25 C35))
    have z1 : w2.heap.size ≤ w5.heap.size := C25.size
    have z2 : w3.heap.size ≤ w5.heap.size := C35.size
    clear B2 B3 B4 b1 b2 b3 b4 b5 C35 C25
    go_loopg [13, 69] m (fun j v v2 wr => ∃ i : Nat, i ≤ m ∧ j = m - i ∧ v2 = .int .i64 i ∧ v = .string (tx (40 :: (out.take i).flatten)) ∧ Below w5.heap.size w5 wr)
    case atStart => exact ⟨0, by omega, rfl, rfl, rfl, Below.refl _ _⟩
    case round =>
      obtain ⟨i, hi, rfl, rfl, rfl, hbl⟩ := hrel
      obtain ⟨wo, rfl⟩ : ∃ W, W = wr := ⟨_, rfl⟩
      have hsz := HL.out i
      have HB := Lib.hid hbl
      clear hbl
      by_cases hlt : i < m
      · have hio : i < out.length := by have := HM.out.1; omega
        have d0 : decide ((i : Int) < (m : Int)) = true := by rw [decide_eq_true_iff]; omega
        obtain ⟨bA, oA, uA, rfl, _, huA, hcA⟩ := (SA.out.below (HH.out.2.1.trans (HB.out.mono z1))).at hlt
        obtain ⟨bB, oB, uB, rfl, _, huB, hcB⟩ := (SB.out.below (HH.out.2.2.trans (HB.out.mono z2))).at hlt
        obtain rfl : uA = .string (tx out[i]) := (Option.some.inj ((tv_at out i hio).symm.trans huA)).symm
        obtain rfl : uB = .string (tx out[i]) := (Option.some.inj ((tv_at out i hio).symm.trans huB)).symm
        have hcat := HT.out i hio
        rw [List.cons_append, flatten_take out i hio] at hcat
        have hsz2 := HL.out (i + 1)
        have hss : (tx (40 :: (out.take (i + 1)).flatten)).size = (tx (40 :: (out.take i).flatten)).size + (tx out[i]).size := by rw [← hcat, ByteArray.size_append]
        obtain ⟨S2, hS2⟩ : ∃ S, tx (40 :: (out.take (i + 1)).flatten) = S := ⟨_, rfl⟩
        have es : ((tx out[i]).toList != (tx out[i]).toList) = false := by rw [bne, tl_eq, decide_eq_true rfl]; rfl
        rw [hS2] at hcat hss hsz2
        have HS2 := Lib.hid hS2
        clear hS2 huA huB
        generalize tx (40 :: (out.take i).flatten) = S1 at *
        generalize tx out[i] = T at *
        have hno : ¬ 9223372036854775807 < S1.size + T.size := by omega
        have x0 : (0 : Int) ≤ (i : Int) := by omega
        have x1 : (i : Int) < (m : Int) := by omega
        clear hss hsz hsz2
        go_wp2_with fail
        refine wp_region_still_lit (by kernel_rfl) (by kernel_rfl) ?_
        repeat still_step
        refine wpStill_nil ?_
        have hcA2 : World.cell? { heap := wo.heap, tape := wo.tape, drawn := wo.drawn + 1, os := wo.os, output := wo.output } ⟨bA, oA + i, none⟩ = some (.string T) := hcA
        go_wp2_with fail
        go_roundg (m - (i + 1))
        case measure => omega
        case rel => exact ⟨i + 1, by omega, rfl, by go_num, by rw [HS2.out], ⟨HB.out.os, HB.out.tape, HB.out.output, HB.out.size, HB.out.block⟩⟩
      · obtain rfl : i = m := by omega
        have d0 : decide ((i : Int) < (i : Int)) = false := by rw [decide_eq_false_iff_not]; omega
        rw [List.take_of_length_le (by have := HM.out.1; omega)]
        obtain ⟨e1, e2, e3, e4⟩ := HE.out
        rw [show tx [41] = ⟨#[41]⟩ from rfl] at e1
        have heq := HEQ.out
        generalize tx (40 :: (out.flatten ++ [41])) = S2 at *
        generalize tx (40 :: out.flatten) = S1 at *
        generalize tx x = X at *
        have hno1 : ¬ 9223372036854775807 < S1.size + 1 := by omega
        have hno2 : ¬ 9223372036854775807 < S2.size + X.size := by omega
        clear e3 e4
        go_wp2_with fail
        go_ret
        exact ⟨by simp, HH.out.1.trans (HB.out.mono HH.out.1.size)⟩
end Go.Proofs.YtibkdmliolebgaaDoor
