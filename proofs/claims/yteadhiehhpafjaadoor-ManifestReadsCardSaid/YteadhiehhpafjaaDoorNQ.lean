/-
  The program's Parse. Conditions: a row of less than four thousand million bytes.
-/
import Derived.Test.YteadhiehhpafjaaDoorNP
import Derived.Lib.ReplaceLaws
namespace Go.Proofs.YteadhiehhpafjaaDoor
open Go Go.RowKit
set_option maxRecDepth 100000

theorem replaceK_le (old new : List UInt8) (h : new.length ≤ old.length) : ∀ (k : Nat) (s : List UInt8), (Lib.replaceK old new k s).length ≤ s.length
  | 0, s => Nat.le_refl _
  | k + 1, s => by
    unfold Lib.replaceK
    split
    · exact Nat.le_refl _
    · rename_i hm
      have hge := Lib.index_ge s old
      have hm' : Lib.index s old ≠ -1 := fun e => hm (by rw [e]; rfl)
      have hr := Lib.index_room s old (by omega)
      have ih := replaceK_le old new h k (s.drop ((Lib.index s old).toNat + old.length))
      simp only [List.length_append, List.length_take, List.length_drop] at ih ⊢
      omega
theorem replaceAll_le (s old new : List UInt8) (h : new.length ≤ old.length) : (Lib.replaceAll s old new).length ≤ s.length := by
  unfold Lib.replaceAll Lib.replace
  split
  · exact Nat.le_refl _
  · exact replaceK_le old new h _ s
theorem conv_bytes {w : World} {B : Nat} {A : Option Addr} {n c : Nat} {l : List UInt8} (h : Seen w B 1 A n c (Lib.byteCells l)) :
    (convert 22 9 (.slice A n c)).run Tryd.prog w = .ok (.string (tx l)) w := by
  obtain ⟨h1, h2, h3⟩ := h
  rw [Lib.byteCells_length, Nat.mul_one] at h1
  rcases h3 with ⟨rfl, rfl⟩ | ⟨a, rfl, h3⟩
  · obtain rfl : l = [] := List.eq_nil_of_length_eq_zero (by omega)
    exact run_convert_bytes_nil w 22 5 Tryd.underlying22 Tryd.underlying5 n 0 9 Tryd.underlying9
  · subst h1
    refine run_convert_bytes_back w 22 9 5 a c l Tryd.underlying22 Tryd.underlying5 Tryd.underlying9 (fun j hj => ?_)
    obtain ⟨g1, g2, g3⟩ := h3 (by intro e; have := Lib.byteCells_length l; rw [e] at this; simp at this; omega)
    obtain ⟨b, o, s⟩ := a
    simp only at g1 g2 g3
    subst g1
    rw [Addr.add_lit]
    exact g3 j _ (by simp [Lib.byteCells, hj])

theorem results_man {fn : Func} {p u : Tmp} (h : fn.results = #[.cell p 27, .tmp u]) (tmps : Array Value) (w : World) (g : Nat) (a b : Value) (hp : tmps.getD p undef = .pointer (some ⟨g, 0, none⟩)) (hg : Whole w g 27 #[a, b]) :
    (results fn tmps).run Tryd.prog w = .ok (.tuple #[.agg #[a, b], tmps.getD u undef]) w := by
  have hp' : tmps[p]?.getD undef = .pointer (some ⟨g, 0, none⟩) := by simpa using hp
  simp [results, h, hp', asAddr, run_loadVar_row w g 27 27 #[a, b] (0, 0) _ hg Tryd.underlying27 rfl (man_size a b)]
theorem man_slices {W : World} {base z : Nat} {vm vp : Value} {acc : List Sec} (h : ManOwn W base z vm vp acc) : ∃ A1 n1 c1 A2 n2 c2, vm = .slice A1 n1 c1 ∧ vp = .slice A2 n2 c2 := by
  rcases h with ⟨_, rfl, rfl⟩ | ⟨main, ps, rows, _, _, h3, _, h5, _, _⟩
  · exact ⟨none, 0, 0, none, 0, 0, rfl, rfl⟩
  · obtain ⟨A1, c1, rfl, _⟩ := own_form h3
    obtain ⟨A2, c2, rfl, _⟩ := own_form h5
    exact ⟨A1, _, c1, A2, _, c2, rfl, rfl⟩
theorem ManOwn.weak {W : World} {base z base' z' : Nat} {vm vp : Value} {acc : List Sec} (h : ManOwn W base z vm vp acc) (hb : base' ≤ base) (hz : z' ≤ z) : ManOwn W base' z' vm vp acc := by
  rcases h with h | ⟨main, ps, rows, h1, h2, h3, h4, h5, h6, h7⟩
  · exact .inl h
  · exact .inr ⟨main, ps, rows, h1, h2, own_base h3 hb, fun k hk => Nat.le_trans hz (h4 k hk), own_base h5 hb, fun k hk => Nat.le_trans hz (h6 k hk), h7.1, fun i hi => by
      obtain ⟨v, a1, a2, a3⟩ := h7.2 i hi
      exact ⟨v, a1, own_base a2 hb, fun k hk => Nat.le_trans hz (a3 k hk)⟩⟩
theorem all_slices {w w' : World} {r : Int × List Sec} {vm vp : Value} (g1 : r.1 ≠ 0 → vm = .slice none 0 0 ∧ vp = .slice none 0 0) (g2 : r.1 = 0 → r.2 ≠ [] ∧ ManOwn w' w.heap.size w.heap.size vm vp r.2) : ∃ A1 n1 c1 A2 n2 c2, vm = .slice A1 n1 c1 ∧ vp = .slice A2 n2 c2 := by
  by_cases h : r.1 = 0
  · exact man_slices (g2 h).2
  · obtain ⟨rfl, rfl⟩ := g1 h
    exact ⟨none, 0, 0, none, 0, 0, rfl, rfl⟩
/-- What a text tells. -/
def parseP (l : List UInt8) : Int × List Sec :=
  if 16777216 < l.length then (3, []) else
  if Lib.hasSuffix (Lib.replaceAll l [13, 10] [10]) [10] = false then (6, []) else
  if wrongL [] (lnL (Lib.replaceAll l [13, 10] [10])) ≠ 0 then (wrongL [] (lnL (Lib.replaceAll l [13, 10] [10])), []) else
  psAll (splL [10, 10] (Lib.replaceAll (Lib.replaceAll l [13, 10] [10]) [10, 32] []))
theorem rep_any (l : List UInt8) (old new : List UInt8) (ho : 1 ≤ old.length) (hn : new.length ≤ old.length) (ho2 : old.length ≤ 2) (hl : l.length < 4294967281) (m : Int) (w : World) (hm : w.cell? ⟨1, 0, none⟩ = some (.int .i64 m)) :
    Calls Tryd.prog 21 #[.string (tx l), .string (tx old), .string (tx new)] w (Gives w (.string (tx (Lib.replaceAll l old new)))) := by
  have h1 := Lib.countB_mul_le (tx old) (by rw [tx_size]; exact ho) (tx l).size (tx l) (Nat.le_refl _)
  rw [tx_size, tx_size] at h1
  have h2 : Lib.countB (tx l) (tx old) ≤ l.length := Nat.le_trans (Nat.le_mul_of_pos_right _ (by omega)) h1
  have h3 : Lib.countB (tx l) (tx old) * (tx new).size ≤ 4294967281 * 2 := by
    rw [tx_size]; exact Nat.mul_le_mul (by omega) (by omega)
  have := Tryd.strings_ReplaceAll (tx l) (tx old) (tx new) m w (by rw [tx_size]; exact hl) hm (by rw [tx_size]; exact ho) (by rw [tx_size]; omega)
  rw [tx_list, tx_list, tx_list] at this
  exact this
theorem suf_any (l : List UInt8) (hl : l.length ≤ 4294967296) (w : World) : Calls Tryd.prog 22 #[.string (tx l), .string ⟨#[10]⟩] w fun e w' => e = .returned (.bool (Lib.hasSuffix l [10])) ∧ w' = w :=
  Tryd.strings_HasSuffix (tx l) ⟨#[10]⟩ w (by rw [tx_size]; omega)

set_option maxHeartbeats 8000000 in
theorem parse_any (l : List UInt8) (n c B : Nat) (A : Option Addr) (hn : l.length = n) (hl : n < 4294967281) (m : Int) (w : World) (hm : w.cell? ⟨1, 0, none⟩ = some (.int .i64 m)) (hA : Seen w B 1 A n c (Lib.byteCells l)) (hB : B ≤ w.heap.size) :
    Calls Tryd.prog 8 #[.slice A n c] w (ParsesAll w (parseP l)) := by
  have HA := Lib.hid hA
  have h1w : 1 < w.heap.size := World.block_lt_of_cell? w ⟨1, 0, none⟩ hm
  obtain ⟨w0, hw0⟩ : ∃ W, w.alloc (.cells #[.slice none 0 0, .slice none 0 0] 27) = W := ⟨_, rfl⟩
  have W0 : Hid (Whole w0 w.heap.size 27 #[.slice none 0 0, .slice none 0 0]) := Lib.hid (hw0 ▸ Whole.new w 27 _)
  have B0 : Hid (Below w.heap.size w w0) := Lib.hid (hw0 ▸ (Below.refl w.heap.size w).alloc (Nat.le_refl _) _)
  have Z0 : Hid (w0.heap.size = w.heap.size + 1) := Lib.hid (by rw [← hw0]; simp)
  clear hA
  obtain ⟨R, hR⟩ : ∃ R, parseP l = R := ⟨_, rfl⟩
  have HRR := Lib.hid hR
  unfold parseP at hR
  rw [hn] at hR
  by_cases h1 : 16777216 < n
  · rw [if_pos h1] at hR
    subst hR
    have d1 : decide ((16777216 : Int) < (n : Int)) = true := by rw [decide_eq_true_iff]; omega
    go_enter Tryd.func8, Tryd.ntmps8
    go_wp2_with (refine wpList_store_row rfl 27 (.tmp 2) (.tmp 9) rfl w.heap.size #[.slice none 0 0, .slice none 0 0] rfl rfl 27 #[.slice none 0 0, .slice none 0 0] W0.out (man_size _ _) rfl nil_one ?_)
    refine bodyPost_ret (results_man (p := 2) (u := 3) rfl _ _ w.heap.size _ _ rfl (W0.out.setRow _)) rfl ?_
    rw [HRR.out]
    exact ⟨_, _, rfl, below_setRow B0.out _ (Nat.le_refl _), fun _ => ⟨rfl, rfl⟩, fun h => by cases h⟩
  · rw [if_neg h1] at hR
    have d1 : decide ((16777216 : Int) < (n : Int)) = false := by rw [decide_eq_false_iff_not]; omega
    have cv := conv_bytes (HA.out.below (B0.out.mono hB))
    have hm0 : w0.cell? ⟨1, 0, none⟩ = some (.int .i64 m) := (World.cell?_of_block (a := ⟨1, 0, none⟩) (B0.out.block 1 h1w)).trans hm
    have RP1 : Hid (Calls Tryd.prog 21 #[.string (tx l), .string ⟨#[13, 10]⟩, .string ⟨#[10]⟩] w0 (Gives w0 (.string (tx (Lib.replaceAll l [13, 10] [10]))))) := Lib.hid (rep_any l [13, 10] [10] (by decide) (by decide) (by decide) (by omega) m w0 hm0)
    have htl := replaceAll_le l [13, 10] [10] (by decide)
    obtain ⟨t, ht⟩ : ∃ t, Lib.replaceAll l [13, 10] [10] = t := ⟨_, rfl⟩
    rw [ht] at hR RP1 htl
    clear ht h1
    cases hs : Lib.hasSuffix t [10] with
    | false =>
      rw [if_pos hs] at hR
      subst hR
      go_enter Tryd.func8, Tryd.ntmps8
      go_wp2_with (first | (refine wpList_store_row rfl 27 (.tmp 2) (.tmp 16) rfl w.heap.size #[.slice none 0 0, .slice none 0 0] rfl rfl 27 #[.slice none 0 0, .slice none 0 0] W1.out (man_size _ _) rfl nil_one ?_) | (go_at_call 21; refine RP1.out.mono ?_; rintro e w1 ⟨rfl, b1⟩; have B1 := Lib.hid (B0.out.trans (b1.mono (by have := Z0.out; omega))); have W1 := Lib.hid (W0.out.bel b1); have Z1 := Lib.hid b1.size; have SF := Lib.hid (suf_any t (by omega) w1); rw [hs] at SF; have WR := Lib.hid (wrong_any t (by omega) w1); clear b1) | (go_at_call 22; refine SF.out.mono ?_; rintro e w' ⟨rfl, rfl⟩))
      refine bodyPost_ret (results_man (p := 2) (u := 3) rfl _ _ w.heap.size _ _ rfl (W1.out.setRow _)) rfl ?_
      rw [HRR.out]
      exact ⟨_, _, rfl, below_setRow B1.out _ (Nat.le_refl _), fun _ => ⟨rfl, rfl⟩, fun h => by cases h⟩
    | true =>
      rw [if_neg (by rw [hs]; simp)] at hR
      obtain ⟨r, hr⟩ : ∃ r, wrongL [] (lnL t) = r := ⟨_, rfl⟩
      rw [hr] at hR
      have HWR := Lib.hid hr
      clear hr
      by_cases hr0 : r = 0
      · rw [if_neg (fun h => h hr0)] at hR
        subst hr0
        have hul := replaceAll_le t [10, 32] [] (by decide)
        obtain ⟨u, hu⟩ : ∃ u, Lib.replaceAll t [10, 32] [] = u := ⟨_, rfl⟩
        rw [hu] at hR hul
        have HU := Lib.hid hu
        clear hu
        subst hR
        go_enter Tryd.func8, Tryd.ntmps8
        go_wp2_with (first | (refine wpList_store_row rfl 27 (.tmp 2) (.tmp 26) rfl w.heap.size #[.slice A1 n1 c1, .slice A2 n2 c2] rfl rfl 27 #[.slice none 0 0, .slice none 0 0] W4.out (man_size _ _) rfl (two_one (A1, n1, c1) (A2, n2, c2)) ?_) | (go_at_call 21; refine RP2.out.mono ?_; rintro e w3 ⟨rfl, b3⟩; have B3 := Lib.hid (B2.out.trans (b3.mono (by have := Z0.out; have := Z1.out; have := Z2.out; omega))); have W3 := Lib.hid (W2.out.bel b3); have Z3 := Lib.hid b3.size; have PA := Lib.hid (psecs_any u (by omega) m w3 ((World.cell?_of_block (a := ⟨1, 0, none⟩) (B3.out.block 1 h1w)).trans hm)); clear b3) | (go_at_call 21; refine RP1.out.mono ?_; rintro e w1 ⟨rfl, b1⟩; have B1 := Lib.hid (B0.out.trans (b1.mono (by have := Z0.out; omega))); have W1 := Lib.hid (W0.out.bel b1); have Z1 := Lib.hid b1.size; have SF := Lib.hid (suf_any t (by omega) w1); rw [hs] at SF; have WR := Lib.hid (wrong_any t (by omega) w1); rw [HWR.out] at WR; clear b1) | (go_at_call 22; refine SF.out.mono ?_; rintro e w' ⟨rfl, rfl⟩) | (go_at_call 23; refine WR.out.mono ?_; rintro e w2 ⟨rfl, b2⟩; have B2 := Lib.hid (B1.out.trans (b2.mono (by have := Z0.out; have := Z1.out; omega))); have W2 := Lib.hid (W1.out.bel b2); have Z2 := Lib.hid b2.size; have RP2 : Hid (Calls Tryd.prog 21 #[.string (tx t), .string ⟨#[10, 32]⟩, .string ⟨#[]⟩] w2 (Gives w2 (.string (tx (Lib.replaceAll t [10, 32] []))))) := Lib.hid (rep_any t [10, 32] [] (by decide) (by decide) (by decide) (by omega) m w2 ((World.cell?_of_block (a := ⟨1, 0, none⟩) (B2.out.block 1 h1w)).trans hm)); rw [HU.out] at RP2; clear b2) | (go_at_call 24; refine PA.out.mono ?_; rintro e w4 ⟨vm, vp, rfl, b4, g1, g2⟩; have W4 := Lib.hid (W3.out.bel b4); obtain ⟨A1, n1, c1, A2, n2, c2, rfl, rfl⟩ := all_slices g1 g2; have H4 := Lib.hid (And.intro b4 (And.intro g1 g2)); clear b4 g1 g2))
        obtain ⟨b4, g1, g2⟩ := H4.out
        have hz0 := Z0.out
        have hz1 := Z1.out
        have hz2 := Z2.out
        have hz3 := Z3.out
        have O5 := only_setRow (S := fun k => k = w.heap.size) w4 w.heap.size #[.slice A1 n1 c1, .slice A2 n2 c2] rfl
        have B4 : Below w.heap.size w w4 := B3.out.trans (b4.mono (by omega))
        refine bodyPost_ret (results_man (p := 2) (u := 3) rfl _ _ w.heap.size _ _ rfl (W4.out.setRow _)) rfl ?_
        rw [HRR.out]
        exact ⟨_, _, rfl, below_setRow B4 _ (Nat.le_refl _), g1, fun h => ⟨(g2 h).1, ((g2 h).2.only O5 (fun k h1 h2 h3 => by omega)).weak (by omega) (by omega)⟩⟩
      · rw [if_pos hr0] at hR
        have hr1 : (r != 0) = true := by rw [bne_iff_ne]; exact hr0
        have HR0 := Lib.hid hr0
        clear hr0
        subst hR
        go_enter Tryd.func8, Tryd.ntmps8
        go_wp2_with (first | (refine wpList_store_row rfl 27 (.tmp 2) (.tmp 21) rfl w.heap.size #[.slice none 0 0, .slice none 0 0] rfl rfl 27 #[.slice none 0 0, .slice none 0 0] W2.out (man_size _ _) rfl nil_one ?_) | (go_at_call 21; refine RP1.out.mono ?_; rintro e w1 ⟨rfl, b1⟩; have B1 := Lib.hid (B0.out.trans (b1.mono (by have := Z0.out; omega))); have W1 := Lib.hid (W0.out.bel b1); have Z1 := Lib.hid b1.size; have SF := Lib.hid (suf_any t (by omega) w1); rw [hs] at SF; have WR := Lib.hid (wrong_any t (by omega) w1); rw [HWR.out] at WR; clear b1) | (go_at_call 22; refine SF.out.mono ?_; rintro e w' ⟨rfl, rfl⟩) | (go_at_call 23; refine WR.out.mono ?_; rintro e w2 ⟨rfl, b2⟩; have B2 := Lib.hid (B1.out.trans (b2.mono (by have := Z0.out; have := Z1.out; omega))); have W2 := Lib.hid (W1.out.bel b2); have Z2 := Lib.hid b2.size; skip; clear b2))
        refine bodyPost_ret (results_man (p := 2) (u := 3) rfl _ _ w.heap.size _ _ rfl (W2.out.setRow _)) rfl ?_
        rw [HRR.out]
        exact ⟨_, _, rfl, below_setRow B2.out _ (Nat.le_refl _), fun _ => ⟨rfl, rfl⟩, fun h => absurd h HR0.out⟩
end Go.Proofs.YteadhiehhpafjaaDoor
