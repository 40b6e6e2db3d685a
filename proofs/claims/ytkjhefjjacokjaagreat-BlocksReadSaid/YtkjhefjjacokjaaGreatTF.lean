/-
  Contracts of match.Right, in the program and in the document. Conditions: none.
  Tokens in memory; what the document's Expand answers. Conditions: each theorem names its own.
  The contract of the document's Expand. Conditions: the slice of tokens is read as told (Seen), there are at most a million of them.
-/
import Derived.Test.YtkjhefjjacokjaaGreatZ4
import Derived.Test.YtkjhefjjacokjaaGreatLT
import Derived.Test.YtkjhefjjacokjaaGreatW5
namespace Go.Proofs.YtkjhefjjacokjaaGreat
open Go.RowKit
set_option maxRecDepth 100000
theorem beq_dec (a b : Int) : (a == b) = decide (a = b) := by
  by_cases h : a = b
  · subst h; simp
  · rw [decide_eq_false h]; simpa using h
theorem right_any (l : Nat) (n d : Int) (w : World) : Calls Tryz.prog 57 #[.agg #[.int .u8 l, .int .i64 n, .int .i64 d]] w (Gives w (.bool (rightT ⟨l, n, d⟩))) := by
  obtain ⟨r, hr⟩ : ∃ r, rightT ⟨l, n, d⟩ = r := ⟨_, rfl⟩
  rw [hr]
  have HR := Lib.hid hr; clear hr
  by_cases h0 : n = 0
  · subst h0
    go_enter Tryz.func57, Tryz.ntmps57
    go_wp2
    go_ret
    refine ⟨?_, (Below.refl _ _).alloc (Nat.le_refl _) _⟩
    rw [← HR.out]
    simp [rightT, beq_dec]
  · have d0 : (n == 0) = false := by simpa using h0
    go_enter Tryz.func57, Tryz.ntmps57
    go_wp2
    all_goals go_ret
    all_goals (refine ⟨?_, (Below.refl _ _).alloc (Nat.le_refl _) _⟩; have hR := HR.out; simp [rightT] at hR; rw [← hR]; congr 2; simp [*, beq_dec])
    all_goals (try omega)
theorem rright_any (l : Nat) (n d : Int) (w : World) : Calls Tryz.prog 19 #[.agg #[.int .u8 l, .int .i64 n, .int .i64 d]] w (Gives w (.bool (rightT ⟨l, n, d⟩))) := by
  obtain ⟨r, hr⟩ : ∃ r, rightT ⟨l, n, d⟩ = r := ⟨_, rfl⟩
  rw [hr]
  have HR := Lib.hid hr; clear hr
  by_cases h0 : n = 0
  · subst h0
    go_enter Tryz.func19, Tryz.ntmps19
    go_wp2
    go_ret
    refine ⟨?_, (Below.refl _ _).alloc (Nat.le_refl _) _⟩
    rw [← HR.out]
    simp [rightT, beq_dec]
  · have d0 : (n == 0) = false := by simpa using h0
    go_enter Tryz.func19, Tryz.ntmps19
    go_wp2
    all_goals go_ret
    all_goals (refine ⟨?_, (Below.refl _ _).alloc (Nat.le_refl _) _⟩; have hR := HR.out; simp [rightT] at hR; rw [← hR]; congr 2; simp [*, beq_dec])
    all_goals (try omega)
end Go.Proofs.YtkjhefjjacokjaaGreat

namespace Go.Proofs.YtkjhefjjacokjaaGreat
open Go.RowKit
set_option maxRecDepth 100000
abbrev bx (l : List Nat) : List Value := l.map fun x : Nat => Value.int .u8 x
theorem bx_get {l : List Nat} {i : Nat} (h : i < l.length) : (bx l)[i]? = some (.int .u8 (l.getD i 0 : Nat)) := by simp [List.getD, h]
theorem Seen.byte {w : World} {B n c : Nat} {A : Option Addr} {bs : List Nat} (h : Seen w B 1 A n c (bx bs)) (hn : bs.length = n) {k : Nat} (hk : k < n) : ∃ b o, A = some ⟨b, o, none⟩ ∧ b < B ∧ w.cell? ⟨b, o + k, none⟩ = some (.int .u8 (bs.getD k 0 : Nat)) := by
  obtain ⟨b, o, u, h1, h2, h3, h4⟩ := h.at hk
  rw [bx_get (by omega)] at h3
  injection h3 with h3
  subst h3
  exact ⟨b, o, h1, h2, h4⟩
theorem Seen.bytes {w : World} {B n c : Nat} {A : Option Addr} {bs : List Nat} (h : Seen w B 1 A n c (bx bs)) (hn : bs.length = n) (hp : 0 < n) : ∃ b o, A = some ⟨b, o, none⟩ ∧ b < B ∧ ∀ k, k < n → w.cell? ⟨b, o + k, none⟩ = some (.int .u8 (bs.getD k 0 : Nat)) := by
  obtain ⟨b, o, h1, h2, _⟩ := h.byte hn hp
  refine ⟨b, o, h1, h2, fun k hk => ?_⟩
  obtain ⟨b', o', h1', _, h3'⟩ := h.byte hn hk
  rw [h1] at h1'
  injection h1' with h1'
  injection h1' with e1 e2
  subst e1 e2
  exact h3'
theorem bx_append (a b : List Nat) : bx (a ++ b) = bx a ++ bx b := by simp [bx]
/-- A token's cells. -/
def tc (t : Tok) : List Value := [.int .u8 t.lit, .int .i64 t.len, .int .i64 t.dist]
def tvs (l : List Tok) : List Value := l.flatMap tc
theorem tvs_length (l : List Tok) : (tvs l).length = l.length * 3 := by
  induction l with
  | nil => rfl
  | cons t l ih =>
    have : tvs (t :: l) = tc t ++ tvs l := rfl
    rw [this, List.length_append, ih]
    simp [tc]
    omega
theorem tvs_append (a b : List Tok) : tvs (a ++ b) = tvs a ++ tvs b := by simp [tvs]
theorem tvs_get : ∀ (l : List Tok) (k j : Nat) (h : k < l.length), j < 3 → (tvs l)[k * 3 + j]? = (tc l[k])[j]?
  | t :: l, 0, j, h, hj => by
    have : tvs (t :: l) = tc t ++ tvs l := rfl
    rw [this, List.getElem?_append_left (by simp [tc]; omega)]
    simp
  | t :: l, k + 1, j, h, hj => by
    have : tvs (t :: l) = tc t ++ tvs l := rfl
    rw [this, List.getElem?_append_right (by simp [tc]; omega)]
    have e : (k + 1) * 3 + j - (tc t).length = k * 3 + j := by simp [tc]; omega
    rw [e, tvs_get l k j (by simpa using h) hj]
    simp
theorem Seen.tok {w : World} {B n c : Nat} {A : Option Addr} {l : List Tok} (h : Seen w B 3 A n c (tvs l)) {k : Nat} (hk : k < n) : ∃ (t : Tok) (b o : Nat), l[k]? = some t ∧ A = some ⟨b, o, none⟩ ∧ b < B ∧ w.cell? ⟨b, o + k * 3, none⟩ = some (.int .u8 t.lit) ∧ w.cell? ⟨b, o + k * 3 + 1, none⟩ = some (.int .i64 t.len) ∧ w.cell? ⟨b, o + k * 3 + 2, none⟩ = some (.int .i64 t.dist) := by
  obtain ⟨h1, h2, h3⟩ := h
  rw [tvs_length] at h1
  have hl : k < l.length := by omega
  rcases h3 with ⟨_, h3⟩ | ⟨⟨b, o, s⟩, ha, h3⟩
  · omega
  · obtain ⟨g1, g2, g3⟩ := h3 (by intro e; have := tvs_length l; rw [e] at this; simp at this; omega)
    simp only at g1 g2 g3
    subst g1
    refine ⟨l[k], b, o, List.getElem?_eq_getElem hl, ha, g2, ?_, ?_, ?_⟩
    · exact g3 (k * 3) _ (tvs_get l k 0 hl (by omega))
    · have := g3 (k * 3 + 1) _ (tvs_get l k 1 hl (by omega))
      rwa [← Nat.add_assoc] at this
    · have := g3 (k * 3 + 2) _ (tvs_get l k 2 hl (by omega))
      rwa [← Nat.add_assoc] at this
/-- What Expand answers. -/
def ExpRes (most : Int) (l : List Tok) (w : World) (e : Ending) (w' : World) : Prop :=
  (∃ o v, expT most l [] = (0, o) ∧ e = .returned (.tuple #[v, .int .i64 0]) ∧ w'.ownsRow w.heap.size 5 1 v o.length (bx o) ∧ Below w.heap.size w w') ∨
  (∃ er : Nat, er ≠ 0 ∧ er < 100 ∧ expT most l [] = (er, []) ∧ e = .returned (.tuple #[.slice none 0 0, .int .i64 er]) ∧ Below w.heap.size w w')
end Go.Proofs.YtkjhefjjacokjaaGreat

namespace Go.Proofs.YtkjhefjjacokjaaGreat
open Go.RowKit
set_option maxRecDepth 100000
set_option maxHeartbeats 2000000 in
theorem rexpand_any (A : Option Addr) (n c B : Nat) (l : List Tok) (hn : n ≤ 1000000) (most : Int) (h0 : 0 ≤ most) (h1 : most ≤ 16777216) (w : World) (hs : Seen w B 3 A n c (tvs l)) (hB : B ≤ w.heap.size) :
    Calls Tryz.prog 20 #[.slice A n c, .int .i64 most] w (ExpRes most l w) := by
  obtain ⟨i0, hi0, hz0, hz1, hz2⟩ := info_parts byte_info
  have hln : l.length = n := by have := hs.1; rw [tvs_length] at this; omega
  have d0 : decide (most < 0) = false := decide_eq_false (by omega)
  have d1 : decide (16777216 < most) = false := decide_eq_false (by omega)
  have HS := Lib.hid hs; clear hs
  have HLN := Lib.hid hln; clear hln
  go_enter Tryz.func20, Tryz.ntmps20
  go_wp2_with fail
  go_loopw [6, 18] (fun s i wr => ∃ (k : Nat) (o : List Nat), k ≤ n ∧ i = .int .i64 k ∧ wr.ownsRow w.heap.size 5 1 s o.length (bx o) ∧ expT most l [] = expT most (l.drop k) o ∧ (o.length : Int) ≤ most ∧ Below w.heap.size w wr) (fun _ i _ => n - (intOf i).toNat)
  case atStart => exact ⟨0, [], Nat.zero_le _, rfl, World.ownsRow_nil _ _ _ _, rfl, by simpa using h0, (Below.refl _ _)⟩
  case round =>
    obtain ⟨k, o, hk, rfl, hown, hexp, hom, hbel⟩ := hrel
    by_cases hlt : k < n
    · obtain ⟨t, b, of', ht, rfl, hbB, c0, c1, c2⟩ := (HS.out.below (hbel.mono hB)).tok hlt
      have hbr : b < wr.heap.size := by have := hbel.size; omega
      have hne : wr.heap.size ≠ b := by omega
      have hdr : l.drop k = t :: l.drop (k + 1) := by
        obtain ⟨hkl, ht2⟩ := List.getElem?_eq_some_iff.1 ht
        rw [List.drop_eq_getElem_cons hkl, ht2]
      rw [hdr] at hexp
      obtain ⟨tl, tn, td⟩ := t
      simp only at c0 c1 c2
      obtain ⟨As, cs, rfl, _⟩ := own_form hown
      have CW := Lib.hid (fun W => rright_any tl tn td W)
      obtain ⟨x, hx⟩ : ∃ x, wrongT ⟨tl, tn, td⟩ o.length most = x := ⟨_, rfl⟩
      have hx' := hx
      unfold wrongT at hx'
      obtain ⟨R, hR⟩ : ∃ R, rightT ⟨tl, tn, td⟩ = R := ⟨_, rfl⟩
      rw [hR] at CW hx'
      simp only at hx'
      have HRR := Lib.hid hR
      have hB2 : Below wr.heap.size wr (wr.alloc (.cells #[.int .u8 tl, .int .i64 tn, .int .i64 td] 42)) := (Below.refl _ _).alloc (Nat.le_refl _) _
      have HO := Lib.hid hown
      have HBel := Lib.hid hbel
      have HB2 := Lib.hid hB2
      have hsz := hbel.size
      have HX := Lib.hid hx
      obtain ⟨ol, hol⟩ : ∃ ol, o.length = ol := ⟨_, rfl⟩
      rw [hol] at hx' hom HO ⊢
      have HOL := Lib.hid hol
      clear hown hbel hB2 ht hdr hx hol hR
      have hk0 : (0 : Int) ≤ k := by omega
      cases R with
      | false =>
        rw [if_pos rfl] at hx'
        subst hx'
        rw [expT_cons_er (by rw [HX.out]; omega), HX.out] at hexp
        have HE := Lib.hid hexp; clear hexp
        go_wp2_with fail
        refine (CW.out _).mono ?_; rintro e w1 ⟨rfl, hb1⟩
        have HB3 := Lib.hid (HB2.out.trans (hb1.mono (by simp))); clear hb1
        go_wp2_with fail
        go_ret2
        exact .inr ⟨5, by omega, by omega, HE.out, rfl, HBel.out.trans (HB3.out.mono HBel.out.size)⟩
      | true =>
        rw [if_neg (by simp)] at hx'
        by_cases hd : (ol : Int) < td
        · rw [if_pos hd] at hx'
          subst hx'
          rw [expT_cons_er (by rw [HX.out]; omega), HX.out] at hexp
          have HE := Lib.hid hexp; clear hexp
          have dd : decide ((ol : Int) < td) = true := decide_eq_true hd
          go_wp2_with fail
          refine (CW.out _).mono ?_; rintro e w1 ⟨rfl, hb1⟩
          have k2 : w1.cell? ⟨wr.heap.size, 2, none⟩ = some (.int .i64 td) := (hb1.cell (p := ⟨wr.heap.size, 2, none⟩) (by simp)).trans ((Whole.new wr 42 _).cell 2)
          have HB3 := Lib.hid (HB2.out.trans (hb1.mono (by simp))); clear hb1
          go_wp2_with fail
          go_ret2
          exact .inr ⟨13, by omega, by omega, HE.out, rfl, HBel.out.trans (HB3.out.mono HBel.out.size)⟩
        · rw [if_neg hd] at hx'
          have dd : decide ((ol : Int) < td) = false := decide_eq_false hd
          have hmax : Hid (Go.RowKit.Below w.heap.size w wr) := HBel
          by_cases hlg : most - ol < max tn 1
          · rw [if_pos hlg] at hx'
            subst hx'
            rw [expT_cons_er (by rw [HX.out]; omega), HX.out] at hexp
            have HE := Lib.hid hexp; clear hexp
            go_wp2_with fail
            refine (CW.out _).mono ?_; rintro e w1 ⟨rfl, hb1⟩
            have k2 : w1.cell? ⟨wr.heap.size, 2, none⟩ = some (.int .i64 td) := (hb1.cell (p := ⟨wr.heap.size, 2, none⟩) (by simp)).trans ((Whole.new wr 42 _).cell 2)
            have k1 : w1.cell? ⟨wr.heap.size, 1, none⟩ = some (.int .i64 tn) := (hb1.cell (p := ⟨wr.heap.size, 1, none⟩) (by simp)).trans ((Whole.new wr 42 _).cell 1)
            have HB3 := Lib.hid (HB2.out.trans (hb1.mono (by simp))); clear hb1
            have em : (if tn < 1 then (1 : Int) else tn) = max tn 1 := by split <;> omega
            obtain ⟨mx, hmx⟩ : ∃ mx, max tn 1 = mx := ⟨_, rfl⟩
            rw [hmx] at em hlg
            have dl : decide (most - ol < mx) = true := decide_eq_true hlg
            clear hlg hmx
            go_wp2_with fail
            go_ret2
            exact .inr ⟨3, by omega, by omega, HE.out, rfl, HBel.out.trans (HB3.out.mono HBel.out.size)⟩
          · rw [if_neg hlg] at hx'
            subst hx'
            rw [expT_cons_ok HX.out] at hexp
            have HE := Lib.hid hexp; clear hexp
            go_wp2_with fail
            refine (CW.out _).mono ?_; rintro e w1 ⟨rfl, hb1⟩
            obtain ⟨q1, q2, q3⟩ := wrongT_ok HX.out
            simp only at q2 q3
            have hlen := (addT_length HX.out).2
            have hB3 := HB2.out.trans (hb1.mono (by simp))
            have HO3 := Lib.hid (own_only HO.out (Only.of_below hB3 Nob) (fun _ _ h => h))
            have hWk : Whole w1 wr.heap.size 42 #[.int .u8 tl, .int .i64 tn, .int .i64 td] := (Whole.new wr 42 _).only (Only.of_below hb1 Nob) (fun h => h)
            have k2 : w1.cell? ⟨wr.heap.size, 2, none⟩ = some (.int .i64 td) := hWk.cell 2
            have k1 : w1.cell? ⟨wr.heap.size, 1, none⟩ = some (.int .i64 tn) := hWk.cell 1
            have k0 : w1.cell? ⟨wr.heap.size, 0, none⟩ = some (.int .u8 tl) := hWk.cell 0
            have HWK := Lib.hid hWk
            have HB3 := Lib.hid (HBel.out.trans (hB3.mono HBel.out.size))
            have hsz1 : wr.heap.size < w1.heap.size := by have := hb1.size; simp at this; omega
            clear hb1 hB3 hWk
            have em : (if tn < 1 then (1 : Int) else tn) = max tn 1 := by split <;> omega
            obtain ⟨mx, hmx⟩ : ∃ mx, max tn 1 = mx := ⟨_, rfl⟩
            rw [hmx] at em hlg
            have dl : decide (most - ol < mx) = false := decide_eq_false (by omega)
            by_cases hz : tn = 0
            · subst hz
              obtain rfl : mx = 1 := by simpa using em.symm
              clear em
              have HA : Hid (addT ⟨tl, 0, td⟩ o = o ++ [tl]) := Lib.hid rfl
              have HSN : Hid (Seen (w1.alloc (.cells #[.int .u8 tl] 5)) (w1.heap.size + 1) 1 (some ⟨w1.heap.size, 0, none⟩) 1 1 [.int .u8 tl]) := Lib.hid (seen_one w1 5 (.int .u8 tl))
              have hB4 : Below w1.heap.size w1 (w1.alloc (.cells #[.int .u8 tl] 5)) := (Below.refl _ _).alloc (Nat.le_refl _) _
              have HO4 := Lib.hid (own_only HO3.out (Only.of_below hB4 Nob) (fun _ _ h => h))
              have HB4 := Lib.hid (HB3.out.trans (hB4.mono HB3.out.size))
              have hkk : ∀ k, (Value.slice As ol cs).ownBlock = some k → w.heap.size ≤ k ∧ k ≠ wr.heap.size := fun k hk => ⟨(own_whole HO3.out hk).1, own_ne_whole HO3.out HWK.out (by decide) k hk⟩
              have HKK := Lib.hid hkk
              clear hB4 hkk hlg hmx
              go_wp2_with (at_builtin; (refine wpList_append_seen _ rfl (.tmp 41) (.tmp 44) _ rfl w.heap.size 5 i0 _ 1 1 Tryz.underlying23 hi0 hz0 hz1 hz2 rfl (by omega) (.slice As ol cs) ol (bx o) rfl HO4.out _ _ 1 1 [.int .u8 tl] rfl HSN.out (by simp [Value.oneCell']) (by simp only [maxLen]; omega) (by omega) (HB4.out.size) ?_); intro v1 w2 hown1 hg1 hat1)
              have hw2 := ((HWK.out.alloc (.cells #[.int .u8 tl] 5)).grown hg1 (fun e => (HKK.out _ e.symm).2 rfl))
              have k1' : w2.cell? ⟨wr.heap.size, 1, none⟩ = some (.int .i64 0) := hw2.cell 1
              have HB5 := Lib.hid (HB4.out.grown hg1 HB4.out.size (fun k hk => (HKK.out k hk).1))
              have HO5 := Lib.hid hown1
              clear hown1 hg1 hat1 hw2
              go_wp2_with fail
              go_loopw [6, 9] (fun s i wq => s = v1 ∧ i = .int .i64 0 ∧ wq = w2) (fun _ _ _ => 0)
              case atStart => exact ⟨rfl, rfl, rfl⟩
              case round =>
                obtain ⟨rfl, rfl, rfl⟩ := hrel
                go_wp2_with fail
                go_roundw
                case rel => exact ⟨k + 1, o ++ [tl], by omega, by go_num, by simpa [HOL.out] using HO5.out, by rw [HE.out, HA.out], by rw [HA.out] at hlen; exact hlen, HB5.out⟩
                case measure => simp [intOf]; omega
            · obtain ⟨g0, g1, g2, g3, g4⟩ := rightT_copy q1 hz
              simp only at g1 g2 g3 g4
              clear g0 q1
              obtain ⟨N, rfl⟩ := Int.eq_ofNat_of_zero_le (show 0 ≤ tn by omega)
              obtain ⟨D, rfl⟩ := Int.eq_ofNat_of_zero_le (show 0 ≤ td by omega)
              have HA : Hid (addT ⟨tl, N, D⟩ o = copyN D N o) := Lib.hid (by unfold addT; rw [if_neg hz]; rfl)
              have e1 : (if (N : Int) < 1 then (1 : Int) else N) = N := by split <;> omega
              obtain rfl : mx = N := by omega
              have dd' : decide (ol < D) = false := decide_eq_false (by omega)
              have nz' : (N == 0) = false := by simp; omega
              have nz : ((N : Int) == 0) = false := by simpa using hz
              clear em hmx hz
              have hsz3 := HB3.out.size
              go_wp2_with fail
              go_loopw [6, 9] (fun s i wq => ∃ j : Nat, j ≤ N ∧ i = .int .i64 j ∧ wq.ownsRow w.heap.size 5 1 s (ol + j) (bx (copyN D j o)) ∧ Whole wq wr.heap.size 42 #[.int .u8 tl, .int .i64 N, .int .i64 D] ∧ Below w.heap.size w wq) (fun _ i _ => N - (intOf i).toNat)
              case atStart => exact ⟨0, Nat.zero_le _, rfl, by simpa [copyN] using HO3.out, HWK.out, HB3.out⟩
              case round =>
                obtain ⟨j, hj, rfl, hown4, hWh4, hbel4⟩ := hrel
                by_cases hjN : j < N
                · have hcl := copyN_length D j o
                  rw [HOL.out] at hcl
                  have HCS : Hid (copyN D (j + 1) o = copyN D j o ++ [(copyN D j o).getD (ol + j - D) 0]) := Lib.hid (by rw [← hcl]; rfl)
                  obtain ⟨O, hO⟩ : ∃ O, copyN D j o = O := ⟨_, rfl⟩
                  rw [hO] at hown4 hcl HCS
                  obtain ⟨x, hx⟩ : ∃ x, O.getD (ol + j - D) 0 = x := ⟨_, rfl⟩
                  rw [hx] at HCS
                  obtain ⟨r, cap, rfl, hcap, hcapm⟩ := own_pos hown4 (by omega)
                  obtain ⟨q, hq⟩ : ∃ q, ol + j - D = q := ⟨_, rfl⟩
                  have hXQ : (bx O)[q]? = some (.int .u8 (x : Nat)) := by
                    rw [bx_get (by omega), ← hq, hx]
                  have cq : wr.cell? ⟨r, q, none⟩ = some (.int .u8 (x : Nat)) := (own_cell hown4 hXQ).1
                  have c1 := hWh4.cell 1
                  have c2 := hWh4.cell 2
                  simp only [List.getElem?_toArray, List.getElem?_cons_succ, List.getElem?_cons_zero] at c1 c2
                  have wq : ((ol + j : Nat) : Int) - D = q := by omega
                  have wq' : (ol : Int) + j - D = q := by omega
                  have wq2 : IntKind.i64.wrap (q : Int) = q := IntWalk.i64_in _ (by omega)
                  have q0 : (0 : Int) ≤ q := by omega
                  have q1 : (q : Int) < (ol + j : Nat) := by omega
                  have q1' : (q : Int) < ol + j := by omega
                  have HS5 : Hid (Seen (wr.alloc (.cells #[.int .u8 x] 5)) (wr.heap.size + 1) 1 (some ⟨wr.heap.size, 0, none⟩) 1 1 [.int .u8 x]) := Lib.hid (seen_one wr 5 (.int .u8 x))
                  have hB5 : Below wr.heap.size wr (wr.alloc (.cells #[.int .u8 x] 5)) := (Below.refl _ _).alloc (Nat.le_refl _) _
                  have HO5 := Lib.hid (own_only hown4 (Only.of_below hB5 Nob) (fun _ _ h => h))
                  have hbr5 : w.heap.size ≤ r := (own_cell hown4 hXQ).2.2
                  have hbk : w.heap.size ≤ wr.heap.size := hbel4.size
                  have hne5 := own_ne_whole hown4 hWh4 (by decide) r rfl
                  have HWH := Lib.hid hWh4
                  have HBEL := Lib.hid hbel4
                  clear hown4 hWh4 hbel4 hXQ hx hB5 hO
                  go_wp2_with (at_builtin; (refine wpList_append_seen _ rfl (.tmp 52) (.tmp 61) _ rfl w.heap.size 5 i0 _ 1 1 Tryz.underlying23 hi0 hz0 hz1 hz2 rfl (by omega) (.slice (some ⟨r, 0, none⟩) (ol + j) cap) (ol + j) (bx O) rfl HO5.out _ _ 1 1 [.int .u8 x] rfl HS5.out (by simp [Value.oneCell']) (by simp only [maxLen]; omega) (by omega) (by simp; omega) ?_); intro v2 w2 hown2 hg2 hat2)
                  have hw2 := ((HWH.out.alloc (.cells #[.int .u8 x] 5)).grown hg2 (by simpa [Value.ownBlock] using fun e => hne5 e.symm))
                  have hb2 := (HBEL.out.alloc hbk (.cells #[.int .u8 x] 5)).grown hg2 (by simp; omega) (by simpa [Value.ownBlock] using hbr5)
                  go_roundw
                  case rel => exact ⟨j + 1, by omega, by go_num, by rw [HCS.out, bx_append]; simpa [Nat.add_assoc] using hown2, hw2, hb2⟩
                  case measure => simp [intOf]; omega
                · obtain rfl : j = N := by omega
                  have c1 := hWh4.cell 1
                  simp only [List.getElem?_toArray, List.getElem?_cons_succ, List.getElem?_cons_zero] at c1
                  have HO5 := Lib.hid hown4
                  have HB5 := Lib.hid hbel4
                  clear hown4 hWh4 hbel4
                  go_wp2_with fail
                  go_roundw
                  case rel => exact ⟨k + 1, addT ⟨tl, j, D⟩ o, by omega, by go_num, by rw [HA.out, copyN_length, HOL.out]; exact HO5.out, HE.out, hlen, HB5.out⟩
                  case measure => simp [intOf]; omega
    · obtain rfl : k = n := by omega
      rw [List.drop_eq_nil_of_le (by rw [HLN.out]; exact Nat.le_refl _)] at hexp
      have HO := Lib.hid hown
      have HBel := Lib.hid hbel
      have HE := Lib.hid hexp
      clear hown hbel hexp
      obtain ⟨As, cs, rfl, _⟩ := own_form HO.out
      go_wp2_with fail
      go_ret2
      exact .inl ⟨o, _, HE.out, rfl, HO.out, HBel.out⟩
end Go.Proofs.YtkjhefjjacokjaaGreat
