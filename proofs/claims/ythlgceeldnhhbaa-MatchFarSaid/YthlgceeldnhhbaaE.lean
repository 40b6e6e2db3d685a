/-
  The contracts of Expand, in the program and in the document. Conditions: the slice of tokens is read as told (Seen), there are at most a million of them.
-/
import Derived.Test.YthlgceeldnhhbaaD
namespace Go.Proofs.Ythlgceeldnhhbaa
open Go.RowKit
set_option maxRecDepth 100000

/-- A token's cells. -/
def tc (t : Tok) : List Value := [.int .u8 t.lit, .int .i64 t.len, .int .i64 t.dist]
def tvs (l : List Tok) : List Value := l.flatMap tc
theorem tvs_length (l : List Tok) : (tvs l).length = l.length * 3 := by
  induction l with
  | nil => rfl
  | cons t l ih =>
    have : tvs (t :: l) = tc t ++ tvs l := rfl
    rw [this, List.length_append, ih]
    simp [tc]
    omega
theorem tvs_append (a b : List Tok) : tvs (a ++ b) = tvs a ++ tvs b := by simp [tvs]
theorem tvs_get : ∀ (l : List Tok) (k j : Nat) (h : k < l.length), j < 3 → (tvs l)[k * 3 + j]? = (tc l[k])[j]?
  | t :: l, 0, j, h, hj => by
    have : tvs (t :: l) = tc t ++ tvs l := rfl
    rw [this, List.getElem?_append_left (by simp [tc]; omega)]
    simp
  | t :: l, k + 1, j, h, hj => by
    have : tvs (t :: l) = tc t ++ tvs l := rfl
    rw [this, List.getElem?_append_right (by simp [tc]; omega)]
    have e : (k + 1) * 3 + j - (tc t).length = k * 3 + j := by simp [tc]; omega
    rw [e, tvs_get l k j (by simpa using h) hj]
    simp

theorem Seen.tok {w : World} {B n c : Nat} {A : Option Addr} {l : List Tok} (h : Seen w B 3 A n c (tvs l)) {k : Nat} (hk : k < n) : ∃ (t : Tok) (b o : Nat), l[k]? = some t ∧ A = some ⟨b, o, none⟩ ∧ b < B ∧ w.cell? ⟨b, o + k * 3, none⟩ = some (.int .u8 t.lit) ∧ w.cell? ⟨b, o + k * 3 + 1, none⟩ = some (.int .i64 t.len) ∧ w.cell? ⟨b, o + k * 3 + 2, none⟩ = some (.int .i64 t.dist) := by
  obtain ⟨h1, h2, h3⟩ := h
  rw [tvs_length] at h1
  have hl : k < l.length := by omega
  rcases h3 with ⟨_, h3⟩ | ⟨⟨b, o, s⟩, ha, h3⟩
  · omega
  · obtain ⟨g1, g2, g3⟩ := h3 (by intro e; have := tvs_length l; rw [e] at this; simp at this; omega)
    simp only at g1 g2 g3
    subst g1
    refine ⟨l[k], b, o, List.getElem?_eq_getElem hl, ha, g2, ?_, ?_, ?_⟩
    · exact g3 (k * 3) _ (tvs_get l k 0 hl (by omega))
    · have := g3 (k * 3 + 1) _ (tvs_get l k 1 hl (by omega))
      rwa [← Nat.add_assoc] at this
    · have := g3 (k * 3 + 2) _ (tvs_get l k 2 hl (by omega))
      rwa [← Nat.add_assoc] at this

/-- What Expand answers. -/
def ExpRes (most : Int) (l : List Tok) (w : World) (e : Ending) (w' : World) : Prop :=
  (∃ o v, expT most l [] = (0, o) ∧ e = .returned (.tuple #[v, .int .i64 0]) ∧ w'.ownsRow w.heap.size 5 1 v o.length (bx o) ∧ Below w.heap.size w w') ∨
  (∃ er : Nat, er ≠ 0 ∧ er < 100 ∧ expT most l [] = (er, []) ∧ e = .returned (.tuple #[.slice none 0 0, .int .i64 er]) ∧ Below w.heap.size w w')

theorem wrongT_lt (t : Tok) (n : Nat) (most : Int) : wrongT t n most < 100 := by
  unfold wrongT
  repeat (first | omega | split)

theorem expand_arg (A : Option Addr) (n c : Nat) (most : Int) (h : most < 0 ∨ 16777216 < most) (w : World) :
    Calls Try.prog 8 #[.slice A n c, .int .i64 most] w fun e w' => e = .returned (.tuple #[.slice none 0 0, .int .i64 1]) ∧ w = w' := by
  by_cases h1 : most < 0
  · go_enter Try.func8, Try.ntmps8
    go_wp2
    go_ret2
    exact ⟨rfl, rfl⟩
  · have h2 : 16777216 < most := h.resolve_left h1
    clear h
    go_enter Try.func8, Try.ntmps8
    go_wp2
    go_ret2
    exact ⟨rfl, rfl⟩
theorem rexpand_arg (A : Option Addr) (n c : Nat) (most : Int) (h : most < 0 ∨ 16777216 < most) (w : World) :
    Calls Try.prog 9 #[.slice A n c, .int .i64 most] w fun e w' => e = .returned (.tuple #[.slice none 0 0, .int .i64 1]) ∧ w = w' := by
  by_cases h1 : most < 0
  · go_enter Try.func9, Try.ntmps9
    go_wp2
    go_ret2
    exact ⟨rfl, rfl⟩
  · have h2 : 16777216 < most := h.resolve_left h1
    clear h
    go_enter Try.func9, Try.ntmps9
    go_wp2
    go_ret2
    exact ⟨rfl, rfl⟩

set_option maxHeartbeats 1000000 in
theorem expand_any (A : Option Addr) (n c B : Nat) (l : List Tok) (hn : n ≤ 1000000) (most : Int) (h0 : 0 ≤ most) (h1 : most ≤ 16777216) (w : World) (hs : Seen w B 3 A n c (tvs l)) (hB : B ≤ w.heap.size) :
    Calls Try.prog 8 #[.slice A n c, .int .i64 most] w (ExpRes most l w) := by
  have hln : l.length = n := by have := hs.1; rw [tvs_length] at this; omega
  have d0 : decide (most < 0) = false := decide_eq_false (by omega)
  have d1 : decide (16777216 < most) = false := decide_eq_false (by omega)
  have HS := Lib.hid hs; clear hs
  have HLN := Lib.hid hln; clear hln
  have HO0 : Hid ((w.alloc (.cells #[] 5)).ownsRow w.heap.size 5 1 (.slice (some ⟨w.heap.size, 0, none⟩) 0 0) ([] : List Nat).length (bx [])) := Lib.hid (World.ownsRow_made w #[] 0 (Nat.le_refl _) (by simp [maxLen]) rfl)
  go_enter Try.func8, Try.ntmps8
  go_wp2_with fail
  go_loopw [6, 19] (fun s i wr => ∃ (k : Nat) (o : List Nat), k ≤ n ∧ i = .int .i64 k ∧ wr.ownsRow w.heap.size 5 1 s o.length (bx o) ∧ expT most l [] = expT most (l.drop k) o ∧ (o.length : Int) ≤ most ∧ Below w.heap.size w wr) (fun _ i _ => n - (intOf i).toNat)
  case atStart => exact ⟨0, [], Nat.zero_le _, rfl, HO0.out, rfl, by simpa using h0, (Below.refl _ _).alloc (Nat.le_refl _) _⟩
  case round =>
    obtain ⟨k, o, hk, rfl, hown, hexp, hom, hbel⟩ := hrel
    by_cases hlt : k < n
    · obtain ⟨t, b, of', ht, rfl, hbB, c0, c1, c2⟩ := (HS.out.below (hbel.mono hB)).tok hlt
      have hbr : b < wr.heap.size := by have := hbel.size; omega
      have hne : wr.heap.size ≠ b := by omega
      have hdr : l.drop k = t :: l.drop (k + 1) := by
        obtain ⟨hkl, ht2⟩ := List.getElem?_eq_some_iff.1 ht
        rw [List.drop_eq_getElem_cons hkl, ht2]
      rw [hdr] at hexp
      obtain ⟨tl, tn, td⟩ := t
      simp only at c0 c1 c2
      obtain ⟨As, cs, rfl, _⟩ := own_form hown
      have CW := Lib.hid (fun W => wrong_any tl tn td o.length (by omega) most h0 h1 W)
      obtain ⟨x, hx⟩ : ∃ x, wrongT ⟨tl, tn, td⟩ o.length most = x := ⟨_, rfl⟩
      rw [hx] at CW
      have hB2 : Below wr.heap.size wr (wr.alloc (.cells #[.int .u8 tl, .int .i64 tn, .int .i64 td] 29)) := (Below.refl _ _).alloc (Nat.le_refl _) _
      have HO := Lib.hid hown
      have HBel := Lib.hid hbel
      have HB2 := Lib.hid hB2
      have hsz := hbel.size
      have HX := Lib.hid hx
      obtain ⟨ol, hol⟩ : ∃ ol, o.length = ol := ⟨_, rfl⟩
      rw [hol] at CW hom HO ⊢
      have HOL := Lib.hid hol
      clear hown hbel hB2 ht hdr hx hol
      by_cases hx0 : x = 0
      · subst hx0
        rw [expT_cons_ok HX.out] at hexp
        have HE := Lib.hid hexp; clear hexp
        have hk0 : (0 : Int) ≤ k := by omega
        go_wp2_with fail
        refine (CW.out _).mono ?_; rintro e w1 ⟨rfl, hb1⟩
        have hB3 := HB2.out.trans (hb1.mono (by simp))
        have HO3 := Lib.hid (own_only HO.out (Only.of_below hB3 Nob) (fun _ _ h => h))
        have k0 : w1.cell? ⟨wr.heap.size, 0, none⟩ = some (.int .u8 tl) := (hb1.cell (p := ⟨wr.heap.size, 0, none⟩) (by simp)).trans ((Whole.new wr 29 _).cell 0)
        have k1 : w1.cell? ⟨wr.heap.size, 1, none⟩ = some (.int .i64 tn) := (hb1.cell (p := ⟨wr.heap.size, 1, none⟩) (by simp)).trans ((Whole.new wr 29 _).cell 1)
        have k2 : w1.cell? ⟨wr.heap.size, 2, none⟩ = some (.int .i64 td) := (hb1.cell (p := ⟨wr.heap.size, 2, none⟩) (by simp)).trans ((Whole.new wr 29 _).cell 2)
        have HB3 := Lib.hid hB3; clear hb1 hB3
        go_wp2_with fail
        obtain ⟨q1, q2, q3⟩ := wrongT_ok HX.out
        have hsz3 := HB3.out.size
        refine (appended_any w.heap.size (.slice As ol cs) o ol HOL.out (by omega) tl tn td q1 (by rw [HOL.out] at q2; exact q2) w1 HO3.out (by omega)).mono ?_
        rintro e w2 ⟨v2, rfl, hown2, hb2⟩
        have hlen := (addT_length HX.out).2
        have HBf := Lib.hid ((HBel.out.trans (HB3.out.mono HBel.out.size)).trans hb2)
        have HO2 := Lib.hid hown2
        clear hown2 hb2 q1 q2 q3
        go_wp2_with fail
        go_roundw
        case rel => exact ⟨k + 1, addT ⟨tl, tn, td⟩ o, by omega, by go_num, HO2.out, HE.out, hlen, HBf.out⟩
        case measure => simp [intOf]; omega
      · rw [expT_cons_er (by rw [HX.out]; exact hx0), HX.out] at hexp
        have hx100 : x < 100 := by rw [← HX.out]; exact wrongT_lt _ _ _
        have HE := Lib.hid hexp; clear hexp
        have hk0 : (0 : Int) ≤ k := by omega
        have dx : ((x : Int) != 0) = true := by simpa using hx0
        go_wp2_with fail
        refine (CW.out _).mono ?_; rintro e w1 ⟨rfl, hb1⟩
        have HB3 := Lib.hid (HB2.out.trans (hb1.mono (by simp))); clear hb1
        go_wp2_with fail
        go_ret2
        exact .inr ⟨x, hx0, hx100, HE.out, rfl, HBel.out.trans (HB3.out.mono HBel.out.size)⟩
    · obtain rfl : k = n := by omega
      rw [List.drop_eq_nil_of_le (by rw [HLN.out]; exact Nat.le_refl _)] at hexp
      have HO := Lib.hid hown
      have HBel := Lib.hid hbel
      have HE := Lib.hid hexp
      clear hown hbel hexp
      obtain ⟨As, cs, rfl, _⟩ := own_form HO.out
      go_wp2_with fail
      go_ret2
      exact .inl ⟨o, _, HE.out, rfl, HO.out, HBel.out⟩
end Go.Proofs.Ythlgceeldnhhbaa
