/-
  Mathematics of the statement's own list of tokens: what is no token, or reaches too far back, becomes a byte. Conditions: each theorem names its own. Nothing of the program stands here.
  The contract of the statement's own list of tokens: which of them may stand, and what they stand for. Conditions: the slice of tokens is read as told (Seen), their bytes are bytes, there are at most 300 of them.
-/
import Derived.Test.YtkjhefjjacokjaaGreatZ4
import Derived.Test.YtkjhefjjacokjaaGreatTF
import Derived.Test.YtkjhefjjacokjaaGreatCT
import Derived.Great.BuildSlice
namespace Go.Proofs.YtkjhefjjacokjaaGreat

/-- What may stand behind so many bytes. -/
def fixT (t : Tok) (n : Nat) : Tok := if rightT t = false ∨ (n : Int) < t.dist then ⟨t.lit, 0, 0⟩ else t
/-- The list, and what it stands for. -/
def tokP : List Tok → List Tok × List Nat → List Tok × List Nat
  | [], p => p
  | t :: l, p => tokP l (p.1 ++ [fixT t p.2.length], addT (fixT t p.2.length) p.2)
theorem tokP_snoc (l : List Tok) (t : Tok) (p : List Tok × List Nat) : tokP (l ++ [t]) p = ((tokP l p).1 ++ [fixT t (tokP l p).2.length], addT (fixT t (tokP l p).2.length) (tokP l p).2) := by
  induction l generalizing p with
  | nil => rfl
  | cons u l ih => exact ih _
theorem fixT_right (t : Tok) (n : Nat) : rightT (fixT t n) = true := by
  unfold fixT
  split
  · rfl
  · rename_i h
    cases e : rightT t
    · exact absurd (.inl e) h
    · rfl
theorem fixT_back (t : Tok) (n : Nat) : (fixT t n).dist ≤ n := by
  unfold fixT
  split
  · simp
  · rename_i h
    have : ¬ ((n : Int) < t.dist) := fun e => h (.inr e)
    omega
theorem fixT_lit (t : Tok) (n : Nat) (h : t.lit < 256) : (fixT t n).lit < 256 := by
  unfold fixT
  split
  · exact h
  · exact h
theorem fixT_ok (t : Tok) (n : Nat) (most : Int) (hm : (n : Int) + 258 ≤ most) : wrongT (fixT t n) n most = 0 := by
  unfold wrongT
  have h1 := fixT_right t n
  have h2 := fixT_back t n
  rw [if_neg (by rw [h1]; simp), if_neg (by omega), if_neg]
  have h3 : (fixT t n).len ≤ 258 := by
    by_cases h0 : (fixT t n).len = 0
    · omega
    · exact (rightT_copy h1 h0).2.2.1
  omega
/-- The list's tokens are right, and stand for its bytes. -/
def TokOk (l : List Tok) : Prop := (tokP l ([], [])).1.length = l.length ∧ (tokP l ([], [])).1.all rightT = true ∧ expT 100000 (tokP l ([], [])).1 [] = (0, (tokP l ([], [])).2) ∧ (tokP l ([], [])).2.length ≤ 258 * l.length
theorem tokOk_snoc {l : List Tok} (t : Tok) (hl : l.length ≤ 300) (h : TokOk l) : TokOk (l ++ [t]) := by
  obtain ⟨h1, h2, h3, h4⟩ := h
  unfold TokOk
  rw [tokP_snoc]
  have hw : wrongT (fixT t (tokP l ([], [])).2.length) (tokP l ([], [])).2.length 100000 = 0 := fixT_ok _ _ _ (by omega)
  refine ⟨by simp [h1], by rw [List.all_append, h2]; simp [fixT_right], expT_append h3 hw, ?_⟩
  have e := (addT_length hw).1
  have h5 : (fixT t (tokP l ([], [])).2.length).len ≤ 258 := by
    by_cases h0 : (fixT t (tokP l ([], [])).2.length).len = 0
    · omega
    · exact (rightT_copy (fixT_right _ _) h0).2.2.1
  simp only [List.length_append, List.length_singleton]
  omega
theorem tokOk_take (l : List Tok) (hl : l.length ≤ 300) : ∀ k, k ≤ l.length → TokOk (l.take k)
  | 0, _ => ⟨rfl, rfl, rfl, Nat.le_refl _⟩
  | k + 1, h => by
    have e : l.take (k + 1) = l.take k ++ [l[k]'(by omega)] := (List.take_append_getElem (by omega)).symm
    rw [e]
    exact tokOk_snoc _ (by rw [List.length_take]; omega) (tokOk_take l hl k (by omega))
end Go.Proofs.YtkjhefjjacokjaaGreat

namespace Go.Proofs.YtkjhefjjacokjaaGreat
open Go.RowKit
set_option maxRecDepth 100000
theorem tok_info : (Tryz.prog.info? 42).map (fun i => (i.zero, i.size, i.bytes)) = some (some (.agg #[.int .u8 0, .int .i64 0, .int .i64 0]), 3, 24) := by kernel_rfl
theorem tvs_one (l : List Tok) : ∀ u ∈ tvs l, u.oneCell' = true := by
  intro u hu
  simp only [tvs, List.mem_flatMap, tc] at hu
  obtain ⟨p, _, hp⟩ := hu
  simp at hp
  rcases hp with rfl | rfl | rfl <;> rfl
theorem seen_tok (w : World) (tl : Nat) (tm td : Int) : Seen (w.alloc (.cells #[.int .u8 tl, .int .i64 tm, .int .i64 td] 42)) (w.heap.size + 1) 3 (some ⟨w.heap.size, 0, none⟩) 1 1 (tvs [⟨tl, tm, td⟩]) := by
  have hW := Whole.new w 42 #[.int .u8 tl, .int .i64 tm, .int .i64 td]
  refine ⟨rfl, Nat.le_refl _, .inr ⟨_, rfl, fun _ => ⟨rfl, Nat.lt_succ_self _, fun j u hu => ?_⟩⟩⟩
  show _ = some u
  simp only [Nat.zero_add]
  rw [hW.cell j]
  have e : tvs [⟨tl, tm, td⟩] = [.int .u8 tl, .int .i64 tm, .int .i64 td] := rfl
  rw [e] at hu
  rw [← hu]
  simp
/-- What tokens answers. -/
def TokRes (l : List Tok) (w : World) (e : Ending) (w' : World) : Prop :=
  ∃ vo vb, e = .returned (.tuple #[vo, vb]) ∧ w'.ownsRow w.heap.size 42 3 vo l.length (tvs (tokP l ([], [])).1) ∧ w'.ownsRow w.heap.size 5 1 vb (tokP l ([], [])).2.length (bx (tokP l ([], [])).2) ∧ Below w.heap.size w w'
/-- Where the loop stands. -/
structure TlAt (w : World) (l : List Tok) (k : Nat) (s4 s5 : Value) (wr : World) : Prop where
  o : wr.ownsRow w.heap.size 42 3 s4 k (tvs (tokP (l.take k) ([], [])).1)
  b : wr.ownsRow w.heap.size 5 1 s5 (tokP (l.take k) ([], [])).2.length (bx (tokP (l.take k) ([], [])).2)
  bel : Below w.heap.size w wr
theorem TlAt.below {w : World} {l : List Tok} {k : Nat} {s4 s5 : Value} {wr w' : World} (h : TlAt w l k s4 s5 wr) (hb : Below wr.heap.size wr w') : TlAt w l k s4 s5 w' :=
  ⟨own_only h.o (Only.of_below hb Nob) (fun _ _ h => h), own_only h.b (Only.of_below hb Nob) (fun _ _ h => h), h.bel.trans (hb.mono h.bel.size)⟩
theorem TlAt.only {w : World} {l : List Tok} {k : Nat} {s4 s5 : Value} {wr w' : World} {g : Nat} {t : TypeId} {cs : Array Value} (h : TlAt w l k s4 s5 wr) (hb : Only (fun i => i = g) wr w') (hg : w.heap.size ≤ g) (h4 : ∀ j, s4.ownBlock = some j → j ≠ g) (hw : Whole wr g t cs) (ht : t ≠ 5) : TlAt w l k s4 s5 w' :=
  ⟨own_only h.o hb (fun j hj e => h4 j hj e), own_only h.b hb (fun j hj e => own_ne_whole h.b hw (fun e => ht e.symm) j hj e), h.bel.trans (hb.below h.bel.size (fun i hi => by rw [hi]; exact hg))⟩
theorem tl_next {l : List Tok} {k : Nat} {t : Tok} (hl : l.length ≤ 300) (ht : l[k]? = some t) {u : Tok} (hu : fixT t (tokP (l.take k) ([], [])).2.length = u) :
    (tokP (l.take (k + 1)) ([], [])).1 = (tokP (l.take k) ([], [])).1 ++ [u] ∧ expT 100000 ((tokP (l.take k) ([], [])).1 ++ [u]) [] = (0, (tokP (l.take (k + 1)) ([], [])).2) := by
  obtain ⟨hkl, ht2⟩ := List.getElem?_eq_some_iff.1 ht
  have htk : l.take (k + 1) = l.take k ++ [t] := by rw [← ht2, List.take_append_getElem]
  have h1 : (tokP (l.take (k + 1)) ([], [])).1 = (tokP (l.take k) ([], [])).1 ++ [u] := by rw [htk, tokP_snoc, hu]
  refine ⟨h1, ?_⟩
  rw [← h1]
  exact (tokOk_take l hl (k + 1) (by omega)).2.2.1
set_option linter.unusedSimpArgs false in
set_option maxHeartbeats 4000000 in
theorem lawTokens_any (A : Option Addr) (n c B : Nat) (l : List Tok) (hn : n ≤ 300) (w : World) (hs : Seen w B 3 A n c (tvs l)) (hB : B ≤ w.heap.size) :
    Calls Tryz.prog 5 #[.slice A n c] w (TokRes l w) := by
  obtain ⟨i0, hi0, hz0, hz1, hz2⟩ := info_parts tok_info
  have hln : l.length = n := by have := hs.1; rw [tvs_length] at this; omega
  have HS := Lib.hid hs; clear hs
  have HLN := Lib.hid hln; clear hln
  go_enter Tryz.func5, Tryz.ntmps5
  go_wp2_with fail
  go_loopw [4, 5, 10] (fun s4 s5 i wr => ∃ k : Nat, k ≤ n ∧ i = .int .i64 k ∧ TlAt w l k s4 s5 wr) (fun _ _ i _ => n - (intOf i).toNat)
  case atStart => exact ⟨0, Nat.zero_le _, rfl, World.ownsRow_nil _ _ _ _, World.ownsRow_nil _ _ _ _, Below.refl _ _⟩
  case round =>
    obtain ⟨k, hk, rfl, hT⟩ := hrel
    have HT := Lib.hid hT; clear hT
    by_cases hlt : k < n
    · obtain ⟨t, b, of', ht, rfl, hbB, c0, c1, c2⟩ := (HS.out.below (HT.out.bel.mono hB)).tok hlt
      have hsz := HT.out.bel.size
      have hbr : b < wr.heap.size := by omega
      have hne : wr.heap.size ≠ b := by omega
      have HNX := Lib.hid (fun u hu => tl_next (u := u) (by rw [HLN.out]; exact hn) ht hu)
      obtain ⟨As, cs, rfl, _⟩ := own_form HT.out.o
      obtain ⟨Ab, cb, rfl, _⟩ := own_form HT.out.b
      obtain ⟨m, hm⟩ : ∃ m, (tokP (l.take k) ([], [])).2.length = m := ⟨_, rfl⟩
      have hOne := HT.out.o
      obtain ⟨tl, tn, td⟩ := t
      simp only at c0 c1 c2
      have CR := Lib.hid (fun W => rright_any tl tn td W)
      have HFX : Hid (fixT ⟨tl, tn, td⟩ m = if rightT ⟨tl, tn, td⟩ = false ∨ (m : Int) < td then ⟨tl, 0, 0⟩ else ⟨tl, tn, td⟩) := Lib.hid rfl
      obtain ⟨R, hRt⟩ : ∃ R, rightT ⟨tl, tn, td⟩ = R := ⟨_, rfl⟩
      rw [hRt] at CR HFX
      rw [hm] at HNX HT ⊢
      obtain ⟨P1, hP1⟩ : ∃ P1, (tokP (l.take k) ([], [])).1 = P1 := ⟨_, rfl⟩
      rw [hP1] at HNX hOne
      have HP1 := Lib.hid hP1
      have HM := Lib.hid hm
      have hk0 : (0 : Int) ≤ k := by omega
      have hB5 : Below wr.heap.size wr (wr.alloc (.cells #[.int .u8 tl, .int .i64 tn, .int .i64 td] 42)) := (Below.refl _ _).alloc (Nat.le_refl _) _
      have WT := Lib.hid (Whole.new wr 42 #[.int .u8 tl, .int .i64 tn, .int .i64 td])
      have HT5 := Lib.hid (HT.out.below hB5)
      have HA4 : Hid (∀ j, (Value.slice As k cs).ownBlock = some j → j ≠ wr.heap.size) := Lib.hid (fun j hj => by have := (own_whole hOne hj).2.choose_spec.lt; omega)
      have hgw : w.heap.size ≤ wr.heap.size := hsz
      obtain ⟨g6, hg6⟩ : ∃ g6, wr.heap.size = g6 := ⟨_, rfl⟩
      rw [hg6] at WT hbr hne HA4 hgw
      clear hB5 HT ht hRt hm hP1 hOne hsz
      go_wp2_with fail
      clear c0 c1 c2 hbr hne hg6
      generalize wr.alloc (.cells #[.int .u8 tl, .int .i64 tn, .int .i64 td] 42) = W5 at *
      refine (CR.out _).mono ?_
      rintro e w6 ⟨rfl, hb6⟩
      have hW6 := WT.out.only (Only.of_below hb6 Nob) (fun h => h)
      have HT6 := Lib.hid (HT5.out.below hb6)
      have v0 : w6.cell? ⟨g6, 0, none⟩ = some (.int .u8 tl) := hW6.cell 0
      have v1 : w6.cell? ⟨g6, 1, none⟩ = some (.int .i64 tn) := hW6.cell 1
      have v2 : w6.cell? ⟨g6, 2, none⟩ = some (.int .i64 td) := hW6.cell 2
      have z0 := hW6.frozen 0
      have z1 := hW6.frozen 1
      have z2 := hW6.frozen 2
      have HW6 := Lib.hid hW6
      clear hb6 hW6 HT5 WT
      by_cases hbad : R = false ∨ (m : Int) < td
      · rw [if_pos hbad] at HFX
        have HNX := Lib.hid (HNX.out _ HFX.out)
        have HTK : Hid (TlAt w l k (.slice As k cs) (.slice Ab m cb) (((w6.setCell ⟨g6, 0, none⟩ (.int .u8 tl)).setCell ⟨g6, 1, none⟩ (.int .i64 0)).setCell ⟨g6, 2, none⟩ (.int .i64 0))) := Lib.hid (HT6.out.only ((((Only.refl (fun i => i = g6) w6).setCell (p := ⟨g6, 0, none⟩) (.inl rfl) _).setCell (p := ⟨g6, 1, none⟩) (.inl rfl) _).setCell (p := ⟨g6, 2, none⟩) (.inl rfl) _) hgw HA4.out HW6.out (by decide))
        have HWK := Lib.hid (HW6.out.put3 (.int .u8 tl) (.int .i64 0) (.int .i64 0))
        obtain ⟨W7, hW7⟩ : ∃ W7, ((w6.setCell ⟨g6, 0, none⟩ (.int .u8 tl)).setCell ⟨g6, 1, none⟩ (.int .i64 0)).setCell ⟨g6, 2, none⟩ (.int .i64 0) = W7 := ⟨_, rfl⟩
        rw [hW7] at HTK HWK
        cases R with
        | false =>
          clear hbad HT6 HW6
          have v0 : W7.cell? ⟨g6, 0, none⟩ = some (.int .u8 tl) := HWK.out.cell 0
          have v1 : W7.cell? ⟨g6, 1, none⟩ = some (.int .i64 0) := HWK.out.cell 1
          have v2 : W7.cell? ⟨g6, 2, none⟩ = some (.int .i64 0) := HWK.out.cell 2
          have HSN : Hid (Seen (W7.alloc (.cells #[.int .u8 tl, .int .i64 0, .int .i64 0] 42)) (W7.heap.size + 1) 3 (some ⟨W7.heap.size, 0, none⟩) 1 1 (tvs [⟨tl, 0, 0⟩])) := Lib.hid (seen_tok _ _ _ _)
          have HTA := Lib.hid (HTK.out.below ((Below.refl _ _).alloc (Nat.le_refl _) (.cells #[.int .u8 tl, .int .i64 0, .int .i64 0] 42)))
          have HO5 := Lib.hid (show (W7.alloc (.cells #[.int .u8 tl, .int .i64 0, .int .i64 0] 42)).ownsRow w.heap.size 42 3 (.slice As k cs) k (tvs P1) by rw [← HP1.out]; exact HTA.out.o)
          go_wp2_with (at_builtin; refine wpList_append_seen _ rfl (.tmp 27) (.tmp 29) _ rfl w.heap.size 42 i0 _ 3 24 Tryz.underlying22 hi0 hz0 hz1 hz2 rfl (by omega) (.slice As k cs) k (tvs P1) rfl HO5.out _ _ 1 1 (tvs [⟨tl, 0, 0⟩]) rfl HSN.out (tvs_one _) (by simp only [maxLen]; omega) (by omega) (HTA.out.bel.size) ?_; intro s1 w6 hown6 hg6 hat6)
          have hB6 := HTA.out.bel.grown hg6 HTA.out.bel.size (fun j hj => (own_whole HTA.out.o hj).1)
          have HB6 := Lib.hid hB6
          obtain ⟨A6, c6, rfl, _, hs6⟩ := own_seen hown6
          rw [← tvs_append] at hs6 hown6
          have HO6 := Lib.hid hown6
          have CE := Lib.hid (rexpand_any A6 (k + 1) c6 w6.heap.size _ (by omega) 100000 (by omega) (by omega) w6 hs6 (Nat.le_refl _))
          clear hown6 hg6 hat6 hB6 hs6 HTA HSN HTK v0 v1 v2
          go_wp2_with fail
          refine CE.out.mono ?_
          rintro e w7 (⟨o7, v7, hx7, rfl, hown7, hb7⟩ | ⟨er, her, _, hx7, _⟩)
          · rw [HNX.out.2] at hx7
            injection hx7 with _ hx7
            subst hx7
            have HT7 : Hid (TlAt w l (k + 1) (.slice A6 (k + 1) c6) v7 w7) := Lib.hid ⟨by rw [HNX.out.1]; exact own_only HO6.out (Only.of_below hb7 Nob) (fun _ _ h => h), own_base hown7 HB6.out.size, HB6.out.trans (hb7.mono HB6.out.size)⟩
            clear hown7 hb7
            go_wp2_with fail
            go_roundw
            case rel => exact ⟨k + 1, by omega, by go_num, HT7.out⟩
            case measure => simp [intOf]; omega
          · rw [HNX.out.2] at hx7
            injection hx7 with hx7 _
            exact absurd hx7.symm her
        | true =>
          have dd : decide ((m : Int) < td) = true := decide_eq_true (by simpa using hbad)
          clear hbad HT6 HW6
          have v0' : W7.cell? ⟨g6, 0, none⟩ = some (.int .u8 tl) := HWK.out.cell 0
          have v1' : W7.cell? ⟨g6, 1, none⟩ = some (.int .i64 0) := HWK.out.cell 1
          have v2' : W7.cell? ⟨g6, 2, none⟩ = some (.int .i64 0) := HWK.out.cell 2
          have HSN : Hid (Seen (W7.alloc (.cells #[.int .u8 tl, .int .i64 0, .int .i64 0] 42)) (W7.heap.size + 1) 3 (some ⟨W7.heap.size, 0, none⟩) 1 1 (tvs [⟨tl, 0, 0⟩])) := Lib.hid (seen_tok _ _ _ _)
          have HTA := Lib.hid (HTK.out.below ((Below.refl _ _).alloc (Nat.le_refl _) (.cells #[.int .u8 tl, .int .i64 0, .int .i64 0] 42)))
          have HO5 := Lib.hid (show (W7.alloc (.cells #[.int .u8 tl, .int .i64 0, .int .i64 0] 42)).ownsRow w.heap.size 42 3 (.slice As k cs) k (tvs P1) by rw [← HP1.out]; exact HTA.out.o)
          go_wp2_with (at_builtin; refine wpList_append_seen _ rfl (.tmp 27) (.tmp 29) _ rfl w.heap.size 42 i0 _ 3 24 Tryz.underlying22 hi0 hz0 hz1 hz2 rfl (by omega) (.slice As k cs) k (tvs P1) rfl HO5.out _ _ 1 1 (tvs [⟨tl, 0, 0⟩]) rfl HSN.out (tvs_one _) (by simp only [maxLen]; omega) (by omega) (HTA.out.bel.size) ?_; intro s1 w6 hown6 hg6 hat6)
          have hB6 := HTA.out.bel.grown hg6 HTA.out.bel.size (fun j hj => (own_whole HTA.out.o hj).1)
          have HB6 := Lib.hid hB6
          obtain ⟨A6, c6, rfl, _, hs6⟩ := own_seen hown6
          rw [← tvs_append] at hs6 hown6
          have HO6 := Lib.hid hown6
          have CE := Lib.hid (rexpand_any A6 (k + 1) c6 w6.heap.size _ (by omega) 100000 (by omega) (by omega) w6 hs6 (Nat.le_refl _))
          clear hown6 hg6 hat6 hB6 hs6 HTA HSN HTK v0 v1 v2
          go_wp2_with fail
          refine CE.out.mono ?_
          rintro e w7 (⟨o7, v7, hx7, rfl, hown7, hb7⟩ | ⟨er, her, _, hx7, _⟩)
          · rw [HNX.out.2] at hx7
            injection hx7 with _ hx7
            subst hx7
            have HT7 : Hid (TlAt w l (k + 1) (.slice A6 (k + 1) c6) v7 w7) := Lib.hid ⟨by rw [HNX.out.1]; exact own_only HO6.out (Only.of_below hb7 Nob) (fun _ _ h => h), own_base hown7 HB6.out.size, HB6.out.trans (hb7.mono HB6.out.size)⟩
            clear hown7 hb7
            go_wp2_with fail
            go_roundw
            case rel => exact ⟨k + 1, by omega, by go_num, HT7.out⟩
            case measure => simp [intOf]; omega
          · rw [HNX.out.2] at hx7
            injection hx7 with hx7 _
            exact absurd hx7.symm her
      · rw [if_neg hbad] at HFX
        have HNX := Lib.hid (HNX.out _ HFX.out)
        have HTK := HT6
        have dd : decide ((m : Int) < td) = false := decide_eq_false (fun h => hbad (.inr h))
        obtain rfl : R = true := by cases R; exact absurd (.inl rfl) hbad; rfl
        clear hbad HT6
        have HSN : Hid (Seen (w6.alloc (.cells #[.int .u8 tl, .int .i64 tn, .int .i64 td] 42)) (w6.heap.size + 1) 3 (some ⟨w6.heap.size, 0, none⟩) 1 1 (tvs [⟨tl, tn, td⟩])) := Lib.hid (seen_tok _ _ _ _)
        have HTA := Lib.hid (HTK.out.below ((Below.refl _ _).alloc (Nat.le_refl _) (.cells #[.int .u8 tl, .int .i64 tn, .int .i64 td] 42)))
        have HO5 := Lib.hid (show (w6.alloc (.cells #[.int .u8 tl, .int .i64 tn, .int .i64 td] 42)).ownsRow w.heap.size 42 3 (.slice As k cs) k (tvs P1) by rw [← HP1.out]; exact HTA.out.o)
        go_wp2_with (at_builtin; refine wpList_append_seen _ rfl (.tmp 27) (.tmp 29) _ rfl w.heap.size 42 i0 _ 3 24 Tryz.underlying22 hi0 hz0 hz1 hz2 rfl (by omega) (.slice As k cs) k (tvs P1) rfl HO5.out _ _ 1 1 (tvs [⟨tl, tn, td⟩]) rfl HSN.out (tvs_one _) (by simp only [maxLen]; omega) (by omega) (HTA.out.bel.size) ?_; intro s1 w6 hown6 hg6 hat6)
        have hB6 := HTA.out.bel.grown hg6 HTA.out.bel.size (fun j hj => (own_whole HTA.out.o hj).1)
        have HB6 := Lib.hid hB6
        obtain ⟨A6, c6, rfl, _, hs6⟩ := own_seen hown6
        rw [← tvs_append] at hs6 hown6
        have HO6 := Lib.hid hown6
        have CE := Lib.hid (rexpand_any A6 (k + 1) c6 w6.heap.size _ (by omega) 100000 (by omega) (by omega) w6 hs6 (Nat.le_refl _))
        clear hown6 hg6 hat6 hB6 hs6 HTA HSN HTK v0 v1 v2
        go_wp2_with fail
        refine CE.out.mono ?_
        rintro e w7 (⟨o7, v7, hx7, rfl, hown7, hb7⟩ | ⟨er, her, _, hx7, _⟩)
        · rw [HNX.out.2] at hx7
          injection hx7 with _ hx7
          subst hx7
          have HT7 : Hid (TlAt w l (k + 1) (.slice A6 (k + 1) c6) v7 w7) := Lib.hid ⟨by rw [HNX.out.1]; exact own_only HO6.out (Only.of_below hb7 Nob) (fun _ _ h => h), own_base hown7 HB6.out.size, HB6.out.trans (hb7.mono HB6.out.size)⟩
          clear hown7 hb7
          go_wp2_with fail
          go_roundw
          case rel => exact ⟨k + 1, by omega, by go_num, HT7.out⟩
          case measure => simp [intOf]; omega
        · rw [HNX.out.2] at hx7
          injection hx7 with hx7 _
          exact absurd hx7.symm her
    · obtain rfl : k = n := by omega
      have hO := HT.out.o
      have hb := HT.out.b
      have hbel := HT.out.bel
      rw [List.take_of_length_le (by rw [HLN.out]; exact Nat.le_refl _)] at hO hb
      rw [← HLN.out] at hO
      obtain ⟨As, cs, rfl, _⟩ := own_form hO
      obtain ⟨Ab, cb, rfl, _⟩ := own_form hb
      have HO := Lib.hid hO; have HB := Lib.hid hb; have HBEL := Lib.hid hbel
      clear hO hb hbel HT
      go_wp2_with fail
      go_ret2
      exact ⟨_, _, rfl, HO.out, HB.out, HBEL.out⟩
end Go.Proofs.YtkjhefjjacokjaaGreat
