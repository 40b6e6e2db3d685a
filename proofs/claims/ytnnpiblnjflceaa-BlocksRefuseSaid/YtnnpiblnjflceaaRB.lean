/-
  The walk of BlocksRefuse: whatever the tokens, the token and the number, the law answers true, and nothing that was there has changed. Conditions: the slice of tokens is read as told (Seen), bytes are bytes.
-/
import Derived.Test.YtnnpiblnjflceaaTL
import Derived.Test.YtnnpiblnjflceaaBX
import Derived.Test.YtnnpiblnjflceaaST
import Derived.Test.YtnnpiblnjflceaaG7
namespace Go.Proofs.Ytnnpiblnjflceaa
open Go.RowKit
set_option maxRecDepth 100000

theorem tokP_lit : ∀ (l : List Tok) (p : List Tok × List Nat), (∀ t ∈ l, t.lit < 256) → (∀ t ∈ p.1, t.lit < 256) → ∀ t ∈ (tokP l p).1, t.lit < 256
  | [], _, _, hp => hp
  | t :: l, p, hl, hp => tokP_lit l _ (fun u hu => hl u (List.mem_cons_of_mem _ hu)) (fun u hu => by
      rcases List.mem_append.1 hu with hu | hu
      · exact hp u hu
      · obtain rfl := List.mem_singleton.1 hu
        exact fixT_lit _ _ (hl t (List.mem_cons_self ..)))
theorem tokP_count (l : List Tok) (p : List Tok × List Nat) : (tokP l p).1.length = p.1.length + l.length := by
  induction l generalizing p with
  | nil => rfl
  | cons t l ih =>
    rw [tokP, ih]
    simp
    omega

theorem made_byte (L : Nat) : (madeCells (Value.int .u8 0).cells (L * 1)).toList = bx (List.replicate L 0) := by
  apply List.ext_getElem
  · simp [madeCells, bx]
  · intro i h1 h2
    simp [madeCells, bx, Value.cells, Nat.mod_one]
/-- The first bytes of a row of noughts. -/
theorem noughts_in {w : World} {B g N m : Nat} {gw : Nat} {cs : Array Value} {t : TypeId} (h : w.ownsRow B 5 1 (.slice (some ⟨g, 0, none⟩) N N) N (bx (List.replicate N 0))) (hm : m ≤ N) (hg : Whole w gw t cs) (ht : 5 ≠ t) : BytesIn w gw (.slice none 0 0) (some ⟨g, 0, none⟩) m N (List.replicate m 0) := by
  intro W hW
  have h1 := own_only h hW (fun k hk e => e.elim (fun e => own_ne_whole h hg ht k hk e) (fun e => by simp [Value.ownBlock] at e))
  have h2 := (Seen.of_own h1).cut (q := 0) (n := m) (by omega)
  have e : ((bx (List.replicate N 0)).drop 0).take m = bx (List.replicate m 0) := by
    simp [bx, Nat.min_eq_left hm]
  rw [e] at h2
  exact ⟨_, by simpa [Addr.add] using h2⟩

set_option maxHeartbeats 4000000 in
theorem refuse_law (A : Option Addr) (n c B : Nat) (l : List Tok) (hl : ∀ t ∈ l, t.lit < 256) (tl : Nat) (htl : tl < 256) (tn td : Int) (mo : Nat) (hmo : mo < 256) (w : World) (hs : Seen w B 3 A n c (tvs l)) (hB : B ≤ w.heap.size) :
    Calls Try.prog 5 #[.slice A n c, .agg #[.int .u8 tl, .int .i64 tn, .int .i64 td], .int .u8 mo] w fun e w' => e = .returned (.bool true) ∧ Below w.heap.size w w' := by
  obtain ⟨i0, hi0, hz0, hz1, hz2⟩ := info_parts tok_info
  have hln : l.length = n := by have := hs.1; rw [tvs_length] at this; omega
  have hB0 : Below w.heap.size w (w.alloc (.cells #[.int .u8 tl, .int .i64 tn, .int .i64 td] 41)) := (Below.refl _ _).alloc (Nat.le_refl _) _
  have HS := Lib.hid (hs.below (hB0.mono hB)); have HLN := Lib.hid hln; have HL := Lib.hid hl; have BB0 := Lib.hid hB0
  have WT := Lib.hid (Whole.new w 41 #[.int .u8 tl, .int .i64 tn, .int .i64 td])
  have CR := Lib.hid (fun W => rright_any tl tn td W)
  obtain ⟨R, hRt⟩ : ∃ R, rightT ⟨tl, tn, td⟩ = R := ⟨_, rfl⟩
  rw [hRt] at CR
  have HRT := Lib.hid hRt
  obtain ⟨g0, hg0⟩ : ∃ g0, w.heap.size = g0 := ⟨_, rfl⟩
  rw [hg0] at WT
  clear hs hln hl hB0 hRt
  go_enter Try.func5, Try.ntmps5
  go_wp2_with fail
  clear hg0
  generalize w.alloc (.cells #[.int .u8 tl, .int .i64 tn, .int .i64 td] 41) = W0 at *
  refine (fixed_any W0).mono ?_
  rintro e w1 ⟨rfl, hb1⟩
  have HS1 := Lib.hid (HS.out.below (hb1.mono (Nat.le_trans hB BB0.out.size)))
  have B1 := Lib.hid (BB0.out.trans (hb1.mono BB0.out.size))
  have hW1 := WT.out.only (Only.of_below hb1 Nob) (fun h => h)
  have WT1 := Lib.hid hW1
  have v0 : w1.cell? ⟨g0, 0, none⟩ = some (.int .u8 tl) := hW1.cell 0
  have v1 : w1.cell? ⟨g0, 1, none⟩ = some (.int .i64 tn) := hW1.cell 1
  have v2 : w1.cell? ⟨g0, 2, none⟩ = some (.int .i64 td) := hW1.cell 2
  clear hb1 hW1 BB0 WT HS
  by_cases hn40 : 40 < n
  · have d40 : decide (40 < n) = true := decide_eq_true hn40
    have d40' : decide ((40 : Int) < n) = true := decide_eq_true (by omega)
    go_wp2_with fail
    go_ret
    exact ⟨rfl, B1.out⟩
  have d40 : decide (40 < n) = false := decide_eq_false hn40
  have d40' : decide ((40 : Int) < n) = false := decide_eq_false (by omega)
  go_wp2_with fail
  refine (CR.out _).mono ?_
  rintro e w2 ⟨rfl, hb2⟩
  have hW2 := WT1.out.only (Only.of_below hb2 Nob) (fun h => h)
  have WT2 := Lib.hid hW2
  have v0 : w2.cell? ⟨g0, 0, none⟩ = some (.int .u8 tl) := hW2.cell 0
  have v1 : w2.cell? ⟨g0, 1, none⟩ = some (.int .i64 tn) := hW2.cell 1
  have v2 : w2.cell? ⟨g0, 2, none⟩ = some (.int .i64 td) := hW2.cell 2
  have HS2 := Lib.hid (HS1.out.below (hb2.mono (Nat.le_trans hB B1.out.size)))
  have B2 := Lib.hid (B1.out.trans (hb2.mono B1.out.size))
  clear hb2 hW2 B1 WT1 HS1 d40 d40'
  cases R with
  | true =>
    go_wp2_with fail
    go_ret
    exact ⟨rfl, B2.out⟩
  | false =>
  have CT := Lib.hid (lawTokens_any A n c B l (by omega) w2 HS2.out (Nat.le_trans hB B2.out.size))
  go_wp2_with fail
  refine CT.out.mono ?_
  rintro e w3 ⟨vo, vb, rfl, ho, hbb, hb3⟩
  clear hbb CT HS2
  have hW3 := WT2.out.only (Only.of_below hb3 Nob) (fun h => h)
  have WT3 := Lib.hid hW3
  have v0 : w3.cell? ⟨g0, 0, none⟩ = some (.int .u8 tl) := hW3.cell 0
  have v1 : w3.cell? ⟨g0, 1, none⟩ = some (.int .i64 tn) := hW3.cell 1
  have v2 : w3.cell? ⟨g0, 2, none⟩ = some (.int .i64 td) := hW3.cell 2
  have hP := tokP_lit l ([], []) HL.out (fun _ h => by cases h)
  obtain ⟨P1, hP1⟩ : ∃ P1, (tokP l ([], [])).1 = P1 := ⟨_, rfl⟩
  rw [hP1] at ho hP
  rw [HLN.out] at ho
  have ho := own_base ho B2.out.size
  have HP := Lib.hid hP
  have HO3 := Lib.hid ho
  have B3 := Lib.hid (B2.out.trans (hb3.mono B2.out.size))
  obtain ⟨As, cs, rfl, _⟩ := own_form ho
  clear hb3 hW3 B2 WT2 hP hP1 ho
  have HSN : Hid (Seen (w3.alloc (.cells #[.int .u8 tl, .int .i64 tn, .int .i64 td] 41)) (w3.heap.size + 1) 3 (some ⟨w3.heap.size, 0, none⟩) 1 1 (tvs [⟨tl, tn, td⟩])) := Lib.hid (seen_tok _ _ _ _)
  have hBa : Below w3.heap.size w3 (w3.alloc (.cells #[.int .u8 tl, .int .i64 tn, .int .i64 td] 41)) := (Below.refl _ _).alloc (Nat.le_refl _) _
  have HOA := Lib.hid (own_only HO3.out (Only.of_below hBa Nob) (fun _ _ h => h))
  have BA := Lib.hid (B3.out.trans (hBa.mono B3.out.size))
  have WTA := Lib.hid (WT3.out.only (Only.of_below hBa Nob) (fun h => h))
  clear hBa
  go_wp2_with (at_builtin; refine wpList_append_seen _ rfl (.tmp 25) (.tmp 27) _ rfl w.heap.size 41 i0 _ 3 24 Try.underlying26 hi0 hz0 hz1 hz2 rfl (by omega) (.slice As n cs) n (tvs P1) rfl HOA.out _ _ 1 1 (tvs [⟨tl, tn, td⟩]) rfl HSN.out (tvs_one _) (by simp only [maxLen]; omega) (by omega) (BA.out.size) ?_; intro s1 w6 hown6 hg6 hat6)
  have hB6 := BA.out.grown hg6 BA.out.size (fun j hj => (own_whole HOA.out hj).1)
  rw [← tvs_append] at hown6
  obtain ⟨A6, c6, rfl, _⟩ := own_form hown6
  have HO6 := Lib.hid hown6; have B6 := Lib.hid hB6
  clear hown6 hg6 hat6 hB6 HSN HOA BA WTA HO3 B3 WT3 v0 v1 v2
  go_wp2_with fail
  refine (newWriter_any w6).mono ?_
  rintro e w7 ⟨rfl, hw7, hb7⟩
  have HO7 := Lib.hid (own_only HO6.out (Only.of_below hb7 Nob) (fun _ _ h => h))
  have B7 := Lib.hid (B6.out.trans (hb7.mono B6.out.size))
  have HW7 := Lib.hid hw7
  have hgw : w.heap.size ≤ w6.heap.size := B6.out.size
  obtain ⟨gw, hgw'⟩ : ∃ gw, w6.heap.size = gw := ⟨_, rfl⟩
  rw [hgw'] at HW7 hgw ⊢
  clear hw7 hb7 hgw' HO6 B6
  obtain ⟨r, hr⟩ : ∃ r, mo % 2 = r := ⟨_, rfl⟩
  have r2 : r < 2 := by omega
  have er1 : (mo : Int).tmod 2 = r := by rw [Int.tmod_eq_emod_of_nonneg (by omega)]; omega
  have er2 : (mo : Int) % 2 = r := by omega
  obtain ⟨N, hN⟩ : ∃ N, 65535 + r = N := ⟨_, rfl⟩
  have eN : (65535 : Int) + r = N := by omega
  have wr1 : IntKind.u8.wrap (r : Int) = r := by simp [IntKind.wrap, IntKind.signed, IntKind.bits]; omega
  have wr2 : IntKind.i64.wrap (r : Int) = r := IntWalk.i64_in _ (by omega)
  have wN : IntKind.i64.wrap (N : Int) = N := IntWalk.i64_in _ (by omega)
  obtain ⟨j0, hj0, hy0, hy1, hy2⟩ := info_parts byte_info
  have hO : j0.bytes * N ≤ 281474976710656 := by rw [hy2]; omega
  have hNlo : 65535 ≤ N := by omega
  have hNhi : N ≤ 65536 := by omega
  have HNN := Lib.hid hN; have HRR := Lib.hid hr
  clear hN hr
  go_wp2_with (at_make; refine wpList_make_full _ rfl _ _ 27 rfl w7.heap.size 5 j0 _ 1 Try.underlying27 hj0 hy0 hy1 _ _ (N : Int) (N : Int) N rfl rfl rfl rfl hO (by simp only [maxLen]; omega) (Nat.le_refl _) ?_; intro w8 hown8 hg8)
  rw [made_byte] at hown8
  have HN8 := Lib.hid hown8
  have hb8 : Below w7.heap.size w7 w8 := (Below.refl _ _).grown hg8 (Nat.le_refl _) (by simp)
  have HO8 := Lib.hid (own_only HO7.out (Only.of_below hb8 Nob) (fun _ _ h => h))
  have B8 := Lib.hid (B7.out.trans (hb8.mono B7.out.size))
  have HW8 := Lib.hid (HW7.out.below hb8)
  obtain ⟨gl, hgl⟩ : ∃ gl, w7.heap.size = gl := ⟨_, rfl⟩
  rw [hgl] at HN8 ⊢
  have hgl' : w.heap.size ≤ gl := by have := B7.out.size; omega
  clear hown8 hg8 hb8 hgl HO7 B7 HW7 hO
  have d1 : decide (65535 ≤ N) = true := decide_eq_true (by omega)
  have d2 : decide ((65535 : Int) ≤ N) = true := decide_eq_true (by omega)
  have HBI := Lib.hid (noughts_in (m := 65535) HN8.out hNlo HW8.out.2.1 (by decide))
  have hbl : (List.replicate 65535 0).length = 65535 := List.length_replicate ..
  have hb0 : ∀ x ∈ List.replicate 65535 0, x < 256 := fun x hx => by rw [List.eq_of_mem_replicate hx]; omega
  obtain ⟨bs, hbs⟩ : ∃ bs, List.replicate 65535 0 = bs := ⟨_, rfl⟩
  rw [hbs] at HBI hbl hb0
  have CS := Lib.hid (stored_any gw gw (.slice none 0 0) [] (Nat.zero_le _) (some ⟨gl, 0, none⟩) 65535 N bs hbl hb0 (Nat.le_refl _) true w8 HW8.out HBI.out)
  clear hbl hb0 hbs
  have HNE8 := Lib.hid (fun j hj => own_ne_whole HO8.out HW8.out.2.1 (by decide) j hj)
  clear HN8 HBI HW8
  go_wp2_with fail
  refine CS.out.mono ?_
  rintro e w9 ⟨rfl, sv9, p1, p2, p3⟩
  have HO9 := Lib.hid (own_only HO8.out p2 (fun k hk e => e.elim (fun e => HNE8.out k hk e) (fun e => by simp [Value.ownBlock] at e)))
  have B9 := Lib.hid (B8.out.trans (p2.below B8.out.size (fun k hk => by rcases hk with rfl | hk; exact hgw; simp [Value.ownBlock] at hk)))
  obtain ⟨X, hX⟩ : ∃ X, storedH [] 65535 true ++ unpack bs = X := ⟨_, rfl⟩
  rw [hX] at p1
  have P9 := Lib.hid p1
  clear p2 p3 CS HO8 B8 HNE8 p1 hX
  go_wp2_with fail
  refine (len_any gw gw sv9 X w9 P9.out).mono ?_
  rintro e w10 ⟨rfl, rfl⟩
  obtain ⟨m, hm⟩ : ∃ m, X.length = m := ⟨_, rfl⟩
  rw [hm]
  have CLEN := Lib.hid (fun W h => len_any gw gw sv9 X W h)
  rw [hm] at CLEN
  obtain ⟨Q, hQ⟩ : ∃ Q, P1 ++ [⟨tl, tn, td⟩] = Q := ⟨_, rfl⟩
  have hQl : ∀ t ∈ Q, t.lit < 256 := by
    rw [← hQ]
    intro t ht
    rcases List.mem_append.1 ht with ht | ht
    · exact HP.out t ht
    · obtain rfl := List.mem_singleton.1 ht
      exact htl
  have hQb : Q.all rightT = false := by rw [← hQ, List.all_append]; simp [HRT.out]
  rw [hQ] at HO9
  have C15 := Lib.hid (fun W (hO : W.ownsRow w.heap.size 41 3 (.slice A6 (n + 1) c6) (n + 1) (tvs Q)) => fixed_bad gw true A6 (n + 1) c6 W.heap.size Q hQl (by omega) hQb W (Seen.of_own hO) (Nat.le_refl _))
  have C16 := Lib.hid (fun W (hO : W.ownsRow w.heap.size 41 3 (.slice A6 (n + 1) c6) (n + 1) (tvs Q)) => dynamic_bad gw true A6 (n + 1) c6 W.heap.size Q hQl (by omega) hQb W (Seen.of_own hO) (Nat.le_refl _))
  have C17 := Lib.hid (fun W (hO : W.ownsRow w.heap.size 41 3 (.slice A6 (n + 1) c6) (n + 1) (tvs Q)) => write_bad gw true (.slice none 0 0) A6 (n + 1) c6 W.heap.size Q hQl (by omega) hQb W (Seen.of_own hO) (Nat.le_refl _))
  have C20 := Lib.hid (fun W (hO : W.ownsRow w.heap.size 41 3 (.slice A6 (n + 1) c6) (n + 1) (tvs Q)) => fixedBits_bad A6 (n + 1) c6 W.heap.size Q hQl (by omega) hQb W (Seen.of_own hO) (Nat.le_refl _))
  have C21 := Lib.hid (fun W (hO : W.ownsRow w.heap.size 41 3 (.slice A6 (n + 1) c6) (n + 1) (tvs Q)) => dynamicBits_bad A6 (n + 1) c6 W.heap.size Q hQl (by omega) hQb W (Seen.of_own hO) (Nat.le_refl _))
  have CL := Lib.hid (fun W (h : 65535 < N) => stored_long gw (some ⟨gl, 0, none⟩) N N h true W)
  clear hm hQ hQl hQb HP HRT
  by_cases hr1 : r = 1
  · subst hr1
    go_wp2_with fail
    refine (CL.out _ (by have := HNN.out; omega)).mono ?_
    rintro e w11 ⟨rfl, rfl⟩
    go_wp2_with fail
    refine (C15.out _ HO9.out).mono ?_
    rintro e w12 ⟨rfl, hb⟩
    have HO12 := Lib.hid (own_only HO9.out (Only.of_below hb Nob) (fun _ _ h => h)); have B12 := Lib.hid (B9.out.trans (hb.mono B9.out.size)); have P12 := Lib.hid (P9.out.below hb)
    clear hb
    go_wp2_with fail
    refine (C16.out _ HO12.out).mono ?_
    rintro e w13 ⟨rfl, hb⟩
    have HO13 := Lib.hid (own_only HO12.out (Only.of_below hb Nob) (fun _ _ h => h)); have B13 := Lib.hid (B12.out.trans (hb.mono B12.out.size)); have P13 := Lib.hid (P12.out.below hb)
    clear hb
    go_wp2_with fail
    refine (C17.out _ HO13.out).mono ?_
    rintro e w14 ⟨rfl, hb⟩
    have HO14 := Lib.hid (own_only HO13.out (Only.of_below hb Nob) (fun _ _ h => h)); have B14 := Lib.hid (B13.out.trans (hb.mono B13.out.size)); have P14 := Lib.hid (P13.out.below hb)
    clear hb
    go_wp2_with fail
    refine (C20.out _ HO14.out).mono ?_
    rintro e w15 ⟨rfl, hb⟩
    have HO15 := Lib.hid (own_only HO14.out (Only.of_below hb Nob) (fun _ _ h => h)); have B15 := Lib.hid (B14.out.trans (hb.mono B14.out.size)); have P15 := Lib.hid (P14.out.below hb)
    clear hb
    go_wp2_with fail
    refine (C21.out _ HO15.out).mono ?_
    rintro e w16 ⟨rfl, hb⟩
    have B16 := Lib.hid (B15.out.trans (hb.mono B15.out.size)); have P16 := Lib.hid (P15.out.below hb)
    clear hb
    go_wp2_with fail
    refine (CLEN.out _ P16.out).mono ?_
    rintro e w17 ⟨rfl, rfl⟩
    go_wp2_with fail
    refine (fixed_nil0 none 0 0 true _).mono ?_
    rintro e w18 ⟨rfl, rfl⟩
    go_wp2_with fail
    refine (dynamic_nil0 none 0 0 true _).mono ?_
    rintro e w19 ⟨rfl, rfl⟩
    go_wp2_with fail
    refine (write_nil0 none 0 0 true _ _).mono ?_
    rintro e w20 ⟨rfl, rfl⟩
    go_wp2_with fail
    go_ret
    exact ⟨rfl, B16.out⟩
  · obtain rfl : r = 0 := by omega
    go_wp2_with fail
    refine (C15.out _ HO9.out).mono ?_
    rintro e w12 ⟨rfl, hb⟩
    have HO12 := Lib.hid (own_only HO9.out (Only.of_below hb Nob) (fun _ _ h => h)); have B12 := Lib.hid (B9.out.trans (hb.mono B9.out.size)); have P12 := Lib.hid (P9.out.below hb)
    clear hb
    go_wp2_with fail
    refine (C16.out _ HO12.out).mono ?_
    rintro e w13 ⟨rfl, hb⟩
    have HO13 := Lib.hid (own_only HO12.out (Only.of_below hb Nob) (fun _ _ h => h)); have B13 := Lib.hid (B12.out.trans (hb.mono B12.out.size)); have P13 := Lib.hid (P12.out.below hb)
    clear hb
    go_wp2_with fail
    refine (C17.out _ HO13.out).mono ?_
    rintro e w14 ⟨rfl, hb⟩
    have HO14 := Lib.hid (own_only HO13.out (Only.of_below hb Nob) (fun _ _ h => h)); have B14 := Lib.hid (B13.out.trans (hb.mono B13.out.size)); have P14 := Lib.hid (P13.out.below hb)
    clear hb
    go_wp2_with fail
    refine (C20.out _ HO14.out).mono ?_
    rintro e w15 ⟨rfl, hb⟩
    have HO15 := Lib.hid (own_only HO14.out (Only.of_below hb Nob) (fun _ _ h => h)); have B15 := Lib.hid (B14.out.trans (hb.mono B14.out.size)); have P15 := Lib.hid (P14.out.below hb)
    clear hb
    go_wp2_with fail
    refine (C21.out _ HO15.out).mono ?_
    rintro e w16 ⟨rfl, hb⟩
    have B16 := Lib.hid (B15.out.trans (hb.mono B15.out.size)); have P16 := Lib.hid (P15.out.below hb)
    clear hb
    go_wp2_with fail
    refine (CLEN.out _ P16.out).mono ?_
    rintro e w17 ⟨rfl, rfl⟩
    go_wp2_with fail
    refine (fixed_nil0 none 0 0 true _).mono ?_
    rintro e w18 ⟨rfl, rfl⟩
    go_wp2_with fail
    refine (dynamic_nil0 none 0 0 true _).mono ?_
    rintro e w19 ⟨rfl, rfl⟩
    go_wp2_with fail
    refine (write_nil0 none 0 0 true _ _).mono ?_
    rintro e w20 ⟨rfl, rfl⟩
    go_wp2_with fail
    go_ret
    exact ⟨rfl, B16.out⟩

theorem byte_of_wf' {x : Int} (h : (Lit.int .u8 x).wf = true) : ∃ m : Nat, m < 256 ∧ x = m := by
  simp [Lit.wf, IntKind.min, IntKind.max, IntKind.signed, IntKind.bits] at h
  exact ⟨x.toNat, by omega, by omega⟩
theorem refuse_law' (A : Option Addr) (n c : Nat) (t : Tok) (ht : t.lit < 256) (mo : Int) (hmo : (Lit.int .u8 mo).wf = true) (w : World) (h : ∃ l : List Tok, l.length = n ∧ Seen w w.heap.size 3 A n c (tvs l) ∧ ∀ t ∈ l, t.lit < 256) :
    Calls Try.prog 5 #[.slice A n c, .agg #[.int .u8 t.lit, .int .i64 t.len, .int .i64 t.dist], .int .u8 mo] w fun e w' => e = .returned (.bool true) ∧ Below w.heap.size w w' := by
  obtain ⟨l, _, hs, hl⟩ := h
  obtain ⟨m, hm, rfl⟩ := byte_of_wf' hmo
  exact refuse_law A n c w.heap.size l hl t.lit ht t.len t.dist m hm w hs (Nat.le_refl _)
end Go.Proofs.Ytnnpiblnjflceaa
