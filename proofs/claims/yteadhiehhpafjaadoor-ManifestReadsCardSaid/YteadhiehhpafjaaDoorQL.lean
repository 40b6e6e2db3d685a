/-
  The document's Parse. Conditions: a text of at most 1500 bytes.
-/
import Derived.Test.YteadhiehhpafjaaDoorQK
namespace Go.Proofs.YteadhiehhpafjaaDoor
open Go Go.RowKit
set_option maxRecDepth 100000

theorem RRow.at {W : World} {base : Nat} {v : Value} {rows : List Value} {out : Secs} (h : RRow W base v rows out) {k : Nat} (hk : k < out.length) :
    ∃ (g c5 : Nat) (A : Option Addr) (c : Nat), v = .slice (some ⟨g, 0, none⟩) out.length c5 ∧ W.cell? ⟨g, k, none⟩ = some (.slice A out[k].length c) ∧ Seen W W.heap.size 1 A out[k].length c (lsv out[k]) := by
  obtain ⟨g, c5, rfl, _, _⟩ := own_pos h.2.1 (by omega)
  obtain ⟨u, h1, h2⟩ := h.2.2.1 k hk
  obtain ⟨A, c, rfl, _⟩ := own_form h2
  exact ⟨g, c5, A, c, rfl, (h.2.1.cellAt k (by omega)).trans h1, Seen.of_own h2⟩
theorem Fit.line {k : Nat} {out : Secs} (h : Fit k out) {s : List (List UInt8)} (hs : s ∈ out) {l : List UInt8} (hl : l ∈ s) : l.length ≤ 72 * k := (h.2 s hs).2 l hl
theorem cut_len (l : List UInt8) : (pairL l).1.size ≤ l.length ∧ (pairL l).2.size ≤ l.length := by
  unfold pairL Lib.cut
  split
  · simp only [tx_size, List.length_take, List.length_drop]; omega
  · simp only [tx_size]; simp
theorem fst_first (acc : List Sec) : fstOf acc = firstM (decide (acc.length = 0)) := by
  unfold fstOf
  cases acc with
  | nil => rfl
  | cons a t => rw [if_neg (by simp)]; simp [firstM, partF]
def ParsesDoc (w : World) (r : Int × List Sec) (e : Ending) (w' : World) : Prop :=
  ∃ A1 n1 c1 A2 n2 c2, e = .returned (.tuple #[.agg #[.slice A1 n1 c1, .slice A2 n2 c2], .int .i64 r.1]) ∧ Below w.heap.size w w' ∧ (r.1 ≠ 0 → (Value.slice A1 n1 c1 = .slice none 0 0 ∧ Value.slice A2 n2 c2 = .slice none 0 0)) ∧
    (r.1 = 0 → ∃ main ps, r.2 = main :: ps ∧ ManSeen w' w'.heap.size (.agg #[.slice A1 n1 c1, .slice A2 n2 c2]) main ps)
theorem psG_bad {acc : List Sec} {s : List (List UInt8)} {r : Secs} {e : Int} (h : psL (fstOf acc) [] s = (e, [])) (he : e ≠ 0) : psG acc (s :: r) = (e, []) := by
  rw [psG, h, if_neg he]
theorem psGall_bad {gs : Secs} {e : Int} (h : psG [] gs = (e, [])) (he : e ≠ 0) : psGall gs = (e, []) := by
  rw [psGall, h, if_neg (fun h => he h.1)]
theorem ps_tail {B : Nat} {w : World} {g n c : Nat} {x : Value} {r : List Value} (h : Seen w B 1 (some ⟨g, 0, none⟩) n c (x :: r)) : Seen w B 1 (some ⟨g, 1, none⟩) (n - 1) (c - 1) r := by
  obtain ⟨h1, h2, h3⟩ := h
  simp only [List.length_cons] at h1
  refine ⟨by omega, by omega, .inr ⟨_, rfl, fun hne => ?_⟩⟩
  rcases h3 with ⟨h3, _⟩ | ⟨a, ha, h3⟩
  · cases h3
  · cases ha
    obtain ⟨g1, g2, g3⟩ := h3 (by simp)
    refine ⟨rfl, g2, fun j u hj => ?_⟩
    have := g3 (j + 1) u (by simpa using hj)
    simp only at this ⊢
    rw [show 1 + j = 0 + (j + 1) by omega]; exact this
theorem ps_tail2 {B : Nat} {w : World} {g n c : Nat} {x : Value} {r : List Value} {A : Option Addr} (h : Seen w B 1 (some ⟨g, 0, none⟩) n c (x :: r)) (hA : (if c = 1 then some (⟨g, 0, none⟩ : Addr) else some ⟨g, 1, none⟩) = A) : Seen w B 1 A (n - 1) (c - 1) r := by
  by_cases hc : c = 1
  · rw [if_pos hc] at hA
    subst hA
    obtain ⟨h1, h2, _⟩ := h
    simp only [List.length_cons] at h1
    obtain rfl : r = [] := List.eq_nil_of_length_eq_zero (by omega)
    exact ⟨by simp; omega, by omega, .inr ⟨_, rfl, fun hne => absurd rfl hne⟩⟩
  · rw [if_neg hc] at hA
    subst hA
    exact ps_tail h
theorem man_end {W : World} {base k c6 c8 g6 : Nat} {A8 A : Option Addr} {rows : List Value} {main : Sec} {ps : List Sec} (ho : W.ownsRow base 24 1 (.slice (some ⟨g6, 0, none⟩) k c6) k rows) (hs : SecsOwn W base base rows (main :: ps))
    (h0 : rows[0]? = some (.slice A8 main.length c8)) (hk : (main :: ps).length = k) (hA : (if c6 = 1 then some (⟨g6, 0, none⟩ : Addr) else some ⟨g6, 1, none⟩) = A) :
    ManSeen W W.heap.size (.agg #[.slice A8 main.length c8, .slice A (k - 1) (c6 - 1)]) main ps := by
  obtain ⟨hl, hsec⟩ := hs
  cases rows with
  | nil => simp at h0
  | cons r0 rt =>
    simp only [List.length_cons] at hl hk
    obtain ⟨v0, e0, o0, _⟩ := hsec 0 (by simp)
    simp only [List.getElem?_cons_zero, Option.some.injEq, List.getElem_cons_zero] at e0 h0 o0
    rw [← e0, h0] at o0
    have hkp : k - 1 = ps.length := by omega
    have hp := ps_tail2 (Seen.of_own ho) hA
    rw [hkp] at hp ⊢
    refine ⟨A8, c8, A, c6 - 1, rt, rfl, Seen.of_own o0, hp, by omega, fun i hi => ?_⟩
    obtain ⟨v, e, o, _⟩ := hsec (i + 1) (by simp; omega)
    simp only [List.getElem?_cons_succ, List.getElem_cons_succ] at e o
    obtain ⟨A', c', rfl, _⟩ := own_form o
    exact ⟨A', c', e, Seen.of_own o⟩
theorem pair45_info : (Tryd.prog.info? 44).map (fun i => (i.zero, i.size, i.bytes)) = some (some (.agg #[.string ⟨#[]⟩, .string ⟨#[]⟩]), 2, 32) := pair_info

set_option maxHeartbeats 16000000 in
theorem dparse_any (l : List UInt8) (n c B : Nat) (A : Option Addr) (hn : l.length = n) (hs : n ≤ 1500) (w : World) (hA : Seen w B 1 A n c (Lib.byteCells l)) (hB : B ≤ w.heap.size) :
    Calls Tryd.prog 9 #[.slice A n c] w (ParsesDoc w (parseP l)) := by
  obtain ⟨w0, hw0⟩ : ∃ W, w.alloc (.cells #[.slice none 0 0, .slice none 0 0] 27) = W := ⟨_, rfl⟩
  have W0 : Hid (Whole w0 w.heap.size 27 #[.slice none 0 0, .slice none 0 0]) := Lib.hid (hw0 ▸ Whole.new w 27 _)
  have B0 : Hid (Below w.heap.size w w0) := Lib.hid (hw0 ▸ (Below.refl w.heap.size w).alloc (Nat.le_refl _) _)
  have Z0 : Hid (w0.heap.size = w.heap.size + 1) := Lib.hid (by rw [← hw0]; simp)
  have HA := Lib.hid hA
  have d1 : decide ((16777216 : Int) < (n : Int)) = false := by rw [decide_eq_false_iff_not]; omega
  clear hA
  by_cases hn0 : n = 0
  · subst hn0
    obtain rfl : l = [] := List.eq_nil_of_length_eq_zero hn
    have hp : parseP [] = (6, []) := parse_six (by simp) (by simp)
    have HP := Lib.hid hp
    clear hp
    go_enter Tryd.func9, Tryd.ntmps9
    go_wp2_with (refine wpList_store_row rfl 27 (.tmp 2) (.tmp 31) rfl w.heap.size #[.slice none 0 0, .slice none 0 0] rfl rfl 27 #[.slice none 0 0, .slice none 0 0] W0.out (man_size _ _) rfl nil_one ?_)
    refine bodyPost_ret (results_man (p := 2) (u := 3) rfl _ _ w.heap.size _ _ rfl (W0.out.setRow _)) rfl ?_
    rw [HP.out]
    exact ⟨_, _, _, _, _, _, rfl, below_setRow B0.out _ (Nat.le_refl _), fun _ => ⟨rfl, rfl⟩, fun h => by cases h⟩
  obtain ⟨M, hM⟩ : ∃ M, n = M + 1 := ⟨n - 1, by omega⟩
  have hlne : l ≠ [] := by rintro rfl; simp at hn; omega
  have hMl : M < l.length := by omega
  obtain ⟨b, o, u, rfl, _, hu, hc⟩ := (HA.out.below (B0.out.mono hB)).at (show M < n by omega)
  obtain ⟨x, hx⟩ : ∃ x, l[M] = x := ⟨_, rfl⟩
  obtain rfl : u = .int .u8 x.toNat := by
    have : (Lib.byteCells l)[M]? = some (.int .u8 l[M].toNat) := by simp [Lib.byteCells, hMl]
    rw [hx] at this
    exact (Option.some.inj (this.symm.trans hu)).symm
  have hlast : l.getLast? = some x := by
    rw [List.getLast?_eq_getElem?, show l.length - 1 = M by omega, List.getElem?_eq_getElem hMl, hx]
  have q0 : ((n : Int) == 0) = false := by rw [beq_eq_false_iff_ne]; omega
  have q1 : (n : Int) - 1 = (M : Int) := by omega
  have q2 : (M : Int) < (n : Int) := by omega
  have HM := Lib.hid hM
  clear hM hn0 hu hx hMl
  by_cases hx10 : x = 10
  rotate_left
  · have hp : parseP l = (6, []) := parse_six (by omega) (by rw [hlast]; simpa using hx10)
    have d10 : ((x.toNat : Int) != 10) = true := by
      rw [bne_iff_ne]
      intro e
      exact hx10 (UInt8.toNat_inj.1 (by have e2 : x.toNat = 10 := by omega
                                        rw [e2]; rfl))
    have HP := Lib.hid hp
    clear hp hlast hx10
    go_enter Tryd.func9, Tryd.ntmps9
    go_wp2_with (refine wpList_store_row rfl 27 (.tmp 2) (.tmp 31) rfl w.heap.size #[.slice none 0 0, .slice none 0 0] rfl rfl 27 #[.slice none 0 0, .slice none 0 0] W0.out (man_size _ _) rfl nil_one ?_)
    refine bodyPost_ret (results_man (p := 2) (u := 3) rfl _ _ w.heap.size _ _ rfl (W0.out.setRow _)) rfl ?_
    rw [HP.out]
    exact ⟨_, _, _, _, _, _, rfl, below_setRow B0.out _ (Nat.le_refl _), fun _ => ⟨rfl, rfl⟩, fun h => by cases h⟩
  subst hx10
  have d10 : (((10 : UInt8).toNat : Int) != 10) = false := rfl
  obtain ⟨ls, t, hlt, h10, ht10⟩ := parts_of l
  have htn : t = [] := by
    by_cases e : t = []
    · exact e
    · rw [hlt, List.getLast?_append, List.getLast?_eq_some_getLast e] at hlast
      have h2 : t.getLast e = 10 := by simpa using hlast
      exact absurd (h2 ▸ List.getLast_mem e) ht10
  rw [htn, List.append_nil] at hlt
  have hlsn : ls ≠ [] := by rintro rfl; exact hlne hlt
  have hp := parse_ten h10 hlsn (by rw [← hlt, hn]; omega)
  rw [← hlt] at hp
  have SC := Lib.hid (sections_any ls h10 (some ⟨b, o, none⟩) n c B (by rw [← hlt]; exact hn) hs w0 (by rw [← hlt]; exact HA.out.below (B0.out.mono hB)) (by have := Z0.out; omega))
  obtain ⟨D, hD⟩ : ∃ D, dsL [] false (ls.map cR) = D := ⟨_, rfl⟩
  rw [hD] at SC hp
  obtain ⟨r, gs⟩ := D
  simp only at hp
  clear hlt hD hlsn htn ht10 hlast hlne h10 hn
  by_cases hr0 : r = 0
  rotate_left
  · rw [if_pos hr0] at hp
    have hr1 : (r != 0) = true := by rw [bne_iff_ne]; exact hr0
    have HR0 := Lib.hid hr0
    have HP := Lib.hid hp
    clear hr0 hp
    go_enter Tryd.func9, Tryd.ntmps9
    go_wp2_with (first | (refine wpList_store_row rfl 27 (.tmp 2) (.tmp 39) rfl w.heap.size #[.slice none 0 0, .slice none 0 0] rfl rfl 27 #[.slice none 0 0, .slice none 0 0] W1.out (man_size _ _) rfl nil_one ?_) | (go_at_call 25; refine SC.out.mono ?_; rintro e w1 ⟨v, rows, rfl, b1, _, _⟩; have W1 := Lib.hid (W0.out.bel b1); have B1 := Lib.hid (B0.out.trans (b1.mono (by have := Z0.out; omega))); clear b1))
    refine bodyPost_ret (results_man (p := 2) (u := 3) rfl _ _ w.heap.size _ _ rfl (W1.out.setRow _)) rfl ?_
    rw [HP.out]
    exact ⟨_, _, _, _, _, _, rfl, below_setRow B1.out _ (Nat.le_refl _), fun _ => ⟨rfl, rfl⟩, fun h => absurd h HR0.out⟩
  subst hr0
  rw [if_neg (by simp)] at hp
  have HP := Lib.hid hp
  clear hp
  obtain ⟨i1, hi1, hy0, hy1, hy2⟩ := info_parts slice_info
  obtain ⟨i0, hi0, hz0, hz1, hz2⟩ := info_parts2 pair_info
  obtain ⟨G, hG⟩ : ∃ G, gs.length = G := ⟨_, rfl⟩
  go_enter Tryd.func9, Tryd.ntmps9
  go_wp2_with (go_at_call 25; refine SC.out.mono ?_; rintro e w1 ⟨v, rows, rfl, b1, _, h1⟩; have W1 := Lib.hid (W0.out.bel b1); have B1 := Lib.hid (B0.out.trans (b1.mono (by have := Z0.out; omega))); obtain ⟨hRR, kf, hkf, hF⟩ := h1 rfl; obtain ⟨A5, c5, rfl, _⟩ := own_form hRR.2.1; have RR1 := Lib.hid hRR; have FF := Lib.hid hF; have HFG := Lib.hid (And.intro hF.1 hkf); rw [hG]; clear b1 h1 hRR hF)
  have HG := Lib.hid hG
  have hGb : G ≤ 1500 := by have := HFG.out; omega
  clear hG
  go_loopg [6, 43] G (fun j v6 v wr => ∃ (k : Nat) (acc : List Sec) (rows6 : List Value), k ≤ G ∧ j = G - k ∧ v = .int .i64 k ∧ Below w1.heap.size w1 wr ∧ wr.ownsRow w1.heap.size 24 1 v6 k rows6 ∧ SecsOwn wr w1.heap.size w1.heap.size rows6 acc ∧ acc.length = k ∧ psG [] gs = psG acc (gs.drop k))
  case atStart => exact ⟨0, [], [], by omega, rfl, rfl, Below.refl _ _, World.ownsRow_nil _ _ _ _, ⟨rfl, fun i h => absurd h (Nat.not_lt_zero _)⟩, rfl, rfl⟩
  case round =>
    obtain ⟨k, acc, rows6, hk, rfl, rfl, hbl, ho6, hso, hal, hpg⟩ := hrel
    obtain ⟨wo, rfl⟩ : ∃ W, W = wr := ⟨_, rfl⟩
    obtain ⟨A6, c6, rfl, _⟩ := own_form ho6
    have BL := Lib.hid hbl
    have O6 := Lib.hid ho6
    have SO := Lib.hid hso
    have HAL := Lib.hid hal
    have HPG := Lib.hid hpg
    clear hbl ho6 hso hal hpg
    by_cases hlt : k < G
    · have hkl : k < gs.length := by have := HG.out; omega
      obtain ⟨g5, c5', A7, c7, e5, hc7, s7⟩ := (RR1.out.only (Only.of_below BL.out Nob)).at hkl
      rw [HG.out] at e5
      obtain ⟨rfl, _, rfl⟩ := Value.slice.inj e5
      obtain ⟨s, hs7⟩ : ∃ s, gs[k] = s := ⟨_, rfl⟩
      have hsm : s ∈ gs := hs7 ▸ List.getElem_mem hkl
      have hsl : s.length ≤ 1500 := by have := (FF.out.2 s hsm).1; have := HFG.out; omega
      have hD2 : gs.drop k = s :: gs.drop (k + 1) := by rw [List.drop_eq_getElem_cons hkl, hs7]
      rw [hs7] at hc7 s7
      obtain ⟨S, hS⟩ : ∃ S, s.length = S := ⟨_, rfl⟩
      rw [hS] at hc7 s7 hsl
      have S7 := Lib.hid s7
      have HD2 := Lib.hid hD2
      have HS := Lib.hid hS
      obtain ⟨F, hF⟩ : ∃ F, fstOf acc = F := ⟨_, rfl⟩
      obtain ⟨bk, hbk⟩ : ∃ bk, decide (k = 0) = bk := ⟨_, rfl⟩
      have hFb : F = firstM bk := by rw [← hF, fst_first, HAL.out, hbk]
      have dk : ((k : Int) == 0) = bk := by rw [← hbk]; by_cases e : k = 0 <;> simp [e]
      have dk2 : decide ((k : Int) = 0) = bk := by rw [← dk]; rfl
      have HF := Lib.hid hF
      have HFB := Lib.hid hFb
      have d0 : decide ((k : Int) < (G : Int)) = true := by rw [decide_eq_true_iff]; omega
      clear s7 hD2 hS hF hbk hFb e5 hs7
      go_wp2_with fail
      go_loopg [9, 50] S (fun j v9 v wr => ∃ (i : Nat) (a2 : Sec), i ≤ S ∧ j = S - i ∧ v = .int .i64 i ∧ Below wo.heap.size wo wr ∧ wr.ownsRow wo.heap.size 44 2 v9 i (pvs a2) ∧ a2.length = i ∧ (∀ q ∈ a2, q.1.size ≤ 1000000) ∧ psL F [] s = psL F a2 (s.drop i))
      case atStart => exact ⟨0, [], by omega, rfl, rfl, Below.refl _ _, World.ownsRow_nil _ _ _ _, rfl, (fun q h => (by cases h)), rfl⟩
      case round =>
        obtain ⟨i, a2, hi, rfl, rfl, hbi, ho9, hal2, hsz, hps⟩ := hrel
        obtain ⟨wi, rfl⟩ : ∃ W, W = wr := ⟨_, rfl⟩
        obtain ⟨A9, c9, rfl, _⟩ := own_form ho9
        have BI := Lib.hid hbi
        have O9 := Lib.hid ho9
        have HAL2 := Lib.hid hal2
        have HSZ := Lib.hid hsz
        have HPS := Lib.hid hps
        clear hbi ho9 hal2 hsz hps
        by_cases hil : i < S
        · have hil2 : i < s.length := by have := HS.out; omega
          obtain ⟨b8, o8, u8, rfl, _, hu8, hc8⟩ := (S7.out.below BI.out).at hil
          obtain ⟨l2, hl2⟩ : ∃ l2, s[i] = l2 := ⟨_, rfl⟩
          obtain rfl : u8 = .string (tx l2) := by
            have h := lsv_get s i hil2
            rw [hl2] at h
            exact (Option.some.inj (h.symm.trans hu8)).symm
          have hlm : l2 ∈ s := hl2 ▸ List.getElem_mem hil2
          have hll : l2.length ≤ 108000 := by have := FF.out.line hsm hlm; have := HFG.out; omega
          have hD3 : s.drop i = l2 :: s.drop (i + 1) := by rw [List.drop_eq_getElem_cons hil2, hl2]
          have hcl := cut_len l2
          have HD3 := Lib.hid hD3
          have HC := Lib.hid (fun W => header_any (tx l2) l2.length (tx_size l2) (by omega) W)
          have hcut := hdr_cut l2
          clear hu8 hl2 hD3
          have WI := Lib.hid ((W1.out.bel BL.out).bel BI.out)
          have BWI : Hid (Below w.heap.size w wi) := Lib.hid (B1.out.trans ((BL.out.trans (BI.out.mono BL.out.size)).mono B1.out.size))
          have hps1 : ∀ e, ps1 F a2 l2 = e → e ≠ 0 → psGall gs = (e, []) := fun e h1 h2 => psGall_bad (by
            rw [HPG.out, HD2.out]
            refine psG_bad ?_ h2
            rw [HF.out, HPS.out, HD3.out, psL, h1, if_neg h2]) h2
          cases hcc : (Lib.cut l2 [58, 32]).2.2 with
          | false =>
            have HER := Lib.hid (hps1 2 (by rw [ps1, if_pos hcc]) (by decide))
            have HC2 : Hid (∀ W, Calls Tryd.prog 26 #[.string (tx l2)] W (Gives W (.tuple #[.agg #[.string ⟨#[]⟩, .string ⟨#[]⟩], .bool false]))) := Lib.hid (fun W => by
              have h := HC.out W
              rw [hcut.2 hcc] at h; exact h)
            clear HC hcut hps1 hcc
            go_wp2_with (first | (refine wpList_store_row rfl 27 (.tmp 2) (.tmp 61) rfl w.heap.size #[.slice none 0 0, .slice none 0 0] rfl rfl 27 #[.slice none 0 0, .slice none 0 0] W3.out (man_size _ _) rfl nil_one ?_) | (refine wpList_store_row rfl 44 (.tmp 12) (.tmp 57) rfl w2.heap.size #[.string ⟨#[]⟩, .string ⟨#[]⟩] rfl rfl 44 (pairA ⟨#[]⟩ ⟨#[]⟩) ZW.out (pair_size _ _) rfl (pair_one _ _) ?_; (try rw [hw3])) | (go_at_call 26; refine (HC2.out _).mono ?_; rintro e w2 ⟨rfl, b2⟩; have ZW := Lib.hid (Whole.new w2 44 (pairA ⟨#[]⟩ ⟨#[]⟩)); obtain ⟨w3, hw3⟩ : ∃ W, (w2.alloc (.cells #[.string ⟨#[]⟩, .string ⟨#[]⟩] 44)).setRow w2.heap.size #[.string ⟨#[]⟩, .string ⟨#[]⟩] = W := ⟨_, rfl⟩; have b3 : Below w2.heap.size w2 w3 := hw3 ▸ below_setRow ((Below.refl w2.heap.size w2).alloc (Nat.le_refl _) (.cells (pairA ⟨#[]⟩ ⟨#[]⟩) 44)) (pairA ⟨#[]⟩ ⟨#[]⟩) (Nat.le_refl _); have W3 := Lib.hid ((WI.out.bel b2).bel b3); have B3 := Lib.hid (b2.trans (b3.mono b2.size)); clear b2 b3))
            refine bodyPost_ret (results_man (p := 2) (u := 3) rfl _ _ w.heap.size _ _ rfl (W3.out.setRow _)) rfl ?_
            rw [HP.out, HER.out]
            exact ⟨_, _, _, _, _, _, rfl, below_setRow (BWI.out.trans (B3.out.mono BWI.out.size)) _ (Nat.le_refl _), fun _ => ⟨rfl, rfl⟩, fun h => (by cases h)⟩
          | true =>
            obtain ⟨pa, pb, hpq⟩ : ∃ a b, pairL l2 = (a, b) := ⟨_, _, rfl⟩
            rw [hpq] at hcl
            have hpa : pa.size ≤ 108000 := by have := hcl.1; simp only at this; omega
            have hpb : pb.size ≤ 108000 := by have := hcl.2; simp only at this; omega
            have HC2 : Hid (∀ W, Calls Tryd.prog 26 #[.string (tx l2)] W (Gives W (.tuple #[.agg #[.string pa, .string pb], .bool true]))) := Lib.hid (fun W => by
              have h := HC.out W
              rw [hcut.1 hcc, hpq] at h; exact h)
            have hce : ps1 F a2 l2 = checkM bk a2 (pa, pb) := by rw [ps1, if_neg (by rw [hcc]; simp), hpq, checkM_eq, HFB.out]
            have S9 := Lib.hid (Seen.of_own O9.out)
            have CK := Lib.hid (fun (W : World) (h : Below wi.heap.size wi W) => check_any bk a2 pa pb A9 i c9 wi.heap.size HAL2.out (by omega) (by omega) (by omega) HSZ.out W (S9.out.below h) h.size)
            obtain ⟨e, he⟩ : ∃ e, checkM bk a2 (pa, pb) = e := ⟨_, rfl⟩
            rw [he] at CK hce
            have HCE := Lib.hid hce
            have HPQ := Lib.hid hpq
            by_cases he0 : e = 0
            rotate_left
            · have HER := Lib.hid (hps1 e hce he0)
              have hne : (e != 0) = true := by rw [bne_iff_ne]; exact he0
              have HE0 := Lib.hid he0
              clear HC hcut hps1 hcc hce hpq he he0 hcl
              go_wp2_with (first | (refine wpList_store_row rfl 27 (.tmp 2) (.tmp 69) rfl w.heap.size #[.slice none 0 0, .slice none 0 0] rfl rfl 27 #[.slice none 0 0, .slice none 0 0] W4.out (man_size _ _) rfl nil_one ?_) | (refine wpList_store_row rfl 44 (.tmp 12) (.tmp 57) rfl w2.heap.size #[.string pa, .string pb] rfl rfl 44 (pairA ⟨#[]⟩ ⟨#[]⟩) ZW.out (pair_size _ _) rfl (pair_one _ _) ?_; (try rw [hw3])) | (go_at_call 26; refine (HC2.out _).mono ?_; rintro e w2 ⟨rfl, b2⟩; have ZW := Lib.hid (Whole.new w2 44 (pairA ⟨#[]⟩ ⟨#[]⟩)); obtain ⟨w3, hw3⟩ : ∃ W, (w2.alloc (.cells #[.string ⟨#[]⟩, .string ⟨#[]⟩] 44)).setRow w2.heap.size #[.string pa, .string pb] = W := ⟨_, rfl⟩; have b3 : Below w2.heap.size w2 w3 := hw3 ▸ below_setRow ((Below.refl w2.heap.size w2).alloc (Nat.le_refl _) (.cells (pairA ⟨#[]⟩ ⟨#[]⟩) 44)) (pairA pa pb) (Nat.le_refl _); have W3 := Lib.hid ((WI.out.bel b2).bel b3); have B3 := Lib.hid (b2.trans (b3.mono b2.size)); have P3 : Hid (Whole w3 w2.heap.size 44 #[.string pa, .string pb]) := Lib.hid (hw3 ▸ ZW.out.setRow _); clear b2 b3) | (refine wpList_load_row rfl 44 (.tmp 12) rfl w2.heap.size rfl 44 #[.string pa, .string pb] (0, 0) _ P3.out Tryd.underlying44 rfl (pair_size _ _) ?_) | (go_at_call 27; refine (CK.out _ B3.out).mono ?_; rintro e4 w4 ⟨rfl, b4⟩; have W4 := Lib.hid (W3.out.bel b4); have B4 := Lib.hid (B3.out.trans (b4.mono B3.out.size)); clear b4))
              refine bodyPost_ret (results_man (p := 2) (u := 3) rfl _ _ w.heap.size _ _ rfl (W4.out.setRow _)) rfl ?_
              rw [HP.out, HER.out]
              exact ⟨_, _, _, _, _, _, rfl, below_setRow (BWI.out.trans (B4.out.mono BWI.out.size)) _ (Nat.le_refl _), fun _ => ⟨rfl, rfl⟩, fun h => absurd h HE0.out⟩
            · subst he0
              have hnx : psL F [] s = psL F (a2 ++ [(pa, pb)]) (s.drop (i + 1)) := by rw [HPS.out, HD3.out, psL, HCE.out, if_pos rfl, HPQ.out]
              have HNX := Lib.hid hnx
              clear HC hcut hps1 hcc hce hpq he hcl hnx
              go_wp2_with (first | (refine wpList_store_row rfl 44 (.tmp 12) (.tmp 57) rfl w2.heap.size #[.string pa, .string pb] rfl rfl 44 (pairA ⟨#[]⟩ ⟨#[]⟩) ZW.out (pair_size _ _) rfl (pair_one _ _) ?_; (try rw [hw3])) | (go_at_call 26; refine (HC2.out _).mono ?_; rintro e w2 ⟨rfl, b2⟩; have ZW := Lib.hid (Whole.new w2 44 (pairA ⟨#[]⟩ ⟨#[]⟩)); obtain ⟨w3, hw3⟩ : ∃ W, (w2.alloc (.cells #[.string ⟨#[]⟩, .string ⟨#[]⟩] 44)).setRow w2.heap.size #[.string pa, .string pb] = W := ⟨_, rfl⟩; have b3 : Below w2.heap.size w2 w3 := hw3 ▸ below_setRow ((Below.refl w2.heap.size w2).alloc (Nat.le_refl _) (.cells (pairA ⟨#[]⟩ ⟨#[]⟩) 44)) (pairA pa pb) (Nat.le_refl _); have W3 := Lib.hid ((WI.out.bel b2).bel b3); have B3 := Lib.hid (b2.trans (b3.mono b2.size)); have P3 : Hid (Whole w3 w2.heap.size 44 #[.string pa, .string pb]) := Lib.hid (hw3 ▸ ZW.out.setRow _); clear b2 b3) | (refine wpList_load_row rfl 44 (.tmp 12) rfl w2.heap.size rfl 44 #[.string pa, .string pb] (0, 0) _ P4.out Tryd.underlying44 rfl (pair_size _ _) ?_) | (refine wpList_load_row rfl 44 (.tmp 12) rfl w2.heap.size rfl 44 #[.string pa, .string pb] (0, 0) _ P3.out Tryd.underlying44 rfl (pair_size _ _) ?_) | (go_at_call 27; refine (CK.out _ B3.out).mono ?_; rintro e4 w4 ⟨rfl, b4⟩; have P4 := Lib.hid (P3.out.bel b4); have B4 := Lib.hid (B3.out.trans (b4.mono B3.out.size)); have B5 := Lib.hid (B4.out.alloc B4.out.size (.cells #[.string pa, .string pb] 44)); have O5 := Lib.hid (own_only O9.out (Only.of_below B5.out Nob) (fun _ _ h => h)); have HSP := Lib.hid (seen_pair w4 pa pb); have hz4 := Nat.le_trans BI.out.size B4.out.size; clear b4) | (at_builtin; refine wpList_append_seen _ rfl (.tmp 71) (.tmp 73) _ rfl wo.heap.size 44 i0 _ 2 32 Tryd.underlying24 hi0 hz0 hz1 hz2 rfl (by omega) (.slice A9 i c9) i (pvs a2) rfl O5.out (w4.heap.size + 1) (some ⟨w4.heap.size, 0, none⟩) 1 1 [.string pa, .string pb] rfl HSP.out (by (intro u hu; simp at hu; rcases hu with rfl | rfl <;> rfl)) (by (simp [maxLen]; omega)) (by omega) (by (simp; omega)) ?_; intro v2 w6 ho2 hg2 hv2; obtain ⟨A2, c2, rfl, _⟩ := own_form ho2; have HH := Lib.hid (And.intro ho2 hg2); clear ho2 hg2 hv2))
              obtain ⟨g1, g2⟩ := HH.out
              have B6 : Hid (Below wo.heap.size wo w6) := Lib.hid ((BI.out.trans (B5.out.mono BI.out.size)).grown g2 (by simp; omega) (fun j hj => (own_whole O9.out hj).1))
              have G1 := Lib.hid g1
              clear g1 g2
              go_roundg (S - (i + 1))
              case measure => omega
              case rel => exact ⟨i + 1, a2 ++ [(pa, pb)], by omega, rfl, by go_num, B6.out, (by rw [pvs_snoc]; exact G1.out), (by rw [List.length_append, HAL2.out]; rfl), (fun q hq => (by
                rcases List.mem_append.1 hq with hq | hq
                · exact HSZ.out q hq
                · rw [List.mem_singleton.1 hq]; show pa.size ≤ 1000000; omega)), HNX.out⟩
        · obtain rfl : i = S := by omega
          have hend : psL F [] s = (0, a2) := by rw [HPS.out, List.drop_eq_nil_of_le (by have := HS.out; omega), psL]
          have hpn : psG [] gs = psG (acc ++ [a2]) (gs.drop (k + 1)) := by rw [HPG.out, HD2.out, psG, HF.out, hend, if_pos rfl]
          have HPN := Lib.hid hpn
          have B5 := Lib.hid ((BI.out).alloc BI.out.size (.cells #[.slice A9 i c9] 24))
          have O5 := Lib.hid (own_only O6.out (Only.of_below B5.out Nob) (fun _ _ h => h))
          have HSO := Lib.hid (seen_one wi 24 (.slice A9 i c9))
          have hz5 := Nat.le_trans BL.out.size BI.out.size
          clear hend hpn
          go_wp2_with (at_builtin; refine wpList_append_seen _ rfl (.tmp 76) (.tmp 78) _ rfl w1.heap.size 24 i1 _ 1 24 Tryd.underlying25 hi1 hy0 hy1 hy2 rfl (by omega) (.slice A6 k c6) k rows6 rfl O5.out (wi.heap.size + 1) (some ⟨wi.heap.size, 0, none⟩) 1 1 [.slice A9 i c9] rfl HSO.out (by (intro u hu; simp at hu; subst hu; rfl)) (by (simp [maxLen]; omega)) (by omega) (by (simp; omega)) ?_; intro v2 w6 ho2 hg2 hv2; obtain ⟨A2, c2, rfl, _⟩ := own_form ho2; have HH := Lib.hid (And.intro ho2 hg2); clear ho2 hg2 hv2)
          obtain ⟨g1, g2⟩ := HH.out
          have B6 : Hid (Below w1.heap.size w1 w6) := Lib.hid ((BL.out.trans (B5.out.mono BL.out.size)).grown g2 (by simp; omega) (fun j hj => (own_whole O6.out hj).1))
          have X6 : Only (fun j => (Value.slice A6 k c6).ownBlock = some j) (wi.alloc (.cells #[.slice A9 i c9] 24)) w6 := (Only.refl _ _).grown g2 (fun j hj _ => hj)
          have X7 : Only (fun j => (Value.slice A6 k c6).ownBlock = some j) wo w6 := (Only.of_below B5.out _).trans X6
          have G9 : w6.ownsRow w1.heap.size 44 2 (.slice A9 i c9) a2.length (pvs a2) := by
            have h1 := own_base O9.out (base' := w1.heap.size) BL.out.size
            have h2 := own_only h1 ((Only.refl Nob wi).alloc (.cells #[.slice A9 i c9] 24)) (fun _ _ h => h)
            rw [HAL2.out]
            exact own_only h2 X6 (fun j hj hj2 => own_ne_own h2 O5.out (by decide) j hj hj2)
          have SO6 := SO.out.only X7 (fun j cs _ hw hj => own_ne_whole O6.out hw (by decide) j hj rfl)
          have G6 := Lib.hid g1
          have SO7 : Hid (SecsOwn w6 w1.heap.size w1.heap.size (rows6 ++ [.slice A9 i c9]) (acc ++ [a2])) := Lib.hid (by
            refine ⟨by rw [List.length_append, List.length_append, SO6.1]; rfl, fun d hd => ?_⟩
            by_cases hda : d < acc.length
            · obtain ⟨v, h1, h2, h3⟩ := SO6.2 d hda
              refine ⟨v, by rw [List.getElem?_append_left (by have := SO6.1; omega)]; exact h1, ?_, h3⟩
              rw [List.getElem_append_left hda]; exact h2
            · have hd2 : d = acc.length := by simp at hd; omega
              subst hd2
              refine ⟨_, by rw [List.getElem?_append_right (by have := SO6.1; omega), SO6.1, Nat.sub_self]; rfl, ?_, fun j hj => (own_whole G9 hj).1⟩
              rw [List.getElem_append_right (Nat.le_refl _)]
              simp only [Nat.sub_self, List.getElem_cons_zero]
              exact G9)
          clear g1 g2 X6 X7 G9 SO6
          go_roundg (G - (k + 1))
          case measure => omega
          case rel => exact ⟨k + 1, acc ++ [a2], rows6 ++ [.slice A9 i c9], by omega, rfl, by go_num, B6.out, G6.out, SO7.out, (by rw [List.length_append, HAL.out]; rfl), HPN.out⟩
    · obtain rfl : k = G := by omega
      have hend : psG [] gs = (0, acc) := by rw [HPG.out, List.drop_eq_nil_of_le (by have := HG.out; omega), psG]
      have WL := Lib.hid (W1.out.bel BL.out)
      have BWL : Hid (Below w.heap.size w wo) := Lib.hid (B1.out.trans (BL.out.mono B1.out.size))
      by_cases hk0 : k = 0
      · subst hk0
        obtain rfl : acc = [] := List.eq_nil_of_length_eq_zero HAL.out
        have HER : Hid (psGall gs = (2, [])) := Lib.hid (by rw [psGall, hend, if_pos ⟨rfl, rfl⟩])
        clear hend
        go_wp2_with (refine wpList_store_row rfl 27 (.tmp 2) (.tmp 84) rfl w.heap.size #[.slice none 0 0, .slice none 0 0] rfl rfl 27 #[.slice none 0 0, .slice none 0 0] WL.out (man_size _ _) rfl nil_one ?_)
        refine bodyPost_ret (results_man (p := 2) (u := 3) rfl _ _ w.heap.size _ _ rfl (WL.out.setRow _)) rfl ?_
        rw [HP.out, HER.out]
        exact ⟨_, _, _, _, _, _, rfl, below_setRow BWL.out _ (Nat.le_refl _), fun _ => ⟨rfl, rfl⟩, fun h => (by cases h)⟩
      · obtain ⟨main, ps, rfl⟩ : ∃ main ps, acc = main :: ps := List.exists_cons_of_ne_nil (by intro e; have := HAL.out; rw [e] at this; simp at this; omega)
        have HER : Hid (psGall gs = (0, main :: ps)) := Lib.hid (by rw [psGall, hend, if_neg (fun h => by cases h.2)])
        obtain ⟨g6, c6', e6, hc6, _⟩ := own_pos O6.out (by omega)
        obtain ⟨rfl, _, rfl⟩ := Value.slice.inj e6
        obtain ⟨v0, hr0, ho0, _⟩ := SO.out.2 0 (by simp)
        obtain ⟨A8, c8, rfl, _⟩ := own_form ho0
        simp only [List.getElem_cons_zero] at hr0 ho0
        have cM : wo.drew.cell? ⟨g6, 0, none⟩ = some (.slice A8 main.length c8) := by
          show wo.cell? ⟨g6, 0, none⟩ = _
          rw [O6.out.cellAt 0 (by omega)]; exact hr0
        have q9 : 0 < k := by omega
        have q10 : IntKind.i64.wrap 0 = 0 := IntWalk.i64_in _ (by omega)
        have dk0 : ((k : Int) == 0) = false := by rw [beq_eq_false_iff_ne]; omega
        have q5 : (0 : Int) < (k : Int) := by omega
        have q6 : (1 : Int) ≤ (k : Int) := by omega
        have q7 : (1 : Int) ≤ (c6 : Int) := by omega
        have q8 : (k : Int) ≤ (c6 : Int) := by omega
        have WD : Hid (Whole wo.drew w.heap.size 27 #[.slice none 0 0, .slice none 0 0]) := Lib.hid WL.out.drew
        have HR0 := Lib.hid hr0
        have HO0 := Lib.hid ho0
        clear hend e6 hr0 ho0
        go_upto_region 28 with fail
        refine wp_region_still_tail 6 (by kernel_rfl) (by kernel_rfl) ?_
        simp only [List.take_succ_cons, List.take_zero, List.drop_succ_cons, List.drop_zero]
        repeat still_step
        refine wpStill_nil ?_
        obtain ⟨A10, hA10⟩ : ∃ A10 : Option Addr, (if c6 = 1 then some (⟨g6, 0, none⟩ : Addr) else some ⟨g6, 1, none⟩) = A10 := ⟨_, rfl⟩
        simp only [hA10]
        have HA10 := Lib.hid hA10
        clear hA10
        go_wp2_with (refine wpList_store_row rfl 27 (.tmp 2) (.tmp 90) rfl w.heap.size #[.slice A8 main.length c8, .slice A10 (k - 1) (c6 - 1)] rfl rfl 27 #[.slice none 0 0, .slice none 0 0] WD.out (man_size _ _) rfl (two_one (A8, main.length, c8) (A10, k - 1, c6 - 1)) ?_)
        refine bodyPost_ret (results_man (p := 2) (u := 3) rfl _ _ w.heap.size _ _ rfl (WD.out.setRow _)) rfl ?_
        rw [HP.out, HER.out]
        have X : Only (fun j => j = w.heap.size) wo (wo.drew.setRow w.heap.size #[.slice A8 main.length c8, .slice A10 (k - 1) (c6 - 1)]) := ((Only.refl (fun j => j = w.heap.size) wo).drew).trans (only_setRow wo.drew w.heap.size _ rfl)
        have hz1 : w.heap.size < w1.heap.size := W1.out.lt
        have BD : Below w.heap.size w wo.drew := ⟨BWL.out.os, BWL.out.tape, BWL.out.output, BWL.out.size, BWL.out.block⟩
        exact ⟨_, _, _, _, _, _, rfl, below_setRow BD _ (Nat.le_refl _), fun h => absurd rfl h, fun _ => ⟨main, ps, rfl, man_end (own_only O6.out X (fun j hj hj2 => by have := (own_whole O6.out hj).1; omega)) (SO.out.only X (fun j cs hz _ hj => by omega)) HR0.out HAL.out HA10.out⟩⟩
end Go.Proofs.YteadhiehhpafjaaDoor
