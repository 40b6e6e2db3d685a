/-
  The program's Read of a pool. Conditions: the cursor stands at the beginning, without an error, over at most a hundred thousand bytes.
-/
import Derived.Test.YtmojclbejmnikaaPQ
import Derived.Test.YtmojclbejmnikaaPK
namespace Go.Proofs.Ytmojclbejmnikaa
open Go Go.RowKit
set_option maxRecDepth 100000

theorem readM_end (bs : List Nat) {n a0 : Nat} {e0 : Int} (hp : num bs 0 0 2 = (n, a0, e0)) {out : List Raw} {a : Nat} {err : Int} (h : rdLoop bs n n [zr0] a0 e0 = (out, a, err)) (hgo : ¬ (out.length < n ∧ err = 0))
    {fin : Int} (hf : (if out.length = n then err else failed err 2) = fin) : readM bs = (if fin = 0 then some out else none, a, fin) := by
  unfold readM
  rw [hp]
  simp only
  by_cases hn : n = 0
  · subst hn
    rw [rdLoop] at h
    injection h with h1 h2
    injection h2 with h2 h3
    subst h1 h2 h3
    rw [if_neg (by simp)] at hf
    rw [rdLoop]
    simp only [and_true]
    unfold failed at hf
    subst hf
    by_cases he : e0 = 0
    · simp [he]
    · simp [he]
  · have hE : (if e0 = 0 ∧ n = 0 then (2 : Int) else e0) = e0 := if_neg (fun hh => hn hh.2)
    rw [hE, h]
    simp only
    unfold failed at hf
    by_cases he : err = 0
    · have hge : n ≤ out.length := by
        refine Nat.le_of_not_lt fun hl => hgo ⟨hl, he⟩
      by_cases hl : out.length = n
      · rw [if_pos hl] at hf; subst hf; simp [he, hl]
      · rw [if_neg hl, if_pos he] at hf; subst hf; rw [if_pos (show err = 0 ∧ n < out.length from ⟨he, by omega⟩)]
    · have : fin = err := by rw [← hf]; simp [he]
      subst this
      simp [he]
theorem form_wide (t : Int) : wideB t = decide (formM t = 56) := by
  unfold wideB formM
  by_cases h1 : t = 1
  · subst h1; rfl
  by_cases h3 : t = 3 ∨ t = 4
  · rw [if_neg h1, if_pos h3]; rcases h3 with h | h <;> subst h <;> rfl
  by_cases h5 : t = 5 ∨ t = 6
  · rw [if_neg h1, if_neg h3, if_pos h5]; rcases h5 with h | h <;> subst h <;> rfl
  rw [if_neg h1, if_neg h3, if_neg h5, decide_eq_false (by omega), decide_eq_false (by omega)]
  by_cases h7 : t = 7 ∨ t = 8
  · rw [if_pos h7]; rfl
  rw [if_neg h7]
  by_cases h9 : t = 9 ∨ t = 10 ∨ t = 11 ∨ t = 12
  · rw [if_pos h9]; rfl
  · rw [if_neg h9]; rfl

theorem oneM_place (bs : List Nat) (a : Nat) (ha : a ≤ bs.length) : (oneM bs a).2.1 ≤ bs.length := by
  have h0 := num_place bs a 0 1 ha
  unfold oneM
  simp only
  split
  · exact nxt_place _ _ _ _ _ (fun _ => by omega) (num_place _ _ _ _ h0)
  · split
    · exact num_place _ _ _ _ h0
    · split
      · exact num_place _ _ _ _ h0
      · split
        · exact num_place _ _ _ _ h0
        · split
          · exact num_place _ _ _ _ (num_place _ _ _ _ h0)
          · exact h0
/-- Where the reading of a pool stands. -/
structure PS (w W : World) (B g : Nat) (sv : Value) (bs : List Nat) (a : Nat) (err : Int) (v : Value) (n : Nat) (out : List Raw) : Prop where
  cur : CursorAt W B g sv bs a err
  row : W.ownsRow w.heap.size 47 5 v n (rv out)
  keep : Only (fun k => k = g) w W
section
variable {w W W' : World} {B g : Nat} {sv : Value} {bs : List Nat} {a a' : Nat} {err err' : Int} {v : Value} {n : Nat} {out : List Raw}
theorem PS.below (h : PS w W B g sv bs a err v n out) (hb : Below W.heap.size W W') : PS w W' B g sv bs a err v n out :=
  ⟨h.cur.only (Only.of_below hb Nob) (fun _ _ h => h), own_only h.row (Only.of_below hb Nob) (fun _ _ h => h), h.keep.trans (Only.of_below hb _)⟩
theorem PS.step (h : PS w W B g sv bs a err v n out) (hg : g < w.heap.size) (hC : CursorAt W' B g sv bs a' err') (hO : Only (fun k => k = g) W W') : PS w W' B g sv bs a' err' v n out :=
  ⟨hC, own_only h.row hO (fun k hk e => by have := (own_whole h.row hk).1; omega), h.keep.trans hO⟩
theorem PS.grown (h : PS w W B g sv bs a err v n out) (hg : g < w.heap.size) (r : Raw) {v' : Value} (hg2 : W.grownBy W' v.ownBlock) (ho : W'.ownsRow w.heap.size 47 5 v' (n + 1) (rv out ++ rv [r])) : PS w W' B g sv bs a err v' (n + 1) (out ++ [r]) := by
  have hO : Only (fun k => v.ownBlock = some k) W W' := (Only.refl _ W).grown hg2 (fun k hk _ => hk)
  refine ⟨⟨h.cur.1, h.cur.2.1.only hO (fun e => by have := (own_whole h.row e).1; omega), own_only h.cur.2.2 hO (fun k hk e => own_ne_own h.cur.2.2 h.row (by decide) k hk e)⟩, by rw [rv_app]; exact ho, h.keep.grown hg2 (fun k hk hlt => by have := (own_whole h.row hk).1; omega)⟩
end
/-- What Read gives. -/
def PRead (w : World) (B g : Nat) (sv : Value) (bs : List Nat) (r : Option (List Raw) × Nat × Int) (e : Ending) (w' : World) : Prop :=
  ∃ v, e = .returned v ∧ CursorAt w' B g sv bs r.2.1 r.2.2 ∧ Only (fun k => k = g) w w' ∧ (r.1 = none → v = .slice none 0 0) ∧ ∀ l, r.1 = some l → w'.ownsRow w.heap.size 47 5 v l.length (rv l)

set_option maxHeartbeats 32000000 in
theorem pread_any (B g : Nat) (sv : Value) (bs : List Nat) (w : World) (h : CursorAt w B g sv bs 0 0) (hb : bs.length ≤ 100000) (h256 : ∀ x ∈ bs, x < 256) :
    Calls Try.prog 8 #[.pointer (some ⟨g, 0, none⟩)] w (PRead w B g sv bs (readM bs)) := by
  have hgl : g < w.heap.size := h.2.1.lt
  obtain ⟨ir, hir, hrz0, hrz1, hrz2⟩ := info_parts raw_info
  have ONE := Lib.hid (fun W a (hC : CursorAt W B g sv bs a 0) (ha : a ≤ bs.length) => readC_any B g sv bs a W hC hb ha h256)
  have ERR := Lib.hid (fun W a err (hC : CursorAt W B g sv bs a err) => errC_any B g sv bs a err W hC)
  have FAIL := Lib.hid (fun W a err (hC : CursorAt W B g sv bs a err) => failC_any B g sv bs a err 2 W hC)
  have N0 := Lib.hid (nums_any B g sv bs hb h256 w 0 0 2 (by omega) h (by omega))
  have hlt0 := num_lt bs 0 0 2 h256
  have hpl0 := num_place bs 0 0 2 (by omega)
  have RE := Lib.hid (fun n a0 e0 (hp : num bs 0 0 2 = (n, a0, e0)) out a err (h : rdLoop bs n n [zr0] a0 e0 = (out, a, err)) hgo fin (hf : (if out.length = n then err else failed err 2) = fin) => readM_end bs hp h hgo hf)
  obtain ⟨R, hR⟩ : ∃ R, readM bs = R := ⟨_, rfl⟩
  rw [hR] at RE ⊢
  obtain ⟨p, hp⟩ : ∃ p, num bs 0 0 2 = p := ⟨_, rfl⟩
  rw [hp] at N0 hlt0 hpl0
  obtain ⟨n, a0, e0⟩ := p
  simp only at N0 hlt0 hpl0
  have hn65 : n < 65536 := hlt0
  have RF := Lib.hid (RE.out n a0 e0 hp)
  have wn : IntKind.i64.wrap (n : Int) = (n : Int) := IntWalk.i64_in _ (by omega)
  clear hp hlt0 h RE hR
  go_enter Try.func8, Try.ntmps8
  go_wp2_with fail
  refine N0.out.mono ?_
  rintro e w2 ⟨rfl, hC2, hO2⟩
  have hsz2 := hO2.size
  have OW := own_raw w2 w.heap.size zr0 hsz2
  have HS0 : Hid (PS w (w2.alloc (.cells #[.int .i64 0, .string ⟨#[]⟩, .int .u64 ((0 : Nat) : Int), .int .i64 0, .int .i64 0] 47)) B g sv bs a0 e0 (.slice (some ⟨w2.heap.size, 0, none⟩) 1 1) 1 [zr0]) := Lib.hid ⟨hC2.only (Only.of_below ((Below.refl _ _).alloc (Nat.le_refl _) _) Nob) (fun _ _ h => h), OW, hO2.trans (Only.of_below ((Below.refl _ _).alloc (Nat.le_refl _) _) _)⟩
  clear OW hC2 hO2 hsz2 N0
  go_wp2_with fail
  go_loopg [4] n (fun j v4 wr => ∃ (out : List Raw) (a : Nat) (err : Int) (N : Nat), out.length = N ∧ PS w wr B g sv bs a err v4 N out ∧ rdLoop bs n n [zr0] a0 e0 = rdLoop bs n j out a err ∧ n ≤ N + j ∧ N ≤ n + 1 ∧ a ≤ bs.length)
  case atStart => exact ⟨[zr0], a0, e0, 1, rfl, (by simpa using HS0.out), rfl, by omega, by omega, hpl0⟩
  case round =>
    obtain ⟨out, a, err, N, hN, hS, hL, hf, hN1, ha⟩ := hrel
    obtain ⟨wo, rfl⟩ : ∃ W, W = wr := ⟨_, rfl⟩
    obtain ⟨A4, c4, rfl, -⟩ := own_form hS.row
    have HS := Lib.hid hS
    have HL := Lib.hid hL
    have HN := Lib.hid hN
    have E1 := Lib.hid (ERR.out wo a err hS.cur)
    clear hS hL hN
    by_cases hgo : N < n ∧ err = 0
    rotate_left
    · have hL2 : rdLoop bs n n [zr0] a0 e0 = (out, a, err) := by
        rw [HL.out]
        cases gk with
        | zero => rfl
        | succ f => rw [rdLoop, if_neg (by rw [HN.out]; exact hgo)]
      obtain ⟨fin, hfin⟩ : ∃ f, (if N = n then err else failed err 2) = f := ⟨_, rfl⟩
      have HRR := Lib.hid (RF.out out a err hL2 (by rw [HN.out]; exact hgo) fin (by rw [HN.out]; exact hfin))
      clear hL2
      by_cases he : err = 0
      · have q1 : (err == 0) = true := by rw [he]; rfl
        have q1' : (err != 0) = false := by rw [he]; rfl
        have hNge : n ≤ N := Nat.le_of_not_lt fun hl => hgo ⟨hl, he⟩
        have q0 : decide ((N : Int) < (n : Int)) = false := by rw [decide_eq_false_iff_not]; omega
        have q0' : decide (N < n) = false := by rw [decide_eq_false_iff_not]; omega
        have HH := Lib.hid he
        by_cases hNn : N = n
        · have HFI : Hid (fin = 0) := Lib.hid (by rw [← hfin, if_pos hNn, he])
          have q3 : ((N : Int) == (n : Int)) = true := by rw [hNn]; exact beq_self_eq_true _
          have q4 : ((N : Int) != (n : Int)) = false := by rw [bne, q3]; rfl
          have q5 : (N == n) = true := by rw [hNn]; exact beq_self_eq_true _
          have q6 : (N != n) = false := by rw [bne, q5]; rfl
          have HNN := Lib.hid hNn
          clear hgo he hNn hfin hNge
          go_wp2_with (first | (go_at_call 11; refine E1.out.mono ?_; rintro e w5 ⟨rfl, rfl⟩))
          go_ret
          rw [HRR.out, HFI.out, if_pos rfl]
          refine ⟨_, rfl, by rw [← HH.out]; exact HS.out.cur, HS.out.keep, fun h => (by cases h), fun l h => ?_⟩
          cases h
          rw [HN.out]
          exact HS.out.row
        · have hfin2 : failed err 2 = fin := by rw [← hfin, if_neg hNn]
          have HFI := Lib.hid hfin2
          have q3 : ((N : Int) == (n : Int)) = false := by rw [beq_eq_false_iff_ne]; omega
          have q4 : ((N : Int) != (n : Int)) = true := by rw [bne, q3]; rfl
          have q5 : (N == n) = false := by rw [beq_eq_false_iff_ne]; exact hNn
          have q6 : (N != n) = true := by rw [bne, q5]; rfl
          have HNN := Lib.hid hNn
          have hf2 : fin = 2 := by rw [← hfin2, he]; rfl
          clear he hNn hfin hNge hfin2
          have hne2 : (fin != 0) = true := by rw [hf2]; rfl
          have F1 := Lib.hid (FAIL.out wo a err HS.out.cur)
          have HF2 := Lib.hid hf2
          clear hgo hf2
          go_wp2_with (first | (go_at_call 11; refine E1.out.mono ?_; rintro e w5 ⟨rfl, rfl⟩))
          refine F1.out.mono ?_
          rintro e w6 ⟨rfl, hC6, hO6⟩
          have S6 := Lib.hid (HS.out.step hgl hC6 hO6)
          have E2 := Lib.hid (ERR.out w6 a _ S6.out.cur)
          rw [show failed err 2 = fin from HFI.out] at E2 S6
          clear hC6 hO6
          go_wp2_with (first | (go_at_call 11; refine E2.out.mono ?_; rintro e w7 ⟨rfl, rfl⟩))
          go_ret
          rw [HRR.out, if_neg (by simpa using hne2)]
          exact ⟨_, rfl, S6.out.cur, S6.out.keep, fun _ => rfl, fun l h => (by cases h)⟩
      · have q1 : (err == 0) = false := by rw [beq_eq_false_iff_ne]; exact he
        have q1' : (err != 0) = true := by rw [bne, q1]; rfl
        have HH := Lib.hid he
        by_cases hNn : N = n
        · have HFI : Hid (fin = err) := Lib.hid (by rw [← hfin, if_pos hNn])
          have q3 : ((N : Int) == (n : Int)) = true := by rw [hNn]; exact beq_self_eq_true _
          have q4 : ((N : Int) != (n : Int)) = false := by rw [bne, q3]; rfl
          have q5 : (N == n) = true := by rw [hNn]; exact beq_self_eq_true _
          have q6 : (N != n) = false := by rw [bne, q5]; rfl
          have HNN := Lib.hid hNn
          clear hgo he hNn hfin
          go_wp2_with (first | (go_at_call 11; refine E1.out.mono ?_; rintro e w5 ⟨rfl, rfl⟩))
          go_ret
          rw [HRR.out, HFI.out, if_neg HH.out]
          exact ⟨_, rfl, HS.out.cur, HS.out.keep, fun _ => rfl, fun l h => (by cases h)⟩
        · have hfin2 : failed err 2 = fin := by rw [← hfin, if_neg hNn]
          have HFI := Lib.hid hfin2
          have q3 : ((N : Int) == (n : Int)) = false := by rw [beq_eq_false_iff_ne]; omega
          have q4 : ((N : Int) != (n : Int)) = true := by rw [bne, q3]; rfl
          have q5 : (N == n) = false := by rw [beq_eq_false_iff_ne]; exact hNn
          have q6 : (N != n) = true := by rw [bne, q5]; rfl
          have HNN := Lib.hid hNn
          have hf2 : fin = err := by rw [← hfin2]; unfold failed; rw [if_neg he]
          clear he hNn hfin hfin2
          have hne2 : (fin != 0) = true := by rw [hf2]; exact q1'
          have F1 := Lib.hid (FAIL.out wo a err HS.out.cur)
          have HF2 := Lib.hid hf2
          clear hgo hf2
          go_wp2_with (first | (go_at_call 11; refine E1.out.mono ?_; rintro e w5 ⟨rfl, rfl⟩))
          refine F1.out.mono ?_
          rintro e w6 ⟨rfl, hC6, hO6⟩
          have S6 := Lib.hid (HS.out.step hgl hC6 hO6)
          have E2 := Lib.hid (ERR.out w6 a _ S6.out.cur)
          rw [show failed err 2 = fin from HFI.out] at E2 S6
          clear hC6 hO6
          go_wp2_with (first | (go_at_call 11; refine E2.out.mono ?_; rintro e w7 ⟨rfl, rfl⟩))
          go_ret
          rw [HRR.out, if_neg (by simpa using hne2)]
          exact ⟨_, rfl, S6.out.cur, S6.out.keep, fun _ => rfl, fun l h => (by cases h)⟩
    · obtain ⟨hlt, rfl⟩ := hgo
      obtain ⟨f, rfl⟩ : ∃ f, gk = f + 1 := ⟨gk - 1, by omega⟩
      have q0 : decide ((N : Int) < (n : Int)) = true := by rw [decide_eq_true_iff]; omega
      have q0' : decide (N < n) = true := by rw [decide_eq_true_iff]; omega
      have hL2 := HL.out
      rw [rdLoop, if_pos ⟨by rw [HN.out]; exact hlt, rfl⟩] at hL2
      have RC1 := Lib.hid (ONE.out wo a HS.out.cur ha)
      have HOP : Hid ((oneM bs a).2.1 ≤ bs.length) := Lib.hid (oneM_place bs a ha)
      obtain ⟨O, hO⟩ : ∃ O, oneM bs a = O := ⟨_, rfl⟩
      rw [hO] at hL2 RC1 HOP
      have HL2 := Lib.hid hL2
      clear hL2 hO
      go_wp2_with (first | (go_at_call 11; refine E1.out.mono ?_; rintro e w5 ⟨rfl, rfl⟩))
      refine RC1.out.mono ?_
      obtain ⟨⟨tg, tt, bi, ra, rb⟩, a2, e2⟩ := O
      rintro e w6 ⟨he, hC6, hO6⟩
      simp only at hC6 HL2 HOP
      replace he : e = .returned (.agg #[.int .i64 tg, .string tt, .int .u64 bi, .int .i64 ra, .int .i64 rb]) := he
      subst he
      have S6 := Lib.hid (HS.out.step hgl hC6 hO6)
      clear hC6 hO6
      obtain ⟨w7, hw7'⟩ : ∃ W, (w6.alloc (.cells #[.int .i64 0, .string ⟨#[]⟩, .int .u64 0, .int .i64 0, .int .i64 0] 47)).setRow w6.heap.size (rawA ⟨tg, tt, bi, ra, rb⟩) = W := ⟨_, rfl⟩
      have hw7 : w6.alloc (.cells (rawA ⟨tg, tt, bi, ra, rb⟩) 47) = w7 := by rw [← hw7']; exact (World.setRow_alloc_new w6 _ _ _).symm
      have Z6 := Lib.hid (Whole.new w6 47 #[.int .i64 0, .string ⟨#[]⟩, .int .u64 0, .int .i64 0, .int .i64 0])
      obtain ⟨Q, hQ⟩ : ∃ Q, w6.heap.size = Q := ⟨_, rfl⟩
      rw [hQ] at Z6 hw7'
      have B7 : Below w6.heap.size w6 w7 := hw7 ▸ (Below.refl _ _).alloc (Nat.le_refl _) _
      have S7 := Lib.hid (S6.out.below B7)
      have P7 : Hid (Whole w7 Q 47 (rawA ⟨tg, tt, bi, ra, rb⟩)) := Lib.hid (hw7 ▸ hQ ▸ Whole.new w6 47 _)
      have HQN : Hid (Q ≠ g ∧ (Value.slice A4 N c4).ownBlock ≠ some Q) := Lib.hid ⟨by have := S6.out.cur.2.1.lt; omega, fun e => by
        obtain ⟨_, cs, hw⟩ := own_whole S6.out.row e
        have := hw.lt; omega⟩
      clear B7 hw7
      have BB : Below w7.heap.size w7 (w7.alloc (.cells #[.int .i64 tg, .string tt, .int .u64 bi, .int .i64 ra, .int .i64 rb] 47)) := (Below.refl w7.heap.size w7).alloc (Nat.le_refl _) _
      have S8 := Lib.hid (S7.out.below BB)
      have P8 := Lib.hid (P7.out.bel BB)
      have NW : Hid (Seen (w7.alloc (.cells #[.int .i64 tg, .string tt, .int .u64 bi, .int .i64 ra, .int .i64 rb] 47)) (w7.heap.size + 1) 5 (some ⟨w7.heap.size, 0, none⟩) 1 1 (rv [⟨tg, tt, bi, ra, rb⟩])) := Lib.hid (seen_raw w7 ⟨tg, tt, bi, ra, rb⟩)
      have r1 := (rN2 hlt hn65).2.2.1
      have r2 := (rN2 hlt hn65).2.2.2
      have r3 : w.heap.size ≤ (w7.alloc (.cells #[.int .i64 tg, .string tt, .int .u64 bi, .int .i64 ra, .int .i64 rb] 47)).heap.size := S8.out.keep.size
      clear BB
      have WD := Lib.hid (fun W => wide_any tg W)
      go_upto_region 5 with (refine wpList_store_row rfl 47 (.tmp 5) (.tmp 21) rfl Q (rawA ⟨tg, tt, bi, ra, rb⟩) rfl rfl 47 (rawA zr0) Z6.out rfl rfl (raw_one _) ?_)
      rw [hw7']
      clear hw7'
      have d0 : w7.cell? ⟨Q, 0, none⟩ = some (.int .i64 tg) := P7.out.cell 0
      have d1 : w7.cell? ⟨Q, 1, none⟩ = some (.string tt) := P7.out.cell 1
      have d2 : w7.cell? ⟨Q, 2, none⟩ = some (.int .u64 bi) := P7.out.cell 2
      have d3 : w7.cell? ⟨Q, 3, none⟩ = some (.int .i64 ra) := P7.out.cell 3
      have d4 : w7.cell? ⟨Q, 4, none⟩ = some (.int .i64 rb) := P7.out.cell 4
      go_wp2_with (at_builtin; refine wpList_append_seen _ rfl (.tmp 22) (.tmp 24) _ rfl w.heap.size 47 ir _ 5 48 Try.underlying30 hir hrz0 hrz1 hrz2 rfl (by omega) (.slice A4 N c4) N (rv out) rfl S8.out.row (w7.heap.size + 1) (some ⟨w7.heap.size, 0, none⟩) 1 1 (rv [⟨tg, tt, bi, ra, rb⟩]) rfl NW.out (rv_one _) r1 r2 r3 ?_; intro v9 w9 ho9 hg9 hv9; have S9 := Lib.hid (S8.out.grown hgl ⟨tg, tt, bi, ra, rb⟩ hg9 ho9); have P9 := Lib.hid (P8.out.grown hg9 (fun e => HQN.out.2 e.symm)); have x0 : w9.cell? ⟨Q, 0, none⟩ = some (.int .i64 tg) := P9.out.cell 0; clear ho9 hg9 hv9)
      refine (WD.out _).mono ?_
      rintro e w10 ⟨rfl, rfl⟩
      have hfw := form_wide tg
      clear d0 d1 d2 d3 d4 x0
      by_cases hf56 : formM tg = 56
      · rw [decide_eq_true hf56] at hfw
        have hnx := HL2.out
        rw [if_pos hf56] at hnx
        have HNX := Lib.hid hnx
        have BB : Below w9.heap.size w9 (w9.alloc (.cells #[.int .i64 0, .string ⟨#[]⟩, .int .u64 0, .int .i64 0, .int .i64 0] 47)) := (Below.refl w9.heap.size w9).alloc (Nat.le_refl _) _
        have S10 := Lib.hid (S9.out.below BB)
        have NW2 : Hid (Seen (w9.alloc (.cells #[.int .i64 0, .string ⟨#[]⟩, .int .u64 0, .int .i64 0, .int .i64 0] 47)) (w9.heap.size + 1) 5 (some ⟨w9.heap.size, 0, none⟩) 1 1 (rv [zr0])) := Lib.hid (seen_raw w9 zr0)
        have r4 := (rN2 hlt hn65).1
        have r5 := (rN2 hlt hn65).2.1
        have r6 : w.heap.size ≤ (w9.alloc (.cells #[.int .i64 0, .string ⟨#[]⟩, .int .u64 0, .int .i64 0, .int .i64 0] 47)).heap.size := S10.out.keep.size
        clear BB hf56 hnx
        go_wp2_with (at_builtin; refine wpList_append_seen _ rfl (.tmp 29) (.tmp 31) _ rfl w.heap.size 47 ir _ 5 48 Try.underlying30 hir hrz0 hrz1 hrz2 rfl (by omega) v9 (N + 1) (rv (out ++ [⟨tg, tt, bi, ra, rb⟩])) rfl S10.out.row (w9.heap.size + 1) (some ⟨w9.heap.size, 0, none⟩) 1 1 (rv [zr0]) rfl NW2.out (rv_one _) r4 r5 r6 ?_; intro v11 w11 ho11 hg11 hv11; have S11 := Lib.hid (S10.out.grown hgl zr0 hg11 ho11); clear ho11 hg11 hv11)
        go_roundg f
        case measure => omega
        case rel =>
          have z1 : (out ++ [(⟨tg, tt, bi, ra, rb⟩ : Raw)] ++ [zr0]).length = N + 1 + 1 := by rw [List.length_append, List.length_append, HN.out]; rfl
          have z2 : out ++ (⟨tg, tt, bi, ra, rb⟩ : Raw) :: [zr0] = out ++ [(⟨tg, tt, bi, ra, rb⟩ : Raw)] ++ [zr0] := by rw [List.append_assoc]; rfl
          have z3 := HNX.out
          rw [z2] at z3
          exact ⟨out ++ [⟨tg, tt, bi, ra, rb⟩] ++ [zr0], a2, e2, N + 1 + 1, z1, S11.out, z3, by omega, by omega, HOP.out⟩
      · rw [decide_eq_false hf56] at hfw
        have hnx := HL2.out
        rw [if_neg hf56] at hnx
        have HNX := Lib.hid hnx
        clear hf56 hnx
        go_wp2_with fail
        go_roundg f
        case measure => omega
        case rel =>
          have z1 : (out ++ [(⟨tg, tt, bi, ra, rb⟩ : Raw)]).length = N + 1 := by rw [List.length_append, HN.out]; rfl
          exact ⟨out ++ [⟨tg, tt, bi, ra, rb⟩], a2, e2, N + 1, z1, S9.out, HNX.out, by omega, by omega, HOP.out⟩
end Go.Proofs.Ytmojclbejmnikaa
