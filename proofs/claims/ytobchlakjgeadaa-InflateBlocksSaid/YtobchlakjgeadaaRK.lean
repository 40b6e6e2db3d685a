/-
  The document's dynamic block: both codes' lengths. Conditions: its state stands as told (RSt), its things are where they should be (Rx.Good).
-/
import Derived.Test.YtobchlakjgeadaaRI
import Derived.Test.YtobchlakjgeadaaRJ
import Derived.Test.YtobchlakjgeadaaU1
namespace Go.Proofs.Ytobchlakjgeadaa
open Go.RowKit
set_option maxRecDepth 100000

/-- get, with an error or without. -/
theorem rget_all {c : Rx} (hg : c.Good) (ov : Value) (a : Nat) (o : List Nat) (e n : Nat) (hn : n ≤ 16) (w : World) (h : RSt c w ov a o e) :
    Calls Try.prog 22 #[.pointer (some ⟨c.gs, 0, none⟩), .int .i64 n] w fun r w' => ∃ v er a' : Nat, r = .returned (.int .i64 v) ∧ RSt c w' ov a' o er ∧ Fq c.B0 w w' ∧ v < 2 ^ n ∧
      ((e = 0 ∧ er = 0 ∧ bitsAt c.L a n = .ok v ∧ a' = a + n) ∨ (e = 0 ∧ er = 6 ∧ bitsAt c.L a n = .er 6) ∨ (e ≠ 0 ∧ er = e)) := by
  by_cases he : e = 0
  · subst he
    refine (rget_any hg ov a o n hn w h).mono ?_
    rintro r w' ⟨v, er, a', rfl, hs, hf, hc⟩
    rcases hc with ⟨h1, h2, h3, h4⟩ | ⟨h1, h2, h3⟩
    · exact ⟨v, er, a', rfl, hs, hf, h3, .inl ⟨rfl, h1, h2, h4⟩⟩
    · exact ⟨v, er, a', rfl, hs, hf, by rw [h2]; exact Nat.two_pow_pos n, .inr (.inl ⟨rfl, h1, h3⟩)⟩
  · refine (rget_no ov a o e n he w h).mono ?_
    rintro r w' ⟨rfl, rfl⟩
    exact ⟨0, e, a, rfl, h, Fq.refl _ _, Nat.two_pow_pos n, .inr (.inr ⟨he, rfl⟩)⟩

/-- Within: k lengths of lengths have been asked for; E6 is what an error says. -/
def RDIn2 (c : Rx) (a : Nat) (o : List Nat) (ov : Value) (w : World) (E6 : Prop) (v : Value) (k e : Nat) (wr : World) : Prop :=
  (∃ l : List Int, l.length = 19 ∧ wr.ownsRow w.heap.size 3 1 v 19 (iv l) ∧ (e = 0 → l = llF c.L a k)) ∧ Fq c.B0 w wr ∧ (∃ b, RSt c wr ov b o e ∧ (e = 0 → b = a + 3 * k)) ∧ (e = 0 ∨ (e = 6 ∧ E6))

set_option maxHeartbeats 4000000 in
theorem rdynamic_any {c : Rx} (hg : c.Good) (ov : Value) (a : Nat) (o : List Nat) (w : World) (h : RSt c w ov a o 0) :
    Calls Try.prog 26 #[.pointer (some ⟨c.gs, 0, none⟩)] w (RDyn c a o ov w) := by
  obtain ⟨i0, hi0, hz0, hz1, hz2⟩ := info_parts int_info
  have HI0 := Lib.hid hi0; clear hi0
  have HZ0 := Lib.hid hz0; clear hz0
  have H := Lib.hid h; clear h
  go_enter Try.func26, Try.ntmps26
  go_wp2_with fail
  refine (rget_all hg ov a o 0 5 (by omega) _ H.out).mono ?_
  rintro r w1 ⟨v1, e1, a1, rfl, hs1, hf1, hv1, hc1⟩
  have S1 := Lib.hid hs1; have F1 := Lib.hid hf1; have C1 := Lib.hid hc1
  have l1 : v1 < 32 := hv1
  clear hs1 hf1 hc1 hv1
  obtain ⟨ns, hns⟩ : ∃ t, v1 + 257 = t := ⟨_, rfl⟩
  have wns : (v1 : Int) + 257 = ns := by omega
  go_wp2_with fail
  refine (rget_all hg ov a1 o e1 5 (by omega) _ S1.out).mono ?_
  rintro r w2 ⟨v2, e2, a2, rfl, hs2, hf2, hv2, hc2⟩
  have S2 := Lib.hid hs2; have F2 := Lib.hid (F1.out.trans hf2); have C2 := Lib.hid hc2
  have l2 : v2 < 32 := hv2
  clear hs2 hf2 hc2 hv2
  obtain ⟨nd, hnd⟩ : ∃ t, v2 + 1 = t := ⟨_, rfl⟩
  have wnd : (v2 : Int) + 1 = nd := by omega
  go_wp2_with fail
  refine (rget_all hg ov a2 o e2 4 (by omega) _ S2.out).mono ?_
  rintro r w3 ⟨v3, e3, a3, rfl, hs3, hf3, hv3, hc3⟩
  have S3 := Lib.hid hs3; have F3 := Lib.hid (F2.out.trans hf3); have C3 := Lib.hid hc3
  have l3 : v3 < 16 := hv3
  clear hs3 hf3 hc3 hv3
  obtain ⟨nl, hnl⟩ : ∃ t, v3 + 4 = t := ⟨_, rfl⟩
  have wnl : (v3 : Int) + 4 = nl := by omega
  have hA : (e3 = 0 ∧ a3 = a + 14 ∧ ∃ v, bitsAt c.L a 14 = .ok v ∧ v % 32 + 257 = ns ∧ v / 32 % 32 + 1 = nd ∧ v / 1024 + 4 = nl) ∨ (e3 = 6 ∧ ∀ most p, dynR c.L most a p = .er 6) := by
    rcases C1.out with ⟨_, rfl, b1, rfl⟩ | ⟨_, rfl, b1⟩ | ⟨h, _⟩
    · rcases C2.out with ⟨_, rfl, b2, rfl⟩ | ⟨_, rfl, b2⟩ | ⟨h, _⟩
      · rcases C3.out with ⟨_, rfl, b3, rfl⟩ | ⟨_, rfl, b3⟩ | ⟨h, _⟩
        · obtain ⟨v, k1, k2, k3, k4⟩ := bits_three b1 b2 b3 l1 l2
          exact .inl ⟨rfl, by omega, v, k1, by omega, by omega, by omega⟩
        · exact .inr ⟨rfl, fun most p => dyn_er (bits_three_er3 b3)⟩
        · exact absurd rfl h
      · rcases C3.out with ⟨h, _⟩ | ⟨h, _⟩ | ⟨_, rfl⟩
        · omega
        · omega
        · exact .inr ⟨rfl, fun most p => dyn_er (bits_three_er2 b2)⟩
      · exact absurd rfl h
    · rcases C2.out with ⟨h, _⟩ | ⟨h, _⟩ | ⟨_, rfl⟩
      · omega
      · omega
      · rcases C3.out with ⟨h, _⟩ | ⟨h, _⟩ | ⟨_, rfl⟩
        · omega
        · omega
        · exact .inr ⟨rfl, fun most p => dyn_er (bits_three_er1 b1)⟩
    · exact absurd rfl h
  have HA := Lib.hid hA; clear hA C1 C2 C3
  have hns1 : 257 ≤ ns ∧ ns ≤ 288 := by omega
  have hnd1 : 1 ≤ nd ∧ nd ≤ 32 := by omega
  have hnl1 : 4 ≤ nl ∧ nl ≤ 19 := by omega
  clear hns hnd hnl
  by_cases hmany : 286 < ns ∨ 30 < nd
  · have CF := Lib.hid (rfail_any hg ov a3 o e3 4 w3 S3.out)
    have hEnd : ∀ w4, RSt c w4 ov a3 o (if e3 = 0 then 4 else e3) → Fq c.B0 w3 w4 → RDyn c a o ov w (.returned (.tuple #[.slice none 0 0, .slice none 0 0])) w4 := by
      intro w4 hs4 hf4
      refine ⟨_, _, rfl, F3.out.trans hf4, .inr ?_⟩
      rcases HA.out with ⟨rfl, _, v, b, k1, k2, _⟩ | ⟨rfl, k⟩
      · exact ⟨4, a3, by omega, by omega, fun most p => dyn_many b k1 k2 hmany, hs4⟩
      · exact ⟨6, a3, by omega, by omega, k, hs4⟩
    have HEnd := Lib.hid hEnd; clear hEnd
    by_cases hm1 : 286 < ns
    · clear hmany
      have d1 : decide (286 < (ns : Int)) = true := decide_eq_true (by omega)
      go_wp2_with fail
      refine CF.out.mono ?_
      rintro r w4 ⟨rfl, hs4, hf4⟩
      have HE := Lib.hid (HEnd.out w4 hs4 hf4)
      clear hs4 hf4
      go_wp2_with fail
      go_ret2
      exact HE.out
    · have hm2 : 30 < nd := hmany.resolve_left hm1
      clear hmany
      have d1 : decide (286 < (ns : Int)) = false := decide_eq_false (by omega)
      have d2 : decide (30 < (nd : Int)) = true := decide_eq_true (by omega)
      go_wp2_with fail
      refine CF.out.mono ?_
      rintro r w4 ⟨rfl, hs4, hf4⟩
      have HE := Lib.hid (HEnd.out w4 hs4 hf4)
      clear hs4 hf4
      go_wp2_with fail
      go_ret2
      exact HE.out
  · have d1 : decide (286 < (ns : Int)) = false := decide_eq_false (by omega)
    have d2 : decide (30 < (nd : Int)) = false := decide_eq_false (by omega)
    have HM := Lib.hid hmany; clear hmany
    have sz3 : w.heap.size ≤ w3.heap.size := F3.out.size
    go_wp2_with (refine wpList_make_full _ rfl (.const (.int .i64 19)) (.const (.int .i64 19)) 30 rfl w.heap.size 3 i0 _ 1 Try.underlying30 HI0.out HZ0.out hz1 .i64 .i64 19 19 19 rfl rfl rfl rfl (by rw [hz2]; omega) (by simp only [maxLen]; omega) sz3 ?_; intro w4 hown4 hg4)
    have hB4 : Below w3.heap.size w3 w4 := ⟨hg4.os, hg4.tape, hg4.output, hg4.size, fun k hk => hg4.block k hk (by simp)⟩
    have hmk : (madeCells (Value.cells (.int .i64 0)) (19 * 1)).toList = iv (llF c.L (a + 14) 0) := by kernel_rfl
    rw [hmk] at hown4
    obtain ⟨gl, hgl⟩ : ∃ gl, w3.heap.size = gl := ⟨_, rfl⟩
    rw [hgl] at hown4
    have HE6 : Hid (e3 = 0 → c.L.length < a + 14 + 3 * nl → ∀ most p, dynR c.L most a p = .er 6) := Lib.hid (fun h0 hl most p => by
      rcases HA.out with ⟨_, _, v, b, k1, k2, k3⟩ | ⟨h, _⟩
      · exact dyn_end b k1 k2 k3 HM.out hl
      · omega)
    have H0 : Hid (RDIn2 c (a + 14) o ov w (∀ most p, dynR c.L most a p = .er 6) (.slice (some ⟨gl, 0, none⟩) 19 19) 0 e3 w4) := Lib.hid (by
      refine ⟨⟨llF c.L (a + 14) 0, by simp, hown4, fun _ => rfl⟩, F3.out.trans (Fq.of_below hB4 _), ⟨a3, S3.out.below hB4, fun h0 => ?_⟩, ?_⟩
      · rcases HA.out with ⟨_, h, _⟩ | ⟨h, _⟩
        · omega
        · omega
      · rcases HA.out with ⟨h, _⟩ | ⟨h, k⟩
        · exact .inl h
        · exact .inr ⟨h, k⟩)
    clear hown4 hg4 hB4 hmk
    try rw [hgl]
    clear hgl
    go_wp2_with fail
    go_loopw [8] (fun i wr => ∃ k e : Nat, k ≤ nl ∧ i = .int .i64 k ∧ (e3 ≠ 0 → e ≠ 0) ∧ RDIn2 c (a + 14) o ov w (∀ most p, dynR c.L most a p = .er 6) (.slice (some ⟨gl, 0, none⟩) 19 19) k e wr) (fun i _ => nl - (intOf i).toNat)
    case atStart => exact ⟨0, e3, by omega, rfl, fun h => h, H0.out⟩
    case round =>
      obtain ⟨k, e, hk, rfl, he3, hin⟩ := hrel
      by_cases hlt : k < nl
      · have dk : decide (k < nl) = true := decide_eq_true hlt
        obtain ⟨⟨l, hll, hown, hlF⟩, hf5, ⟨b, hs5, hbF⟩, hee⟩ := hin
        have hk19 : k < 19 := by omega
        obtain ⟨j, hj⟩ : ∃ j, ordL.getD k 0 = j := ⟨_, rfl⟩
        have hj19 : j < 19 := by rw [← hj]; exact ordL_lt k hk19
        have hoj : ordI k = (j : Nat) := by unfold ordI; rw [hj]
        have OC : Hid (∀ (W : World) (g : Nat), Whole W g 3 (iv ordZ).toArray → W.cell? ⟨g, k, none⟩ = some (.int .i64 (j : Nat))) := Lib.hid (fun W g hW => by
          rw [hW.cell k, ← hoj]
          simpa using ordZ_get k hk19)
        have S5 := Lib.hid hs5; have F5 := Lib.hid hf5; have O5 := Lib.hid hown
        have HL := Lib.hid hll; have HLF := Lib.hid hlF; have HBF := Lib.hid hbF; have HEE := Lib.hid hee; have HJ := Lib.hid hj
        clear hs5 hf5 hown hll hlF hbF hee hj hoj
        have k00 : (0 : Int) ≤ k := by omega
        have k01 : (k : Int) < 19 := by omega
        have j00 : (0 : Int) ≤ j := by omega
        have j01 : (j : Int) < 19 := by omega
        go_wp2_with fail
        refine wp_region_heldTail (S := (fun _ => True)) 7 2 (by kernel_rfl) (by rfl) trivial (fun hHeld => ?_)
        refine wpAnyT_take (i := 0) (oi := ⟨some 35, _, _, _, _, _⟩) (v := ?v0) rfl (by kernel_rfl) (by kernel_rfl) (by kernel_rfl) (by kernel_rfl) (fun _ _ _ h => h) (Or.inl ⟨by rfl, ?hy0⟩) (by assumption) ?rest0
        case hy0 => intro W hSW; go_simp; try rfl
        try simp only [Act.put, List.setIfInBounds_toArray, List.set_cons_zero, List.set_cons_succ]
        refine wpAnyT_take (i := 2) (oi := ⟨some 37, _, _, _, _, _⟩) (v := ?v2) rfl (by kernel_rfl) (by kernel_rfl) (by kernel_rfl) (by kernel_rfl) (fun _ _ _ h => h) (Or.inl ⟨by rfl, ?hy2⟩) (by assumption) ?rest2
        case hy2 => intro W hSW; go_simp; try rfl
        try simp only [Act.put, List.setIfInBounds_toArray, List.set_cons_zero, List.set_cons_succ]
        refine wpAnyT_take (i := 5) (oi := ⟨some 40, _, _, _, _, _⟩) (v := ?v5) rfl (by kernel_rfl) (by kernel_rfl) (by kernel_rfl) (by kernel_rfl) (fun _ _ _ h => h) (Or.inl ⟨by rfl, ?hy5⟩) (by assumption) ?rest5
        case hy5 => intro W hSW; go_simp; try rfl
        try simp only [Act.put, List.setIfInBounds_toArray, List.set_cons_zero, List.set_cons_succ]
        refine wpAnyT_run (i := 1) (o := ⟨some 36, _, _, _, _, _⟩) (by kernel_rfl) rfl (fun K hK => ?_)
        go_simp
        refine (refOrder_any _).mono ?_
        rintro r w5 ⟨g, rfl, hW5, _, hb5⟩
        have WO := Lib.hid hW5; have B5 : Hid (Below wr.heap.size wr w5) := Lib.hid ⟨hb5.os, hb5.tape, hb5.output, hb5.size, hb5.block⟩; clear hW5 hb5
        refine hK.out _ _ ?_ (fun hHeld2 => ?_)
        · exact trivial
        clear hK K hHeld
        have hHeld := hHeld2; clear hHeld2
        try simp only [Act.put, List.setIfInBounds_toArray, List.set_cons_zero, List.set_cons_succ]
        refine wpAnyT_more (S' := fun W => Whole W g 3 (iv ordZ).toArray) (fun _ _ => trivial) _ _ _ _ ?_
        clear hHeld
        have hHeld : Whole w5 g 3 (iv ordZ).toArray := WO.out
        refine wpAnyT_take (i := 3) (oi := ⟨some 38, _, _, _, _, _⟩) (v := ?v3) rfl (by kernel_rfl) (by kernel_rfl) (by kernel_rfl) (by kernel_rfl) (fun _ _ _ h => h) (Or.inl ⟨by rfl, ?hy3⟩) (by assumption) ?rest3
        case hy3 => intro W hSW; go_simp; try rfl
        try simp only [Act.put, List.setIfInBounds_toArray, List.set_cons_zero, List.set_cons_succ]
        refine wpAnyT_take (i := 4) (oi := ⟨some 39, _, _, _, _, _⟩) (v := ?v4) rfl (by kernel_rfl) (by kernel_rfl) (by kernel_rfl) (by kernel_rfl) (fun _ _ _ h => h) (Or.inl ⟨by rfl, ?hy4⟩) (by assumption) ?rest4
        case hy4 => intro W hSW; have s1 := OC.out W _ hSW; go_simp; try rfl
        try simp only [Act.put, List.setIfInBounds_toArray, List.set_cons_zero, List.set_cons_succ]
        refine wpAnyT_run (i := 6) (o := ⟨some 41, _, _, _, _, _⟩) (by kernel_rfl) rfl (fun K hK => ?_)
        go_simp
        refine (rget_all hg ov b o e 3 (by omega) w5 (S5.out.below B5.out)).mono ?_
        rintro r w6 ⟨v, e6, b6, rfl, hs6, hf6, hv6, hc6⟩
        have S6 := Lib.hid hs6; have F6 := Lib.hid hf6; have C6 := Lib.hid hc6
        have lv6 : v < 8 := hv6
        clear hs6 hf6 hc6 hv6
        refine hK.out _ _ ?_ (fun hHeld2 => ?_)
        · exact (F6.out.whole WO.out (by decide) (by decide) (by decide))
        clear hK K hHeld
        have hHeld := hHeld2; clear hHeld2
        try simp only [Act.put, List.setIfInBounds_toArray, List.set_cons_zero, List.set_cons_succ]
        refine wpAnyT_done (by kernel_rfl) ?_
        simp only [List.drop_succ_cons, List.drop_zero]
        have O6 := Lib.hid (F6.out.own (own_only O5.out (Only.of_below B5.out Nob) (fun _ _ h => h)) (by decide) (by decide) (by decide))
        have F06 := Lib.hid ((F5.out.trans (Fq.of_below B5.out _)).trans F6.out)
        have hjl : j < l.length := by rw [HL.out]; exact hj19
        have cj := own_cell O6.out (iv_get? hjl)
        have cj1 := cj.1
        have cj2 := cj.2.1
        have hglo := cj.2.2
        clear cj
        have N7 : Hid (RDIn2 c (a + 14) o ov w (∀ most p, dynR c.L most a p = .er 6) (.slice (some ⟨gl, 0, none⟩) 19 19) (k + 1) e6 (w6.setCell ⟨gl, j, none⟩ (.int .i64 (v : Nat)))) := Lib.hid (by
          have hp := own_put O6.out j (.int .i64 (v : Nat))
          have hset : (iv l).set j (.int .i64 (v : Nat)) = iv (l.set j (v : Nat)) := by simp [iv, List.map_set]
          rw [hset] at hp
          have hO : Only (fun m => m = gl) w6 (w6.setCell ⟨gl, j, none⟩ (.int .i64 (v : Nat))) := (Only.refl (fun m => m = gl) w6).setCell (p := ⟨gl, j, none⟩) (.inl rfl) _
          have hW : ∃ cs, Whole w6 gl 3 cs := (own_whole O6.out rfl).2
          refine ⟨⟨l.set j (v : Nat), by simpa using HL.out, hp, fun h0 => ?_⟩, F06.out.past ((Below.refl _ _).setCell hglo _), ⟨b6, S6.out.ints hO (fun m hm => by subst hm; exact hW), fun h0 => ?_⟩, ?_⟩
          · rcases C6.out with ⟨h1, _, h2, _⟩ | ⟨_, h1, _⟩ | ⟨h1, h2⟩
            · rw [HLF.out h1, llF, HJ.out]
              rw [HBF.out h1] at h2
              rw [(bits_ok h2).2]
            · omega
            · omega
          · rcases C6.out with ⟨h1, _, _, h2⟩ | ⟨_, h1, _⟩ | ⟨h1, h2⟩
            · rw [h2, HBF.out h1]; omega
            · omega
            · omega
          · rcases C6.out with ⟨_, h1, _⟩ | ⟨h1, h2, h3⟩ | ⟨h1, h2⟩
            · exact .inl h1
            · refine .inr ⟨h2, HE6.out (by rcases Nat.eq_zero_or_pos e3 with h | h; exact h; exact absurd h1 (he3 (by omega))) ?_⟩
              rw [HBF.out h1] at h3
              unfold bitsAt at h3
              split at h3
              · cases h3
              · omega
            · rcases HEE.out with h | ⟨h, k⟩
              · exact absurd h h1
              · exact .inr ⟨by rw [h2]; exact h, k⟩)
        have HE7 : Hid (e3 ≠ 0 → e6 ≠ 0) := Lib.hid (fun h => by
          have := he3 h
          rcases C6.out with ⟨h1, _⟩ | ⟨h1, _⟩ | ⟨_, h2⟩ <;> omega)
        have wv : IntKind.i64.wrap (v : Int) = v := IntWalk.i64_in _ (by omega)
        go_wp2_with fail
        go_roundw
        case rel => exact ⟨k + 1, e6, by omega, by go_num, HE7.out, N7.out⟩
        case measure => simp [intOf]; omega
      · obtain rfl : k = nl := by omega
        have dk : decide (k < k) = false := decide_eq_false (by omega)
        obtain ⟨⟨l, hll, hown, hlF⟩, hf5, ⟨b, hs5, hbF⟩, hee⟩ := hin
        have S5 := Lib.hid hs5; have F5 := Lib.hid hf5
        have q3 := hs5.c3
        have SL := Lib.hid (Seen.of_own hown)
        clear hs5 hf5 hown
        by_cases he0 : e = 0
        · subst he0
          have hl0 := hlF rfl
          subst hl0
          have hb0 := hbF rfl
          subst hb0
          have h30 : e3 = 0 := by
            rcases Nat.eq_zero_or_pos e3 with h | h
            · exact h
            · exact absurd rfl (he3 (by omega))
          obtain ⟨va, hva⟩ : ∃ v, bitsAt c.L a 14 = .ok v ∧ v % 32 + 257 = ns ∧ v / 32 % 32 + 1 = nd ∧ v / 1024 + 4 = k := by
            rcases HA.out with ⟨_, _, h⟩ | ⟨h, _⟩
            · exact h
            · omega
          have HV := Lib.hid hva; clear hva
          have hpl : a + 14 + 3 * k ≤ c.L.length := by have := S5.out.place; simpa using this
          clear hlF hbF hee he3
          obtain ⟨cl, hcl⟩ : ∃ cl, llF c.L (a + 14) k = cl := ⟨_, rfl⟩
          rw [hcl] at SL hll
          have HCL := Lib.hid hcl; clear hcl
          by_cases hkind : kindOf cl = 0
          · have CW := Lib.hid (refWords_bad _ 19 19 wr.heap.size cl hll (by omega) hkind wr SL.out (Nat.le_refl _))
            have HKD := Lib.hid hkind; clear hkind
            go_wp2_with fail
            refine CW.out.mono ?_
            rintro r w6 ⟨rfl, hb6⟩
            have B6 := Lib.hid hb6; clear hb6
            have S6 := Lib.hid (S5.out.below B6.out)
            go_wp2_with fail
            refine (rfail_any hg ov _ o 0 12 w6 S6.out).mono ?_
            rintro r w7 ⟨rfl, hs7, hf7⟩
            rw [if_pos rfl] at hs7
            have S7 := Lib.hid hs7; have F7 := Lib.hid ((F5.out.trans (Fq.of_below B6.out _)).trans hf7)
            clear hs7 hf7
            go_wp2_with fail
            go_ret2
            exact ⟨_, _, rfl, F7.out, .inr ⟨12, _, by omega, by omega, fun most p => dyn_code HV.out.1 HV.out.2.1 HV.out.2.2.1 HV.out.2.2.2 HM.out hpl (by rw [HCL.out]; exact HKD.out), S7.out⟩⟩
          · have CW := Lib.hid (refWords_any _ 19 19 wr.heap.size cl hll (by omega) hkind wr SL.out (Nat.le_refl _))
            have HKD := Lib.hid hkind; clear hkind
            obtain ⟨nn, hnn⟩ : ∃ nn, ns + nd = nn := ⟨_, rfl⟩
            have wnn : (ns : Int) + nd = nn := by omega
            go_wp2_with fail
            refine CW.out.mono ?_
            rintro r w6 ⟨vw, rfl, hw6, hb6⟩
            obtain ⟨Aw, cw, rfl, _⟩ := own_form hw6
            have W6 := Lib.hid hw6
            have B6 := Lib.hid hb6; clear hb6 hw6
            have S6 := Lib.hid (S5.out.below B6.out)
            go_wp2_with fail
            refine (rlengths_any hg ov (a + 14 + 3 * k) o cl hll HKD.out nn (by have := HM.out; omega) Aw cw wr.heap.size w6 W6.out S6.out).mono ?_
            rintro r w7 ⟨v7, rfl, hf7, hc7⟩
            have F7 := Lib.hid ((F5.out.trans (Fq.of_below B6.out _)).trans hf7)
            clear hf7 q3
            rcases hc7 with ⟨a7, l7, hrun, hl7, hown7, hs7⟩ | ⟨er, a7, e0, e1, hrun, ⟨A7, k7, c7, rfl⟩, hs7⟩
            · have HD := Lib.hid (fun most p => dyn_lens (most := most) (o := p) HV.out.1 HV.out.2.1 HV.out.2.2.1 HV.out.2.2.2 HM.out hpl (by rw [HCL.out]; exact HKD.out) (by rw [HCL.out, hnn]; exact hrun))
              have q7 := hs7.c3
              have S7 := Lib.hid hs7
              have hmn := HM.out
              obtain ⟨rr, cap, rfl, hcap, hcapm⟩ := own_pos hown7 (by omega)
              have SX := Lib.hid ((Seen.of_own hown7).cut (q := 0) (n := ns) (by omega))
              have SY := Lib.hid ((Seen.of_own hown7).cut (q := ns) (n := nd) (by omega))
              have ex : ((iv l7).drop 0).take ns = iv (l7.take ns) := by simp [iv, List.map_take]
              have ey : ((iv l7).drop ns).take nd = iv (l7.drop ns) := by
                rw [iv, ← List.map_drop]
                exact List.take_of_length_le (by simp; omega)
              simp only [Option.map_some, Addr.add_lit, Nat.zero_add, Nat.add_zero, Nat.sub_zero] at SX SY
              rw [ex] at SX
              rw [ey] at SY
              have HL7 := Lib.hid hl7
              clear ex ey hrun hown7 hs7 hl7 hmn
              have nsn : (ns : Int) ≤ nn := by omega
              have nsc : (ns : Int) ≤ cap := by omega
              have ns0 : (0 : Int) ≤ ns := by omega
              have nnc : (nn : Int) ≤ cap := by omega
              have ndn : nn - ns = nd := by omega
              have ndn2 : (nn : Int) - ns = nd := by omega
              have hcn : ¬ cap = ns := by omega
              have hcn2 : ¬ (cap : Int) = ns := by omega
              go_wp2_with fail
              go_still (by kernel_rfl)
              go_wp2_with fail
              go_ret2
              refine ⟨_, _, rfl, F7.out.drew, .inl ⟨a7, ns, nd, l7, some ⟨rr, 0, none⟩, some ⟨rr, ns, none⟩, cap, cap - ns, by omega, by have := HM.out; omega, by omega, by have := HM.out; omega, by have := HL7.out; omega, HD.out, rfl, rfl, SX.out, SY.out, S7.out.drew⟩⟩
            · have HD := Lib.hid (fun most p => dyn_lens (most := most) (o := p) HV.out.1 HV.out.2.1 HV.out.2.2.1 HV.out.2.2.2 HM.out hpl (by rw [HCL.out]; exact HKD.out) (by rw [HCL.out, hnn]; exact hrun))
              have q7 := hs7.c3
              have S7 := Lib.hid hs7
              clear hrun hs7
              have z2 : ((er : Int) == 0) = false := by simp; omega
              have z3 : ¬ (er : Int) = 0 := by omega
              have z4 : (er == 0) = false := by simp; omega
              go_wp2_with fail
              go_ret2
              exact ⟨_, _, rfl, F7.out, .inr ⟨er, a7, e0, e1, HD.out, S7.out⟩⟩
        · have hE := hee.resolve_left he0
          obtain ⟨rfl, hE6⟩ := hE
          have HD := Lib.hid hE6
          clear hlF hbF hee he3 hE6
          have CW := Lib.hid (words_ans _ 19 19 wr.heap.size l hll (by omega) wr SL.out (Nat.le_refl _))
          unfold WordsAns at CW
          obtain ⟨kx, hkx⟩ : ∃ kx : Bool, decide (kindOf l ≠ 0) = kx := ⟨_, rfl⟩
          obtain ⟨nx, hnx⟩ : ∃ nx : Nat, (if kindOf l = 0 then 0 else 19) = nx := ⟨_, rfl⟩
          rw [hkx, hnx] at CW
          clear hkx hnx
          obtain ⟨nn, hnn⟩ : ∃ nn, ns + nd = nn := ⟨_, rfl⟩
          have wnn : (ns : Int) + nd = nn := by omega
          go_wp2_with fail
          refine CW.out.mono ?_
          rintro r w6 ⟨vw, rfl, ⟨Aw, cw, rfl⟩, hb6⟩
          have B6 := Lib.hid hb6; clear hb6
          have S6 := Lib.hid (S5.out.below B6.out)
          have q6 := S6.out.c3
          have F6 := Lib.hid (F5.out.trans (Fq.of_below B6.out _))
          clear q3
          cases kx with
          | false =>
            go_wp2_with fail
            refine (rfail_any hg ov _ o 6 12 w6 S6.out).mono ?_
            rintro r w7 ⟨rfl, hs7, hf7⟩
            have S7 := Lib.hid hs7; have F7 := Lib.hid (F6.out.trans hf7)
            clear hs7 hf7
            go_wp2_with fail
            go_ret2
            exact ⟨_, _, rfl, F7.out, .inr ⟨6, _, by omega, by omega, HD.out, S7.out⟩⟩
          | true =>
            go_wp2_with fail
            refine (rlengths_no ov _ o 6 (by omega) _ nn w6 S6.out).mono ?_
            rintro r w7 ⟨rfl, rfl⟩
            go_wp2_with fail
            go_ret2
            exact ⟨_, _, rfl, F6.out, .inr ⟨6, _, by omega, by omega, HD.out, S6.out⟩⟩
end Go.Proofs.Ytobchlakjgeadaa
