/-
  The document's dynamic block. Conditions: each theorem names its own.
  The document's Inflate. Conditions: each theorem names its own.
-/
import Derived.Test.YtkjhefjjacokjaaGreatII
namespace Go.Proofs.YtkjhefjjacokjaaGreat
open Go.RowKit
set_option maxRecDepth 100000
theorem ordM_lt : ∀ i, i < 19 → ordM.getD i 0 < 19 := by decide
/-- What is held may be made stronger on the way. -/
theorem wpAnyT_more {P : Program} {md : Region.Mode} {ops : Array Oper} {Q : Exit → Act → World → Prop} {S S' : World → Prop} {n g : Nat} {T : Act → World → Prop} (hS : ∀ w, S' w → S w) :
    ∀ (fuel : Nat) (listed : Array Bool) (a : Act) (w : World), wpAnyT P md ops Q S' n g T fuel listed a w → wpAnyT P md ops Q S n g T fuel listed a w
  | 0, _, _, _, h => h
  | fuel + 1, _, _, _, h => ⟨h.1, fun i hi => wpOp_mono (fun a' w' h' => ⟨hS _ h'.1, wpAnyT_more hS fuel _ a' w' h'.2⟩) (h.2 i hi)⟩
/-- Three numbers of 5, 5 and 4 bits are one of 14. -/
theorem bits_three {L : List Bool} {a v1 v2 v3 : Nat} (h1 : bitsAt L a 5 = .ok v1) (h2 : bitsAt L (a + 5) 5 = .ok v2) (h3 : bitsAt L (a + 5 + 5) 4 = .ok v3) (l1 : v1 < 32) (l2 : v2 < 32) :
    ∃ v, bitsAt L a 14 = .ok v ∧ v % 32 = v1 ∧ v / 32 % 32 = v2 ∧ v / 1024 = v3 := by
  have e1 := bits_two h1 h2
  have e2 : bitsAt L (a + (5 + 5)) 4 = .ok v3 := by rw [← Nat.add_assoc]; exact h3
  have e3 := bits_two e1 e2
  refine ⟨_, e3, ?_, ?_, ?_⟩
  · show (v1 + 32 * v2 + 1024 * v3) % 32 = v1
    omega
  · show (v1 + 32 * v2 + 1024 * v3) / 32 % 32 = v2
    omega
  · show (v1 + 32 * v2 + 1024 * v3) / 1024 = v3
    omega
theorem bits_three_er1 {L : List Bool} {a : Nat} (h1 : bitsAt L a 5 = .er 6) : bitsAt L a 14 = .er 6 := bits_two_er1 (p := 5) (q := 9) h1
theorem bits_three_er2 {L : List Bool} {a : Nat} (h2 : bitsAt L (a + 5) 5 = .er 6) : bitsAt L a 14 = .er 6 := bits_two_er1 (p := 10) (q := 4) (bits_two_er2 (p := 5) (q := 5) h2)
theorem bits_three_er3 {L : List Bool} {a : Nat} (h3 : bitsAt L (a + 5 + 5) 4 = .er 6) : bitsAt L a 14 = .er 6 := bits_two_er2 (p := 10) (q := 4) (by rw [show a + 10 = a + 5 + 5 by omega]; exact h3)
/-- What the document's dynamic answers. -/
def RDyn (c : Rx) (a : Nat) (o : List Nat) (ov : Value) (w : World) (r : Ending) (w' : World) : Prop :=
  ∃ u v, r = .returned (.tuple #[u, v]) ∧ Fq c.B0 w w' ∧
    ((∃ (a1 ns nd : Nat) (l : List Int) (A1 A2 : Option Addr) (k1 k2 : Nat), 257 ≤ ns ∧ ns ≤ 286 ∧ 1 ≤ nd ∧ nd ≤ 30 ∧ l.length = ns + nd ∧ (∀ most p, dynR c.L most a p = dynTail ns c.L most p (.ok (a1, l))) ∧ u = .slice A1 ns k1 ∧ v = .slice A2 nd k2 ∧
        Seen w' w'.heap.size 1 A1 ns k1 (iv (l.take ns)) ∧ Seen w' w'.heap.size 1 A2 nd k2 (iv (l.drop ns)) ∧ RSt c w' ov a1 o 0) ∨
      (∃ er a' : Nat, 0 < er ∧ er < 100 ∧ (∀ most p, dynR c.L most a p = .er er) ∧ RSt c w' ov a' o er))
/-- get, with an error or without. -/
theorem rget_all {c : Rx} (hg : c.Good) (ov : Value) (a : Nat) (o : List Nat) (e n : Nat) (hn : n ≤ 16) (w : World) (h : RSt c w ov a o e) :
    Calls Tryz.prog 38 #[.pointer (some ⟨c.gs, 0, none⟩), .int .i64 n] w fun r w' => ∃ v er a' : Nat, r = .returned (.int .i64 v) ∧ RSt c w' ov a' o er ∧ Fq c.B0 w w' ∧ v < 2 ^ n ∧
      ((e = 0 ∧ er = 0 ∧ bitsAt c.L a n = .ok v ∧ a' = a + n) ∨ (e = 0 ∧ er = 6 ∧ bitsAt c.L a n = .er 6) ∨ (e ≠ 0 ∧ er = e)) := by
  by_cases he : e = 0
  · subst he
    refine (rget_any hg ov a o n hn w h).mono ?_
    rintro r w' ⟨v, er, a', rfl, hs, hf, hc⟩
    rcases hc with ⟨h1, h2, h3, h4⟩ | ⟨h1, h2, h3⟩
    · exact ⟨v, er, a', rfl, hs, hf, h3, .inl ⟨rfl, h1, h2, h4⟩⟩
    · exact ⟨v, er, a', rfl, hs, hf, by rw [h2]; exact Nat.two_pow_pos n, .inr (.inl ⟨rfl, h1, h3⟩)⟩
  · refine (rget_no ov a o e n he w h).mono ?_
    rintro r w' ⟨rfl, rfl⟩
    exact ⟨0, e, a, rfl, h, Fq.refl _ _, Nat.two_pow_pos n, .inr (.inr ⟨he, rfl⟩)⟩
/-- Within: k lengths of lengths have been asked for; E6 is what an error says. -/
def RDIn2 (c : Rx) (a : Nat) (o : List Nat) (ov : Value) (w : World) (E6 : Prop) (v : Value) (k e : Nat) (wr : World) : Prop :=
  (∃ l : List Int, l.length = 19 ∧ wr.ownsRow w.heap.size 3 1 v 19 (iv l) ∧ (e = 0 → l = llF c.L a k)) ∧ Fq c.B0 w wr ∧ (∃ b, RSt c wr ov b o e ∧ (e = 0 → b = a + 3 * k)) ∧ (e = 0 ∨ (e = 6 ∧ E6))
set_option maxHeartbeats 4000000 in
theorem rdynamic_any {c : Rx} (hg : c.Good) (ov : Value) (a : Nat) (o : List Nat) (w : World) (h : RSt c w ov a o 0) :
    Calls Tryz.prog 41 #[.pointer (some ⟨c.gs, 0, none⟩)] w (RDyn c a o ov w) := by
  obtain ⟨i0, hi0, hz0, hz1, hz2⟩ := info_parts int_info
  have HI0 := Lib.hid hi0; clear hi0
  have HZ0 := Lib.hid hz0; clear hz0
  have H := Lib.hid h; clear h
  go_enter Tryz.func41, Tryz.ntmps41
  go_wp2_with fail
  refine (rget_all hg ov a o 0 5 (by omega) _ H.out).mono ?_
  rintro r w1 ⟨v1, e1, a1, rfl, hs1, hf1, hv1, hc1⟩
  have S1 := Lib.hid hs1; have F1 := Lib.hid hf1; have C1 := Lib.hid hc1
  have l1 : v1 < 32 := hv1
  clear hs1 hf1 hc1 hv1
  obtain ⟨ns, hns⟩ : ∃ t, v1 + 257 = t := ⟨_, rfl⟩
  have wns : (v1 : Int) + 257 = ns := by omega
  go_wp2_with fail
  refine (rget_all hg ov a1 o e1 5 (by omega) _ S1.out).mono ?_
  rintro r w2 ⟨v2, e2, a2, rfl, hs2, hf2, hv2, hc2⟩
  have S2 := Lib.hid hs2; have F2 := Lib.hid (F1.out.trans hf2); have C2 := Lib.hid hc2
  have l2 : v2 < 32 := hv2
  clear hs2 hf2 hc2 hv2
  obtain ⟨nd, hnd⟩ : ∃ t, v2 + 1 = t := ⟨_, rfl⟩
  have wnd : (v2 : Int) + 1 = nd := by omega
  go_wp2_with fail
  refine (rget_all hg ov a2 o e2 4 (by omega) _ S2.out).mono ?_
  rintro r w3 ⟨v3, e3, a3, rfl, hs3, hf3, hv3, hc3⟩
  have S3 := Lib.hid hs3; have F3 := Lib.hid (F2.out.trans hf3); have C3 := Lib.hid hc3
  have l3 : v3 < 16 := hv3
  clear hs3 hf3 hc3 hv3
  obtain ⟨nl, hnl⟩ : ∃ t, v3 + 4 = t := ⟨_, rfl⟩
  have wnl : (v3 : Int) + 4 = nl := by omega
  have hA : (e3 = 0 ∧ a3 = a + 14 ∧ ∃ v, bitsAt c.L a 14 = .ok v ∧ v % 32 + 257 = ns ∧ v / 32 % 32 + 1 = nd ∧ v / 1024 + 4 = nl) ∨ (e3 = 6 ∧ ∀ most p, dynR c.L most a p = .er 6) := by
    rcases C1.out with ⟨_, rfl, b1, rfl⟩ | ⟨_, rfl, b1⟩ | ⟨h, _⟩
    · rcases C2.out with ⟨_, rfl, b2, rfl⟩ | ⟨_, rfl, b2⟩ | ⟨h, _⟩
      · rcases C3.out with ⟨_, rfl, b3, rfl⟩ | ⟨_, rfl, b3⟩ | ⟨h, _⟩
        · obtain ⟨v, k1, k2, k3, k4⟩ := bits_three b1 b2 b3 l1 l2
          exact .inl ⟨rfl, by omega, v, k1, by omega, by omega, by omega⟩
        · exact .inr ⟨rfl, fun most p => dyn_er (bits_three_er3 b3)⟩
        · exact absurd rfl h
      · rcases C3.out with ⟨h, _⟩ | ⟨h, _⟩ | ⟨_, rfl⟩
        · omega
        · omega
        · exact .inr ⟨rfl, fun most p => dyn_er (bits_three_er2 b2)⟩
      · exact absurd rfl h
    · rcases C2.out with ⟨h, _⟩ | ⟨h, _⟩ | ⟨_, rfl⟩
      · omega
      · omega
      · rcases C3.out with ⟨h, _⟩ | ⟨h, _⟩ | ⟨_, rfl⟩
        · omega
        · omega
        · exact .inr ⟨rfl, fun most p => dyn_er (bits_three_er1 b1)⟩
    · exact absurd rfl h
  have HA := Lib.hid hA; clear hA C1 C2 C3
  have hns1 : 257 ≤ ns ∧ ns ≤ 288 := by omega
  have hnd1 : 1 ≤ nd ∧ nd ≤ 32 := by omega
  have hnl1 : 4 ≤ nl ∧ nl ≤ 19 := by omega
  clear hns hnd hnl
  by_cases hmany : 286 < ns ∨ 30 < nd
  · have CF := Lib.hid (rfail_any hg ov a3 o e3 4 w3 S3.out)
    have hEnd : ∀ w4, RSt c w4 ov a3 o (if e3 = 0 then 4 else e3) → Fq c.B0 w3 w4 → RDyn c a o ov w (.returned (.tuple #[.slice none 0 0, .slice none 0 0])) w4 := by
      intro w4 hs4 hf4
      refine ⟨_, _, rfl, F3.out.trans hf4, .inr ?_⟩
      rcases HA.out with ⟨rfl, _, v, b, k1, k2, _⟩ | ⟨rfl, k⟩
      · exact ⟨4, a3, by omega, by omega, fun most p => dyn_many b k1 k2 hmany, hs4⟩
      · exact ⟨6, a3, by omega, by omega, k, hs4⟩
    have HEnd := Lib.hid hEnd; clear hEnd
    by_cases hm1 : 286 < ns
    · clear hmany
      have d1 : decide (286 < (ns : Int)) = true := decide_eq_true (by omega)
      go_wp2_with fail
      refine CF.out.mono ?_
      rintro r w4 ⟨rfl, hs4, hf4⟩
      have HE := Lib.hid (HEnd.out w4 hs4 hf4)
      clear hs4 hf4
      go_wp2_with fail
      go_ret2
      exact HE.out
    · have hm2 : 30 < nd := hmany.resolve_left hm1
      clear hmany
      have d1 : decide (286 < (ns : Int)) = false := decide_eq_false (by omega)
      have d2 : decide (30 < (nd : Int)) = true := decide_eq_true (by omega)
      go_wp2_with fail
      refine CF.out.mono ?_
      rintro r w4 ⟨rfl, hs4, hf4⟩
      have HE := Lib.hid (HEnd.out w4 hs4 hf4)
      clear hs4 hf4
      go_wp2_with fail
      go_ret2
      exact HE.out
  · have d1 : decide (286 < (ns : Int)) = false := decide_eq_false (by omega)
    have d2 : decide (30 < (nd : Int)) = false := decide_eq_false (by omega)
    have HM := Lib.hid hmany; clear hmany
    have sz3 : w.heap.size ≤ w3.heap.size := F3.out.size
    go_wp2_with (refine wpList_make_full _ rfl (.const (.int .i64 19)) (.const (.int .i64 19)) 54 rfl w.heap.size 3 i0 _ 1 Tryz.underlying54 HI0.out HZ0.out hz1 .i64 .i64 19 19 19 rfl rfl rfl rfl (by rw [hz2]; omega) (by simp only [maxLen]; omega) sz3 ?_; intro w4 hown4 hg4)
    have hB4 : Below w3.heap.size w3 w4 := ⟨hg4.os, hg4.tape, hg4.output, hg4.size, fun k hk => hg4.block k hk (by simp)⟩
    have hmk : (madeCells (Value.cells (.int .i64 0)) (19 * 1)).toList = iv (llF c.L (a + 14) 0) := by kernel_rfl
    rw [hmk] at hown4
    obtain ⟨gl, hgl⟩ : ∃ gl, w3.heap.size = gl := ⟨_, rfl⟩
    rw [hgl] at hown4
    have HE6 : Hid (e3 = 0 → c.L.length < a + 14 + 3 * nl → ∀ most p, dynR c.L most a p = .er 6) := Lib.hid (fun h0 hl most p => by
      rcases HA.out with ⟨_, _, v, b, k1, k2, k3⟩ | ⟨h, _⟩
      · exact dyn_end b k1 k2 k3 HM.out hl
      · omega)
    have H0 : Hid (RDIn2 c (a + 14) o ov w (∀ most p, dynR c.L most a p = .er 6) (.slice (some ⟨gl, 0, none⟩) 19 19) 0 e3 w4) := Lib.hid (by
      refine ⟨⟨llF c.L (a + 14) 0, by simp, hown4, fun _ => rfl⟩, F3.out.trans (Fq.of_below hB4 _), ⟨a3, S3.out.below hB4, fun h0 => ?_⟩, ?_⟩
      · rcases HA.out with ⟨_, h, _⟩ | ⟨h, _⟩
        · omega
        · omega
      · rcases HA.out with ⟨h, _⟩ | ⟨h, k⟩
        · exact .inl h
        · exact .inr ⟨h, k⟩)
    clear hown4 hg4 hB4 hmk
    try rw [hgl]
    clear hgl
    go_wp2_with fail
    go_loopw [8] (fun i wr => ∃ k e : Nat, k ≤ nl ∧ i = .int .i64 k ∧ (e3 ≠ 0 → e ≠ 0) ∧ RDIn2 c (a + 14) o ov w (∀ most p, dynR c.L most a p = .er 6) (.slice (some ⟨gl, 0, none⟩) 19 19) k e wr) (fun i _ => nl - (intOf i).toNat)
    case atStart => exact ⟨0, e3, by omega, rfl, fun h => h, H0.out⟩
    case round =>
      obtain ⟨k, e, hk, rfl, he3, hin⟩ := hrel
      by_cases hlt : k < nl
      · have dk : decide (k < nl) = true := decide_eq_true hlt
        obtain ⟨⟨l, hll, hown, hlF⟩, hf5, ⟨b, hs5, hbF⟩, hee⟩ := hin
        have hk19 : k < 19 := by omega
        obtain ⟨j, hj⟩ : ∃ j, ordM.getD k 0 = j := ⟨_, rfl⟩
        have hj19 : j < 19 := by rw [← hj]; exact ordM_lt k hk19
        have hoj : ordJ k = (j : Nat) := by unfold ordJ; rw [hj]
        have OC : Hid (∀ (W : World) (g : Nat), Whole W g 3 (iv ordZ).toArray → W.cell? ⟨g, k, none⟩ = some (.int .i64 (j : Nat))) := Lib.hid (fun W g hW => by
          rw [hW.cell k, ← hoj]
          simpa using ordZ_get k hk19)
        have S5 := Lib.hid hs5; have F5 := Lib.hid hf5; have O5 := Lib.hid hown
        have HL := Lib.hid hll; have HLF := Lib.hid hlF; have HBF := Lib.hid hbF; have HEE := Lib.hid hee; have HJ := Lib.hid hj
        clear hs5 hf5 hown hll hlF hbF hee hj hoj
        have k00 : (0 : Int) ≤ k := by omega
        have k01 : (k : Int) < 19 := by omega
        have j00 : (0 : Int) ≤ j := by omega
        have j01 : (j : Int) < 19 := by omega
        go_wp2_with fail
        refine wp_region_heldTail (S := (fun _ => True)) 7 2 (by kernel_rfl) (by rfl) trivial (fun hHeld => ?_)
        refine wpAnyT_take (i := 0) (oi := ⟨some 35, _, _, _, _, _⟩) (v := ?v0) rfl (by kernel_rfl) (by kernel_rfl) (by kernel_rfl) (by kernel_rfl) (fun _ _ _ h => h) (Or.inl ⟨by rfl, ?hy0⟩) (by assumption) ?rest0
        case hy0 => intro W hSW; go_simp; try rfl
        try simp only [Act.put, List.setIfInBounds_toArray, List.set_cons_zero, List.set_cons_succ]
        refine wpAnyT_take (i := 2) (oi := ⟨some 37, _, _, _, _, _⟩) (v := ?v2) rfl (by kernel_rfl) (by kernel_rfl) (by kernel_rfl) (by kernel_rfl) (fun _ _ _ h => h) (Or.inl ⟨by rfl, ?hy2⟩) (by assumption) ?rest2
        case hy2 => intro W hSW; go_simp; try rfl
        try simp only [Act.put, List.setIfInBounds_toArray, List.set_cons_zero, List.set_cons_succ]
        refine wpAnyT_take (i := 5) (oi := ⟨some 40, _, _, _, _, _⟩) (v := ?v5) rfl (by kernel_rfl) (by kernel_rfl) (by kernel_rfl) (by kernel_rfl) (fun _ _ _ h => h) (Or.inl ⟨by rfl, ?hy5⟩) (by assumption) ?rest5
        case hy5 => intro W hSW; go_simp; try rfl
        try simp only [Act.put, List.setIfInBounds_toArray, List.set_cons_zero, List.set_cons_succ]
        refine wpAnyT_run (i := 1) (o := ⟨some 36, _, _, _, _, _⟩) (by kernel_rfl) rfl (fun K hK => ?_)
        go_simp
        refine (refOrder_any _).mono ?_
        rintro r w5 ⟨g, rfl, hW5, _, hb5⟩
        have WO := Lib.hid hW5; have B5 : Hid (Below wr.heap.size wr w5) := Lib.hid ⟨hb5.os, hb5.tape, hb5.output, hb5.size, hb5.block⟩; clear hW5 hb5
        refine hK.out _ _ ?_ (fun hHeld2 => ?_)
        · exact trivial
        clear hK K hHeld
        have hHeld := hHeld2; clear hHeld2
        try simp only [Act.put, List.setIfInBounds_toArray, List.set_cons_zero, List.set_cons_succ]
        refine wpAnyT_more (S' := fun W => Whole W g 3 (iv ordZ).toArray) (fun _ _ => trivial) _ _ _ _ ?_
        clear hHeld
        have hHeld : Whole w5 g 3 (iv ordZ).toArray := WO.out
        refine wpAnyT_take (i := 3) (oi := ⟨some 38, _, _, _, _, _⟩) (v := ?v3) rfl (by kernel_rfl) (by kernel_rfl) (by kernel_rfl) (by kernel_rfl) (fun _ _ _ h => h) (Or.inl ⟨by rfl, ?hy3⟩) (by assumption) ?rest3
        case hy3 => intro W hSW; go_simp; try rfl
        try simp only [Act.put, List.setIfInBounds_toArray, List.set_cons_zero, List.set_cons_succ]
        refine wpAnyT_take (i := 4) (oi := ⟨some 39, _, _, _, _, _⟩) (v := ?v4) rfl (by kernel_rfl) (by kernel_rfl) (by kernel_rfl) (by kernel_rfl) (fun _ _ _ h => h) (Or.inl ⟨by rfl, ?hy4⟩) (by assumption) ?rest4
        case hy4 => intro W hSW; have s1 := OC.out W _ hSW; go_simp; try rfl
        try simp only [Act.put, List.setIfInBounds_toArray, List.set_cons_zero, List.set_cons_succ]
        refine wpAnyT_run (i := 6) (o := ⟨some 41, _, _, _, _, _⟩) (by kernel_rfl) rfl (fun K hK => ?_)
        go_simp
        refine (rget_all hg ov b o e 3 (by omega) w5 (S5.out.below B5.out)).mono ?_
        rintro r w6 ⟨v, e6, b6, rfl, hs6, hf6, hv6, hc6⟩
        have S6 := Lib.hid hs6; have F6 := Lib.hid hf6; have C6 := Lib.hid hc6
        have lv6 : v < 8 := hv6
        clear hs6 hf6 hc6 hv6
        refine hK.out _ _ ?_ (fun hHeld2 => ?_)
        · exact (F6.out.whole WO.out (by decide) (by decide) (by decide))
        clear hK K hHeld
        have hHeld := hHeld2; clear hHeld2
        try simp only [Act.put, List.setIfInBounds_toArray, List.set_cons_zero, List.set_cons_succ]
        refine wpAnyT_done (by kernel_rfl) ?_
        simp only [List.drop_succ_cons, List.drop_zero]
        have O6 := Lib.hid (F6.out.own (own_only O5.out (Only.of_below B5.out Nob) (fun _ _ h => h)) (by decide) (by decide) (by decide))
        have F06 := Lib.hid ((F5.out.trans (Fq.of_below B5.out _)).trans F6.out)
        have hjl : j < l.length := by rw [HL.out]; exact hj19
        have cj := own_cell O6.out (iv_get? hjl)
        have cj1 := cj.1
        have cj2 := cj.2.1
        have hglo := cj.2.2
        clear cj
        have N7 : Hid (RDIn2 c (a + 14) o ov w (∀ most p, dynR c.L most a p = .er 6) (.slice (some ⟨gl, 0, none⟩) 19 19) (k + 1) e6 (w6.setCell ⟨gl, j, none⟩ (.int .i64 (v : Nat)))) := Lib.hid (by
          have hp := own_put O6.out j (.int .i64 (v : Nat))
          have hset : (iv l).set j (.int .i64 (v : Nat)) = iv (l.set j (v : Nat)) := by simp [iv, List.map_set]
          rw [hset] at hp
          have hO : Only (fun m => m = gl) w6 (w6.setCell ⟨gl, j, none⟩ (.int .i64 (v : Nat))) := (Only.refl (fun m => m = gl) w6).setCell (p := ⟨gl, j, none⟩) (.inl rfl) _
          have hW : ∃ cs, Whole w6 gl 3 cs := (own_whole O6.out rfl).2
          refine ⟨⟨l.set j (v : Nat), by simpa using HL.out, hp, fun h0 => ?_⟩, F06.out.past ((Below.refl _ _).setCell hglo _), ⟨b6, S6.out.ints hO (fun m hm => by subst hm; exact hW), fun h0 => ?_⟩, ?_⟩
          · rcases C6.out with ⟨h1, _, h2, _⟩ | ⟨_, h1, _⟩ | ⟨h1, h2⟩
            · rw [HLF.out h1, llF, HJ.out]
              rw [HBF.out h1] at h2
              rw [(bits_ok h2).2]
            · omega
            · omega
          · rcases C6.out with ⟨h1, _, _, h2⟩ | ⟨_, h1, _⟩ | ⟨h1, h2⟩
            · rw [h2, HBF.out h1]; omega
            · omega
            · omega
          · rcases C6.out with ⟨_, h1, _⟩ | ⟨h1, h2, h3⟩ | ⟨h1, h2⟩
            · exact .inl h1
            · refine .inr ⟨h2, HE6.out (by rcases Nat.eq_zero_or_pos e3 with h | h; exact h; exact absurd h1 (he3 (by omega))) ?_⟩
              rw [HBF.out h1] at h3
              unfold bitsAt at h3
              split at h3
              · cases h3
              · omega
            · rcases HEE.out with h | ⟨h, k⟩
              · exact absurd h h1
              · exact .inr ⟨by rw [h2]; exact h, k⟩)
        have HE7 : Hid (e3 ≠ 0 → e6 ≠ 0) := Lib.hid (fun h => by
          have := he3 h
          rcases C6.out with ⟨h1, _⟩ | ⟨h1, _⟩ | ⟨_, h2⟩ <;> omega)
        have wv : IntKind.i64.wrap (v : Int) = v := IntWalk.i64_in _ (by omega)
        go_wp2_with fail
        go_roundw
        case rel => exact ⟨k + 1, e6, by omega, by go_num, HE7.out, N7.out⟩
        case measure => simp [intOf]; omega
      · obtain rfl : k = nl := by omega
        have dk : decide (k < k) = false := decide_eq_false (by omega)
        obtain ⟨⟨l, hll, hown, hlF⟩, hf5, ⟨b, hs5, hbF⟩, hee⟩ := hin
        have S5 := Lib.hid hs5; have F5 := Lib.hid hf5
        have q3 := hs5.c3
        have SL := Lib.hid (Seen.of_own hown)
        clear hs5 hf5 hown
        by_cases he0 : e = 0
        · subst he0
          have hl0 := hlF rfl
          subst hl0
          have hb0 := hbF rfl
          subst hb0
          have h30 : e3 = 0 := by
            rcases Nat.eq_zero_or_pos e3 with h | h
            · exact h
            · exact absurd rfl (he3 (by omega))
          obtain ⟨va, hva⟩ : ∃ v, bitsAt c.L a 14 = .ok v ∧ v % 32 + 257 = ns ∧ v / 32 % 32 + 1 = nd ∧ v / 1024 + 4 = k := by
            rcases HA.out with ⟨_, _, h⟩ | ⟨h, _⟩
            · exact h
            · omega
          have HV := Lib.hid hva; clear hva
          have hpl : a + 14 + 3 * k ≤ c.L.length := by have := S5.out.place; simpa using this
          clear hlF hbF hee he3
          obtain ⟨cl, hcl⟩ : ∃ cl, llF c.L (a + 14) k = cl := ⟨_, rfl⟩
          rw [hcl] at SL hll
          have HCL := Lib.hid hcl; clear hcl
          by_cases hkind : kindOf cl = 0
          · have CW := Lib.hid (refWords_bad _ 19 19 wr.heap.size cl hll (by omega) hkind wr SL.out (Nat.le_refl _))
            have HKD := Lib.hid hkind; clear hkind
            go_wp2_with fail
            refine CW.out.mono ?_
            rintro r w6 ⟨rfl, hb6⟩
            have B6 := Lib.hid hb6; clear hb6
            have S6 := Lib.hid (S5.out.below B6.out)
            go_wp2_with fail
            refine (rfail_any hg ov _ o 0 12 w6 S6.out).mono ?_
            rintro r w7 ⟨rfl, hs7, hf7⟩
            rw [if_pos rfl] at hs7
            have S7 := Lib.hid hs7; have F7 := Lib.hid ((F5.out.trans (Fq.of_below B6.out _)).trans hf7)
            clear hs7 hf7
            go_wp2_with fail
            go_ret2
            exact ⟨_, _, rfl, F7.out, .inr ⟨12, _, by omega, by omega, fun most p => dyn_code HV.out.1 HV.out.2.1 HV.out.2.2.1 HV.out.2.2.2 HM.out hpl (by rw [HCL.out]; exact HKD.out), S7.out⟩⟩
          · have CW := Lib.hid (refWords_any _ 19 19 wr.heap.size cl hll (by omega) hkind wr SL.out (Nat.le_refl _))
            have HKD := Lib.hid hkind; clear hkind
            obtain ⟨nn, hnn⟩ : ∃ nn, ns + nd = nn := ⟨_, rfl⟩
            have wnn : (ns : Int) + nd = nn := by omega
            go_wp2_with fail
            refine CW.out.mono ?_
            rintro r w6 ⟨vw, rfl, hw6, hb6⟩
            obtain ⟨Aw, cw, rfl, _⟩ := own_form hw6
            have W6 := Lib.hid hw6
            have B6 := Lib.hid hb6; clear hb6 hw6
            have S6 := Lib.hid (S5.out.below B6.out)
            go_wp2_with fail
            refine (rlengths_any hg ov (a + 14 + 3 * k) o cl hll HKD.out nn (by have := HM.out; omega) Aw cw wr.heap.size w6 W6.out S6.out).mono ?_
            rintro r w7 ⟨v7, rfl, hf7, hc7⟩
            have F7 := Lib.hid ((F5.out.trans (Fq.of_below B6.out _)).trans hf7)
            clear hf7 q3
            rcases hc7 with ⟨a7, l7, hrun, hl7, hown7, hs7⟩ | ⟨er, a7, e0, e1, hrun, ⟨A7, k7, c7, rfl⟩, hs7⟩
            · have HD := Lib.hid (fun most p => dyn_lens (most := most) (o := p) HV.out.1 HV.out.2.1 HV.out.2.2.1 HV.out.2.2.2 HM.out hpl (by rw [HCL.out]; exact HKD.out) (by rw [HCL.out, hnn]; exact hrun))
              have q7 := hs7.c3
              have S7 := Lib.hid hs7
              have hmn := HM.out
              obtain ⟨rr, cap, rfl, hcap, hcapm⟩ := own_pos hown7 (by omega)
              have SX := Lib.hid ((Seen.of_own hown7).cut (q := 0) (n := ns) (by omega))
              have SY := Lib.hid ((Seen.of_own hown7).cut (q := ns) (n := nd) (by omega))
              have ex : ((iv l7).drop 0).take ns = iv (l7.take ns) := by simp [iv, List.map_take]
              have ey : ((iv l7).drop ns).take nd = iv (l7.drop ns) := by
                rw [iv, ← List.map_drop]
                exact List.take_of_length_le (by simp; omega)
              simp only [Option.map_some, Addr.add_lit, Nat.zero_add, Nat.add_zero, Nat.sub_zero] at SX SY
              rw [ex] at SX
              rw [ey] at SY
              have HL7 := Lib.hid hl7
              clear ex ey hrun hown7 hs7 hl7 hmn
              have nsn : (ns : Int) ≤ nn := by omega
              have nsc : (ns : Int) ≤ cap := by omega
              have ns0 : (0 : Int) ≤ ns := by omega
              have nnc : (nn : Int) ≤ cap := by omega
              have ndn : nn - ns = nd := by omega
              have ndn2 : (nn : Int) - ns = nd := by omega
              have hcn : ¬ cap = ns := by omega
              have hcn2 : ¬ (cap : Int) = ns := by omega
              go_wp2_with fail
              go_still (by kernel_rfl)
              go_wp2_with fail
              go_ret2
              refine ⟨_, _, rfl, F7.out.drew, .inl ⟨a7, ns, nd, l7, some ⟨rr, 0, none⟩, some ⟨rr, ns, none⟩, cap, cap - ns, by omega, by have := HM.out; omega, by omega, by have := HM.out; omega, by have := HL7.out; omega, HD.out, rfl, rfl, SX.out, SY.out, S7.out.drew⟩⟩
            · have HD := Lib.hid (fun most p => dyn_lens (most := most) (o := p) HV.out.1 HV.out.2.1 HV.out.2.2.1 HV.out.2.2.2 HM.out hpl (by rw [HCL.out]; exact HKD.out) (by rw [HCL.out, hnn]; exact hrun))
              have q7 := hs7.c3
              have S7 := Lib.hid hs7
              clear hrun hs7
              have z2 : ((er : Int) == 0) = false := by simp; omega
              have z3 : ¬ (er : Int) = 0 := by omega
              have z4 : (er == 0) = false := by simp; omega
              go_wp2_with fail
              go_ret2
              exact ⟨_, _, rfl, F7.out, .inr ⟨er, a7, e0, e1, HD.out, S7.out⟩⟩
        · have hE := hee.resolve_left he0
          obtain ⟨rfl, hE6⟩ := hE
          have HD := Lib.hid hE6
          clear hlF hbF hee he3 hE6
          have CW := Lib.hid (words_ans _ 19 19 wr.heap.size l hll (by omega) wr SL.out (Nat.le_refl _))
          unfold WordsAns at CW
          obtain ⟨kx, hkx⟩ : ∃ kx : Bool, decide (kindOf l ≠ 0) = kx := ⟨_, rfl⟩
          obtain ⟨nx, hnx⟩ : ∃ nx : Nat, (if kindOf l = 0 then 0 else 19) = nx := ⟨_, rfl⟩
          rw [hkx, hnx] at CW
          clear hkx hnx
          obtain ⟨nn, hnn⟩ : ∃ nn, ns + nd = nn := ⟨_, rfl⟩
          have wnn : (ns : Int) + nd = nn := by omega
          go_wp2_with fail
          refine CW.out.mono ?_
          rintro r w6 ⟨vw, rfl, ⟨Aw, cw, rfl⟩, hb6⟩
          have B6 := Lib.hid hb6; clear hb6
          have S6 := Lib.hid (S5.out.below B6.out)
          have q6 := S6.out.c3
          have F6 := Lib.hid (F5.out.trans (Fq.of_below B6.out _))
          clear q3
          cases kx with
          | false =>
            go_wp2_with fail
            refine (rfail_any hg ov _ o 6 12 w6 S6.out).mono ?_
            rintro r w7 ⟨rfl, hs7, hf7⟩
            have S7 := Lib.hid hs7; have F7 := Lib.hid (F6.out.trans hf7)
            clear hs7 hf7
            go_wp2_with fail
            go_ret2
            exact ⟨_, _, rfl, F7.out, .inr ⟨6, _, by omega, by omega, HD.out, S7.out⟩⟩
          | true =>
            go_wp2_with fail
            refine (rlengths_no ov _ o 6 (by omega) _ nn w6 S6.out).mono ?_
            rintro r w7 ⟨rfl, rfl⟩
            go_wp2_with fail
            go_ret2
            exact ⟨_, _, rfl, F6.out, .inr ⟨6, _, by omega, by omega, HD.out, S6.out⟩⟩
end Go.Proofs.YtkjhefjjacokjaaGreat

namespace Go.Proofs.YtkjhefjjacokjaaGreat
open Go.RowKit
set_option maxRecDepth 100000
/-- Within the document's Inflate. -/
def RIIn (c : Rx) (w : World) (la b : Nat) (u : List Nat) (ov : Value) (e : Nat) (wr : World) : Prop :=
  RSt c wr ov b u e ∧ Fq c.B0 w wr ∧ (e = 0 → la = 0 → ∀ r, Runs (blockStep c.L c.most) (b, u) r → Runs (blockStep c.L c.most) (0, []) r) ∧ (e = 0 → la ≠ 0 → Runs (blockStep c.L c.most) (0, []) (.ok (b, u))) ∧ (e ≠ 0 → e < 100 ∧ Runs (blockStep c.L c.most) (0, []) (.er e))
def imeas (n la b e : Nat) : Nat := if e = 0 ∧ la = 0 then n - b + 1 else 0
/-- A block is done: what stands then. -/
theorem ri_next {c : Rx} {w wr w' : World} {b v k l : Nat} {u : List Nat} {R : Rs (Nat × List Nat)} {q : Ending} (HK : ∀ r, Runs (blockStep c.L c.most) (b, u) r → Runs (blockStep c.L c.most) (0, []) r) (hb : bitsAt c.L b 3 = .ok v) (hk : v / 2 = k) (hl : v % 2 = l) (hR : kindAt c.L c.most k (b + 3) u = R) (hf : Fq c.B0 w wr) (hpl : b ≤ 8 * c.bs.length) (h : RRes c R wr q w') :
    q = .returned (.tuple #[]) ∧ ∃ b' u' ov' e', RIIn c w l b' u' ov' e' w' ∧ imeas (8 * c.bs.length) l b' e' < 8 * c.bs.length - b + 1 := by
  obtain ⟨rfl, hf2, hc⟩ := h
  refine ⟨rfl, ?_⟩
  have hB := block_ok (most := c.most) (o := u) hb hk hl
  rw [hR] at hB
  rcases hc with ⟨a', o', ov', rfl, hs⟩ | ⟨er, a', o', ov', e0, e1, rfl, hs⟩
  · have hge := (kind_ok hR).1
    have hp := hs.place
    refine ⟨a', o', ov', 0, ⟨hs, hf.trans hf2, fun _ hl0 r hr => ?_, fun _ hl0 => ?_, fun h => absurd rfl h⟩, ?_⟩
    · simp only at hB
      rw [if_neg (by omega)] at hB
      exact HK r (.go hB hr)
    · simp only at hB
      rw [if_pos (by omega)] at hB
      exact HK _ (.fin hB)
    · unfold imeas
      split <;> omega
  · refine ⟨a', o', ov', er, ⟨hs, hf.trans hf2, fun h => by omega, fun h => by omega, fun _ => ⟨e1, HK _ (.er hB)⟩⟩, ?_⟩
    unfold imeas
    rw [if_neg (by omega)]
    omega
theorem fixL_256 : fixL.getD 256 0 ≠ 0 := by decide +kernel
set_option maxHeartbeats 4000000 in
theorem rinflate_any (A : Option Addr) (n cp B : Nat) (bs : List Nat) (most : Nat) (hm : most ≤ 16777216) (hn : bs.length = n) (hl : n ≤ 100000) (h256 : ∀ x ∈ bs, x < 256) (w : World) (hs : Seen w B 1 A n cp (bx bs)) (hB : B ≤ w.heap.size) :
    Calls Tryz.prog 15 #[.slice A n cp, .int .i64 most] w (InfRes (unpack bs) most w) := by
  have HS := Lib.hid hs; clear hs
  have HN := Lib.hid hn; clear hn
  have H256 := Lib.hid h256; clear h256
  have d1 : decide ((most : Int) < 0) = false := decide_eq_false (by omega)
  have d2 : decide (16777216 < (most : Int)) = false := decide_eq_false (by omega)
  unfold InfRes
  go_enter Tryz.func15, Tryz.ntmps15
  go_wp2_with fail
  refine (refOf_any A cp B bs n HN.out w HS.out hB hl H256.out).mono ?_
  rintro r w1 ⟨sv, rfl, hown, hb1⟩
  obtain ⟨As, cs, rfl, _⟩ := own_form hown
  have hsz := hb1.size
  obtain ⟨c, hc⟩ : ∃ c : Rx, c = ⟨w.heap.size, w1.heap.size + 2, w1.heap.size + 1, w1.heap.size, .slice As (8 * n) cs, bs, most⟩ := ⟨_, rfl⟩
  have hg : c.Good := by
    subst hc
    exact ⟨by show bs.length ≤ 100000; rw [HN.out]; exact hl, H256.out, hm, by show w1.heap.size < w1.heap.size + 2; omega, by show w1.heap.size + 1 < w1.heap.size + 2; omega, by show w.heap.size ≤ w1.heap.size + 1; omega, by show w.heap.size ≤ w1.heap.size + 2; omega⟩
  have hSt : RSt c ((w1.alloc (.cells #[.slice As (8 * n) cs, .int .i64 0] 73)).alloc (.cells #[.pointer (some ⟨w1.heap.size, 0, none⟩), .slice none 0 0, .int .i64 most, .int .i64 0] 75)) (.slice none 0 0) 0 [] 0 := by
    subst hc
    refine ⟨?_, ⟨by exact hsz, (Whole.new w1 73 _).alloc _, ?_⟩, World.ownsRow_nil _ _ _ _, by simp, by omega, by simp⟩
    · have := Whole.new (w1.alloc (.cells #[.slice As (8 * n) cs, .int .i64 0] 73)) 75 #[.pointer (some ⟨w1.heap.size, 0, none⟩), .slice none 0 0, .int .i64 most, .int .i64 0]
      simpa using this
    · have h2 := (hown.alloc (.cells #[.slice As (8 * n) cs, .int .i64 0] 73)).alloc (.cells #[.pointer (some ⟨w1.heap.size, 0, none⟩), .slice none 0 0, .int .i64 most, .int .i64 0] 75)
      have e : (unpack bs).length = 8 * n := by simp [HN.out]
      show World.ownsRow _ _ 4 1 _ (unpack bs).length _
      rw [e]
      exact h2
  have hBB : Below w.heap.size w ((w1.alloc (.cells #[.slice As (8 * n) cs, .int .i64 0] 73)).alloc (.cells #[.pointer (some ⟨w1.heap.size, 0, none⟩), .slice none 0 0, .int .i64 most, .int .i64 0] 75)) := (hb1.alloc hsz _).alloc (by simp; omega) _
  have H0 : Hid (RIIn c w 0 0 [] (.slice none 0 0) 0 ((w1.alloc (.cells #[.slice As (8 * n) cs, .int .i64 0] 73)).alloc (.cells #[.pointer (some ⟨w1.heap.size, 0, none⟩), .slice none 0 0, .int .i64 most, .int .i64 0] 75))) := Lib.hid ⟨hSt, Fq.of_below hBB _, fun _ _ r h => h, fun _ h => absurd rfl h, fun h => absurd rfl h⟩
  have hcgs : w1.heap.size + 1 = c.gs := by rw [hc]
  have ecL : Hid (c.L = unpack bs) := Lib.hid (by rw [hc])
  have ecM : Hid (c.most = most) := Lib.hid (by rw [hc])
  have ecB : Hid (c.B0 = w.heap.size) := Lib.hid (by rw [hc])
  have ecB1 : Hid (w.heap.size ≤ c.B1) := Lib.hid (by rw [hc]; show w.heap.size ≤ w1.heap.size + 2; omega)
  have ecR : Hid (c.bs = bs) := Lib.hid (by rw [hc])
  have eN : 8 * c.bs.length = 8 * n := by rw [ecR.out, HN.out]
  clear hown hb1 hSt hsz hBB hc
  go_wp2_with fail
  try rw [hcgs]
  clear hcgs
  go_loopg [8, 9, 10, 11, 12, 13] (imeas (8 * c.bs.length) 0 0 0) (fun k la _ _ _ _ _ wr => ∃ (lt b : Nat) (u : List Nat) (ov : Value) (e : Nat), k = imeas (8 * c.bs.length) lt b e ∧ la = .int .i64 lt ∧ RIIn c w lt b u ov e wr)
  case atStart => exact ⟨0, 0, [], _, 0, rfl, rfl, H0.out⟩
  case round =>
    obtain ⟨lt, b, u, ov, e, rfl, rfl, hin⟩ := hrel
    have hpl := hin.1.place
    have HS0 := Lib.hid hin.1
    have HF0 := Lib.hid hin.2.1
    have HIn := Lib.hid hin; clear hin
    by_cases he : e = 0
    · subst he
      by_cases hlt : lt = 0
      · subst hlt
        have HK := Lib.hid (HIn.out.2.2.1 rfl rfl)
        have q3 := HS0.out.c3
        go_wp2_with fail
        refine (rget_any hg ov b u 1 (by omega) _ HS0.out).mono ?_
        rintro r w2 ⟨v1, er, b1, rfl, hs2, hf2, hc2⟩
        have S2 := Lib.hid hs2; have F2 := Lib.hid (HF0.out.trans hf2)
        clear hs2 hf2 q3
        rcases hc2 with ⟨rfl, hb1, hv1, rfl⟩ | ⟨rfl, rfl, hb1⟩
        · have lv1 : v1 < 2 := hv1
          have HB1 := Lib.hid hb1
          clear hb1 hv1
          go_wp2_with fail
          refine (rget_any hg ov (b + 1) u 2 (by omega) _ S2.out).mono ?_
          rintro r w3 ⟨v2, er, b2, rfl, hs3, hf3, hc3⟩
          have S3 := Lib.hid hs3; have F3 := Lib.hid (F2.out.trans hf3)
          clear hs3 hf3
          rcases hc3 with ⟨rfl, hb2, hv2, rfl⟩ | ⟨rfl, rfl, hb2⟩
          · have lv2 : v2 < 4 := hv2
            have HB3 := Lib.hid (bits_two HB1.out hb2)
            have HE1 : Hid ((v1 + 2 ^ 1 * v2) / 2 = v2) := Lib.hid (by show (v1 + 2 * v2) / 2 = v2; omega)
            have HE2 : Hid ((v1 + 2 ^ 1 * v2) % 2 = v1) := Lib.hid (by show (v1 + 2 * v2) % 2 = v1; omega)
            clear hb2 hv2
            have z3 := S3.out.c3
            have hk4 : v2 = 0 ∨ v2 = 1 ∨ v2 = 2 ∨ v2 = 3 := by omega
            rcases hk4 with rfl | rfl | rfl | rfl
            · have CB := Lib.hid (rstored_any hg ov (b + 1 + 2) u w3 S3.out)
              go_wp2_with fail
              refine CB.out.mono ?_
              rintro r w4 hres
              obtain ⟨rfl, b', u', ov', e', hnx, hms⟩ := ri_next HK.out HB3.out HE1.out HE2.out (by rw [kindAt]) F3.out hpl hres
              have NX := Lib.hid hnx
              clear hnx hres
              go_wp2_with fail
              go_roundg (imeas (8 * c.bs.length) v1 b' e')
              case rel => exact ⟨v1, b', u', ov', e', rfl, rfl, NX.out⟩
              case measure => unfold imeas at hms ⊢; rw [if_pos (⟨rfl, rfl⟩ : 0 = 0 ∧ 0 = 0)]; exact hms
            · go_wp2_with fail
              refine (rfixed_any w3).mono ?_
              rintro r w4 ⟨x, y, rfl, hx, hy, hb4⟩
              obtain ⟨Ax, cx, rfl, _, hsx⟩ := own_seen hx
              obtain ⟨Ay, cy, rfl, _, hsy⟩ := own_seen hy
              have SX := Lib.hid hsx; have SY := Lib.hid hsy; have B4 := Lib.hid hb4
              clear hx hy hsx hsy hb4
              have S4 := Lib.hid (S3.out.below B4.out)
              have F4 := Lib.hid (F3.out.trans (Fq.of_below B4.out _))
              go_wp2_with fail
              refine (rsigns_good hg ov (b + 1 + 2) u fixL fixD 288 32 rfl rfl (by omega) (by omega) (by omega) fixL_kind fixD_kind fixL_256 Ax Ay cx cy w4 SX.out SY.out S4.out).mono ?_
              rintro r w5 hres
              obtain ⟨rfl, b', u', ov', e', hnx, hms⟩ := ri_next HK.out HB3.out HE1.out HE2.out (by rw [kindAt]) F4.out hpl hres
              have NX := Lib.hid hnx
              clear hnx hres
              go_wp2_with fail
              go_roundg (imeas (8 * c.bs.length) v1 b' e')
              case rel => exact ⟨v1, b', u', ov', e', rfl, rfl, NX.out⟩
              case measure => unfold imeas at hms ⊢; rw [if_pos (⟨rfl, rfl⟩ : 0 = 0 ∧ 0 = 0)]; exact hms
            · go_wp2_with fail
              refine (rdynamic_any hg ov (b + 1 + 2) u w3 S3.out).mono ?_
              rintro r w4 ⟨x, y, rfl, hf4, hc4⟩
              have F4 := Lib.hid (F3.out.trans hf4)
              clear hf4
              rcases hc4 with ⟨a1, ns, nd, l, A1, A2, k1, k2, g1, g2, g3, g4, g5, hD, rfl, rfl, hsx, hsy, hs4⟩ | ⟨er, a1, e0, e1, hD, hs4⟩
              · have SX := Lib.hid hsx; have SY := Lib.hid hsy; have S4 := Lib.hid hs4; have HD := Lib.hid hD
                clear hsx hsy hs4 hD
                go_wp2_with fail
                refine (rsigns_any hg ov a1 u (l.take ns) (l.drop ns) ns nd (by simp; omega) (by simp; omega) (by omega) (by omega) (by omega) A1 A2 k1 k2 w4 SX.out SY.out S4.out).mono ?_
                rintro r w5 hres
                have hKD : kindAt c.L c.most 2 (b + 3) u = (if (l.take ns).getD 256 0 = 0 ∨ kindOf (l.take ns) = 0 ∨ kindOf (l.drop ns) = 0 then .er 12 else runF (signStep (l.take ns) (l.drop ns) c.L c.most) (a1, u)) := by
                  have h1 : kindAt c.L c.most 2 (b + 3) u = dynR c.L c.most (b + 3) u := rfl
                  rw [h1, HD.out, dynTail]
                  have h2 : (l.take ns).getD 256 0 = l.getD 256 0 := by
                    simp only [List.getD, List.getElem?_take]
                    rw [if_pos (by omega)]
                  rw [h2]
                obtain ⟨rfl, b', u', ov', e', hnx, hms⟩ := ri_next HK.out HB3.out HE1.out HE2.out hKD F4.out hpl hres
                have NX := Lib.hid hnx
                clear hnx hres
                go_wp2_with fail
                go_roundg (imeas (8 * c.bs.length) v1 b' e')
                case rel => exact ⟨v1, b', u', ov', e', rfl, rfl, NX.out⟩
                case measure => unfold imeas at hms ⊢; rw [if_pos (⟨rfl, rfl⟩ : 0 = 0 ∧ 0 = 0)]; exact hms
              · have S4 := Lib.hid hs4; have HD := Lib.hid hD
                clear hs4 hD
                have z4 := S4.out.c3
                clear z3
                go_wp2_with fail
                refine (rsigns_no ov a1 u er (by omega) _ _ w4 S4.out).mono ?_
                rintro r w5 ⟨rfl, rfl⟩
                have hKD : kindAt c.L c.most 2 (b + 3) u = .er er := (show kindAt c.L c.most 2 (b + 3) u = dynR c.L c.most (b + 3) u from rfl).trans (HD.out c.most u)
                have hres : RRes c (.er er) w4 (.returned (.tuple #[])) w4 := ⟨rfl, Fq.refl _ _, .inr ⟨er, a1, u, ov, e0, e1, rfl, S4.out⟩⟩
                obtain ⟨_, b', u', ov', e', hnx, hms⟩ := ri_next HK.out HB3.out HE1.out HE2.out hKD F4.out hpl hres
                have NX := Lib.hid hnx
                clear hnx hres hKD z4
                go_wp2_with fail
                go_roundg (imeas (8 * c.bs.length) v1 b' e')
                case rel => exact ⟨v1, b', u', ov', e', rfl, rfl, NX.out⟩
                case measure => unfold imeas at hms ⊢; rw [if_pos (⟨rfl, rfl⟩ : 0 = 0 ∧ 0 = 0)]; exact hms
            · have CF := Lib.hid (rfail_only hg ov (b + 1 + 2) u 0 2 w3 S3.out)
              go_wp2_with fail
              refine CF.out.mono ?_
              rintro r w4 ⟨rfl, hs4, hf4, _⟩
              have hs4' : RSt c w4 ov (b + 1 + 2) u 2 := hs4
              have hKD : kindAt c.L c.most 3 (b + 3) u = .er 2 := by rw [kindAt]
              have hres : RRes c (.er 2) w3 (.returned (.tuple #[])) w4 := ⟨rfl, hf4, .inr ⟨2, b + 1 + 2, u, ov, by omega, by omega, rfl, hs4'⟩⟩
              obtain ⟨_, b', u', ov', e', hnx, hms⟩ := ri_next HK.out HB3.out HE1.out HE2.out hKD F3.out hpl hres
              have NX := Lib.hid hnx
              clear hnx hres hKD hs4 hs4' hf4
              go_wp2_with fail
              go_roundg (imeas (8 * c.bs.length) v1 b' e')
              case rel => exact ⟨v1, b', u', ov', e', rfl, rfl, NX.out⟩
              case measure => unfold imeas at hms ⊢; rw [if_pos (⟨rfl, rfl⟩ : 0 = 0 ∧ 0 = 0)]; exact hms
          · have HRu := Lib.hid (HK.out _ (.er (block_er (bits_two_er2 (p := 1) (q := 2) hb2))))
            clear hb2
            have z3 := S3.out.c3
            go_wp2_with fail
            go_still (by kernel_rfl)
            go_wp2_with fail
            go_ret3
            refine .inr ⟨6, by omega, by omega, ?_, rfl, ?_⟩
            · have h := HRu.out
              rwa [ecL.out, ecM.out] at h
            · have h := F3.out.drew.below (by rw [ecB.out]; exact Nat.le_refl _)
              rwa [ecB.out] at h
        · have HRu := Lib.hid (HK.out _ (.er (block_er (bits_two_er1 (p := 1) (q := 2) hb1))))
          clear hb1
          go_wp2_with fail
          refine ((rget_no ov b1 u 6 2 (by omega) _ S2.out).mono (fun _ _ h => (⟨h.1, h.2.symm⟩ : _ ∧ w2 = _))).mono ?_
          rintro r w3 ⟨rfl, rfl⟩
          have z3 := S2.out.c3
          go_wp2_with fail
          go_still (by kernel_rfl)
          go_wp2_with fail
          go_ret3
          refine .inr ⟨6, by omega, by omega, ?_, rfl, ?_⟩
          · have h := HRu.out
            rwa [ecL.out, ecM.out] at h
          · have h := F2.out.drew.below (by rw [ecB.out]; exact Nat.le_refl _)
            rwa [ecB.out] at h
      · have HRu := Lib.hid (HIn.out.2.2.2.1 rfl hlt)
        have q0 := HS0.out.c0
        have q1 := HS0.out.c1
        have q3 := HS0.out.c3
        have qr : wr.cell? ⟨c.gr, 1, none⟩ = some (.int .i64 b) := HS0.out.rd.c1
        obtain ⟨Ao, co, rfl, _⟩ := own_form HS0.out.out
        have y1 : (lt == 0) = false := by simpa using hlt
        have y2 : ((lt : Int) == 0) = false := by simp; omega
        have y3 : ¬ (lt : Int) = 0 := by omega
        obtain ⟨b7, hb7⟩ : ∃ t, b + 7 = t := ⟨_, rfl⟩
        have wb7 : (b : Int) + 7 = b7 := by omega
        obtain ⟨rr, hrr⟩ : ∃ t, (b + 7) / 8 = t := ⟨_, rfl⟩
        have wr8 : (b7 : Int) / 8 = rr := by omega
        have wr8' : (b7 : Int).tdiv 8 = rr := by rw [Int.tdiv_eq_ediv_of_nonneg (by omega)]; omega
        have wb7' : IntKind.i64.wrap (b7 : Int) = b7 := IntWalk.i64_in _ (by omega)
        have wrr : IntKind.i64.wrap (rr : Int) = rr := IntWalk.i64_in _ (by omega)
        have HRR := Lib.hid hrr
        clear hb7 hrr
        go_wp2_with fail
        go_still (by kernel_rfl)
        go_wp2_with fail
        go_ret3
        refine .inl ⟨b, u, .slice Ao u.length co, ?_, ?_, ?_, by rw [HRR.out]; rfl, ?_, ?_⟩
        · have h := HRu.out
          rwa [ecL.out, ecM.out] at h
        · simp; rw [HN.out]; omega
        · have h := HS0.out.room
          rwa [ecM.out] at h
        · exact own_base HS0.out.out ecB1.out
        · have h := HF0.out.drew.below (by rw [ecB.out]; exact Nat.le_refl _)
          rwa [ecB.out] at h
    · obtain ⟨e1, hrun⟩ := HIn.out.2.2.2.2 he
      have HRu := Lib.hid hrun; clear hrun
      have y4 : (e == 0) = false := by simpa using he
      have y5 : ((e : Int) == 0) = false := by simp; omega
      have y6 : ¬ (e : Int) = 0 := by omega
      by_cases hlt : lt = 0
      · subst hlt
        have z3 := HS0.out.c3
        go_wp2_with fail
        go_still (by kernel_rfl)
        go_wp2_with fail
        go_ret3
        refine .inr ⟨e, by omega, e1, ?_, rfl, ?_⟩
        · have h := HRu.out
          rwa [ecL.out, ecM.out] at h
        · have h := HF0.out.drew.below (by rw [ecB.out]; exact Nat.le_refl _)
          rwa [ecB.out] at h
      · have y1 : (lt == 0) = false := by simpa using hlt
        have y2 : ((lt : Int) == 0) = false := by simp; omega
        have y3 : ¬ (lt : Int) = 0 := by omega
        have z3 := HS0.out.c3
        go_wp2_with fail
        go_still (by kernel_rfl)
        go_wp2_with fail
        go_ret3
        refine .inr ⟨e, by omega, e1, ?_, rfl, ?_⟩
        · have h := HRu.out
          rwa [ecL.out, ecM.out] at h
        · have h := HF0.out.drew.below (by rw [ecB.out]; exact Nat.le_refl _)
          rwa [ecB.out] at h
end Go.Proofs.YtkjhefjjacokjaaGreat
