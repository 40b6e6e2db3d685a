/-
  The contract of run: a length, and how many times it comes. Conditions: the state stands as told (StAt), its things are where they should be (Cx.Good), the code is right and has 19 signs.
-/
import Derived.Test.YtobchlakjgeadaaT8
namespace Go.Proofs.Ytobchlakjgeadaa
open Go.RowKit
set_option maxRecDepth 100000

theorem getBits2 {c : Cx} (hg : c.Good) (ov p q : Value) (a : Nat) (o : List Nat) (n : Nat) (hn : n ≤ 32) (w : World) (h : StAt c w ov p q a o) :
    Calls Try.prog 35 #[.pointer (some ⟨c.gr, 0, none⟩), .int .i64 n] w fun e w' =>
      ∃ v er a' : Nat, e = .returned (.tuple #[.int .u32 v, .int .i64 er]) ∧ StAt c w' ov p q a' o ∧ Fr c.B0 w w' ∧
        ((er = 0 ∧ bitsAt c.L a n = .ok v ∧ v < 2 ^ n ∧ a' = a + n) ∨ (er = 6 ∧ bitsAt c.L a n = .er 6)) := by
  refine (getBits_any hg ov p q a o n hn w h).mono ?_
  rintro e w' (⟨v, h1, h2, rfl, h3, h4⟩ | ⟨h1, rfl, h3, h4⟩)
  · exact ⟨v, 0, a + n, rfl, h3, h4, .inl ⟨rfl, h1, h2, rfl⟩⟩
  · exact ⟨0, 6, a, rfl, h3, h4, .inr ⟨rfl, h1⟩⟩

theorem ix16 (W : World) : (Instr.index 123 (.agg #[.int .i64 3, .int .i64 2, .int .i64 3, .int .i64 3, .int .i64 11, .int .i64 7]) (.int .i64 0)).run Try.prog W = .ok (.agg #[.int .i64 3, .int .i64 2]) W := by kernel_rfl
theorem ix17 (W : World) : (Instr.index 123 (.agg #[.int .i64 3, .int .i64 2, .int .i64 3, .int .i64 3, .int .i64 11, .int .i64 7]) (.int .i64 1)).run Try.prog W = .ok (.agg #[.int .i64 3, .int .i64 3]) W := by kernel_rfl
theorem ix18 (W : World) : (Instr.index 123 (.agg #[.int .i64 3, .int .i64 2, .int .i64 3, .int .i64 3, .int .i64 11, .int .i64 7]) (.int .i64 2)).run Try.prog W = .ok (.agg #[.int .i64 11, .int .i64 7]) W := by kernel_rfl

def RunRes (c : Cx) (cl : List Int) (a : Nat) (l : List Int) (o : List Nat) (ov p q : Value) (w : World) (e : Ending) (w' : World) : Prop :=
  (∃ (x : Int) (t a' : Nat), runAt cl c.L a l = .ok (x, t, a') ∧ a < a' ∧ 1 ≤ t ∧ t ≤ 138 ∧ e = .returned (.tuple #[.int .i64 x, .int .i64 t, .int .i64 0]) ∧ StAt c w' ov p q a' o ∧ Fr c.B0 w w') ∨
  (∃ er : Nat, 0 < er ∧ er < 100 ∧ runAt cl c.L a l = .er er ∧ e = .returned (.tuple #[.int .i64 0, .int .i64 0, .int .i64 er]) ∧ Fr c.B0 w w')

theorem run_er {cl : List Int} {L : List Bool} {a er : Nat} {l : List Int} (h : signAt cl L a = .er er) : runAt cl L a l = .er er := by simp [runAt, h]
theorem run_len {cl : List Int} {L : List Bool} {a s a1 : Nat} {l : List Int} (h : signAt cl L a = .ok (s, a1)) (hs : s < 16) : runAt cl L a l = .ok (s, 1, a1) := by
  simp only [runAt, h]
  rw [if_pos hs]
theorem run_bits_er {cl : List Int} {L : List Bool} {a s a1 e : Nat} {l : List Int} (h : signAt cl L a = .ok (s, a1)) (hs : ¬ s < 16) (hb : bitsAt L a1 (runBits s) = .er e) : runAt cl L a l = .er e := by
  simp only [runAt, h]
  rw [if_neg hs, hb]
theorem run_noughts {cl : List Int} {L : List Bool} {a s a1 v : Nat} {l : List Int} (h : signAt cl L a = .ok (s, a1)) (hs : 16 < s) (hb : bitsAt L a1 (runBits s) = .ok v) : runAt cl L a l = .ok (0, runLeast s + v, a1 + runBits s) := by
  simp only [runAt, h]
  rw [if_neg (by omega), hb]
  simp only
  rw [if_pos hs]
theorem run_none {cl : List Int} {L : List Bool} {a a1 v : Nat} {l : List Int} (h : signAt cl L a = .ok (16, a1)) (hb : bitsAt L a1 2 = .ok v) (hl : l.length = 0) : runAt cl L a l = .er 2 := by
  simp only [runAt, h]
  rw [if_neg (by omega)]
  show (match bitsAt L a1 2 with | .er e => _ | .ok v => _) = _
  rw [hb]
  simp only
  rw [if_neg (by omega), if_pos (List.eq_nil_of_length_eq_zero hl)]
theorem run_last {cl : List Int} {L : List Bool} {a a1 v : Nat} {l : List Int} (h : signAt cl L a = .ok (16, a1)) (hb : bitsAt L a1 2 = .ok v) (hl : l.length ≠ 0) : runAt cl L a l = .ok (l.getD (l.length - 1) 0, 3 + v, a1 + 2) := by
  simp only [runAt, h]
  rw [if_neg (by omega)]
  show (match bitsAt L a1 2 with | .er e => _ | .ok v => _) = _
  rw [hb]
  simp only
  rw [if_neg (by omega), if_neg (by rintro rfl; simp at hl)]
  rfl

set_option maxHeartbeats 1000000 in
theorem run_16 {c : Cx} (hg : c.Good) (ov p q : Value) (a a1 : Nat) (o : List Nat) (lo g : Nat) (cl : List Int) (n : Nat) (hn : cl.length = n) (hl : n ≤ 1000) (hr : kindOf cl ≠ 0) (l : List Int) (lo2 : Nat) (A : Option Addr) (cp : Nat) (hsg : signAt cl c.L a = .ok (16, a1)) (hll : l.length ≤ 1000) (w : World) (hc : CodeOwn w lo g cl n) (hown : w.ownsRow lo2 3 1 (.slice A l.length cp) l.length (iv l)) (h : StAt c w ov p q a o) :
    Calls Try.prog 64 #[.pointer (some ⟨c.gs, 0, none⟩), .pointer (some ⟨g, 0, none⟩), .slice A l.length cp] w (RunRes c cl a l o ov p q w) := by
  have H := Lib.hid h
  have HC := Lib.hid hc; clear hc
  have HN := Lib.hid hn; clear hn
  have HR := Lib.hid hr; clear hr
  have HO := Lib.hid hown; clear hown
  have HSG := Lib.hid hsg; clear hsg
  have c0 := h.c0
  clear h
  unfold RunRes
  go_enter Try.func64, Try.ntmps64
  go_wp2_with fail
  refine (getSign2 hg ov p q a o lo g cl n HN.out hl HR.out _ HC.out H.out).mono ?_
  rintro e w1 ⟨j, er, a', rfl, hs1, hf1, hcase⟩
  have hc2 : er = 0 ∧ j = 16 ∧ a' = a1 ∧ a < a1 := by
    rcases hcase with ⟨h1, h2, _, h4, _⟩ | ⟨_, _, h3⟩
    · rw [HSG.out] at h2
      injection h2 with h2
      injection h2 with h2 h3
      exact ⟨h1, h2.symm, h3.symm, by omega⟩
    · rw [HSG.out] at h3; cases h3
  obtain ⟨rfl, rfl, rfl, haa⟩ := hc2
  clear hcase c0
  have S1 := Lib.hid hs1; have F1 := Lib.hid hf1; clear hs1 hf1
  have hB1 : Below w1.heap.size w1 (w1.alloc (.cells #[.int .i64 3, .int .i64 2] 122)) := (Below.refl _ _).alloc (Nat.le_refl _) _
  have S2 : Hid (StAt c (w1.alloc (.cells #[.int .i64 3, .int .i64 2] 122)) ov p q a' o) := Lib.hid (S1.out.below hB1)
  have WK := Lib.hid (Whole.new w1 122 #[.int .i64 3, .int .i64 2])
  have F1' : Hid (Fr c.B0 w (w1.alloc (.cells #[.int .i64 3, .int .i64 2] 122))) := Lib.hid (F1.out.trans (Fr.of_below hB1 _))
  have q0 := S2.out.c0
  have q1 : (w1.alloc (.cells #[.int .i64 3, .int .i64 2] 122)).cell? ⟨w1.heap.size, 1, none⟩ = some (.int .i64 2) := WK.out.cell 1
  clear hB1
  have hix := ix16
  go_wp2_with fail
  clear hix
  refine wp_region_held_drew (S := (fun W => W.cell? ⟨c.gs, 0, none⟩ = some (.pointer (some ⟨c.gr, 0, none⟩)) ∧ W.cell? ⟨w1.heap.size, 1, none⟩ = some (.int .i64 2))) (by kernel_rfl) ⟨q0, q1⟩ (fun hHeld => ?_)
  refine wpAnyH_take (i := 0) (oi := ⟨some 37, _, _, _, _, _⟩) (v := ?v0) rfl (by kernel_rfl) (by kernel_rfl) (by kernel_rfl) (fun _ _ _ h => h) (Or.inl ⟨by rfl, ?hy0⟩) (by assumption) ?rest0
  case hy0 => intro W hSW; go_simp; try rfl
  try simp only [Act.put, List.setIfInBounds_toArray, List.set_cons_zero, List.set_cons_succ]
  refine wpAnyH_take (i := 1) (oi := ⟨some 38, _, _, _, _, _⟩) (v := ?v1) rfl (by kernel_rfl) (by kernel_rfl) (by kernel_rfl) (fun _ _ _ h => h) (Or.inl ⟨by rfl, ?hy1⟩) (by assumption) ?rest1
  case hy1 => intro W hSW; go_simp; try rfl
  try simp only [Act.put, List.setIfInBounds_toArray, List.set_cons_zero, List.set_cons_succ]
  refine wpAnyH_take (i := 2) (oi := ⟨some 39, _, _, _, _, _⟩) (v := ?v2) rfl (by kernel_rfl) (by kernel_rfl) (by kernel_rfl) (fun _ _ _ h => h) (Or.inl ⟨by rfl, ?hy2⟩) (by assumption) ?rest2
  case hy2 => intro W hSW; go_simp; try rfl
  try simp only [Act.put, List.setIfInBounds_toArray, List.set_cons_zero, List.set_cons_succ]
  refine wpAnyH_take (i := 3) (oi := ⟨some 40, _, _, _, _, _⟩) (v := ?v3) rfl (by kernel_rfl) (by kernel_rfl) (by kernel_rfl) (fun _ _ _ h => h) (Or.inl ⟨by rfl, ?hy3⟩) (by assumption) ?rest3
  case hy3 => intro W hSW; have s1 := hSW.1; have s2 := hSW.2; go_simp; try rfl
  try simp only [Act.put, List.setIfInBounds_toArray, List.set_cons_zero, List.set_cons_succ]
  refine wpAnyH_take (i := 4) (oi := ⟨some 41, _, _, _, _, _⟩) (v := ?v4) rfl (by kernel_rfl) (by kernel_rfl) (by kernel_rfl) (fun _ _ _ h => h) (Or.inl ⟨by rfl, ?hy4⟩) (by assumption) ?rest4
  case hy4 => intro W hSW; go_simp; try rfl
  try simp only [Act.put, List.setIfInBounds_toArray, List.set_cons_zero, List.set_cons_succ]
  refine wpAnyH_take (i := 5) (oi := ⟨some 42, _, _, _, _, _⟩) (v := ?v5) rfl (by kernel_rfl) (by kernel_rfl) (by kernel_rfl) (fun _ _ _ h => h) (Or.inl ⟨by rfl, ?hy5⟩) (by assumption) ?rest5
  case hy5 => intro W hSW; have s1 := hSW.1; have s2 := hSW.2; go_simp; try rfl
  try simp only [Act.put, List.setIfInBounds_toArray, List.set_cons_zero, List.set_cons_succ]
  refine wpAnyH_ready (rs := [6]) (by kernel_rfl) (by simp) ?_
  refine AllReadyH.cons (o := ⟨some 43, _, _, _, _, _⟩) rfl (fun K hK => ?_) AllReadyH.nil
  go_simp
  refine (getBits2 hg ov p q a' o 2 (by omega) _ S2.out.drew).mono ?_
  rintro e w2 ⟨v, er, a2, rfl, hs2, hf2, hcase⟩
  have S3 := Lib.hid hs2; have F2 := Lib.hid (hf2.undrew); have CS := Lib.hid hcase; clear hs2 hf2 hcase
  refine hK.out _ _ ?_ (fun hHeld2 => ?_)
  · exact ⟨S3.out.c0, (F2.out.whole WK.out (by decide) (by decide) (by decide)).cell 1⟩
  clear hK K hHeld
  have hHeld := hHeld2; clear hHeld2
  try simp only [Act.put, List.setIfInBounds_toArray, List.set_cons_zero, List.set_cons_succ]
  refine wpAnyH_take (i := 7) (oi := ⟨some 36, _, _, _, _, _⟩) (v := ?v7) rfl (by kernel_rfl) (by kernel_rfl) (by kernel_rfl) (fun _ _ _ h => h) (Or.inl ⟨by rfl, ?hy7⟩) (by assumption) ?rest7
  case hy7 => intro W hSW; go_simp; try rfl
  try simp only [Act.put, List.setIfInBounds_toArray, List.set_cons_zero, List.set_cons_succ]
  refine wpAnyH_take (i := 8) (oi := ⟨some 44, _, _, _, _, _⟩) (v := ?v8) rfl (by kernel_rfl) (by kernel_rfl) (by kernel_rfl) (fun _ _ _ h => h) (Or.inl ⟨by rfl, ?hy8⟩) (by assumption) ?rest8
  case hy8 => intro W hSW; go_simp; try rfl
  try simp only [Act.put, List.setIfInBounds_toArray, List.set_cons_zero, List.set_cons_succ]
  refine wpAnyH_take (i := 10) (oi := ⟨some 12, _, _, _, _, _⟩) (v := ?v10) rfl (by kernel_rfl) (by kernel_rfl) (by kernel_rfl) (fun _ _ _ h => h) (Or.inl ⟨by rfl, ?hy10⟩) (by assumption) ?rest10
  case hy10 => intro W hSW; go_simp; try rfl
  try simp only [Act.put, List.setIfInBounds_toArray, List.set_cons_zero, List.set_cons_succ]
  refine wpAnyH_take (i := 9) (oi := ⟨some 45, _, _, _, _, _⟩) (v := ?v9) rfl (by kernel_rfl) (by kernel_rfl) (by kernel_rfl) (fun _ _ _ h => h) (Or.inl ⟨by rfl, ?hy9⟩) (by assumption) ?rest9
  case hy9 => intro W hSW; go_simp; try rfl
  try simp only [Act.put, List.setIfInBounds_toArray, List.set_cons_zero, List.set_cons_succ]
  refine wpAnyH_take (i := 11) (oi := ⟨some 10, _, _, _, _, _⟩) (v := ?v11) rfl (by kernel_rfl) (by kernel_rfl) (by kernel_rfl) (fun _ _ _ h => h) (Or.inl ⟨by rfl, ?hy11⟩) (by assumption) ?rest11
  case hy11 => intro W hSW; go_simp; try rfl
  try simp only [Act.put, List.setIfInBounds_toArray, List.set_cons_zero, List.set_cons_succ]
  refine wpAnyH_done (by kernel_rfl) ?_ _
  have F3 := Lib.hid (F1'.out.trans F2.out)
  have WK2 := F2.out.whole WK.out (by decide) (by decide) (by decide)
  have k0 : w2.cell? ⟨w1.heap.size, 0, none⟩ = some (.int .i64 3) := WK2.cell 0
  have HO2 := Lib.hid (F3.out.own HO.out (by decide) (by decide) (by decide))
  clear WK2 F2 q0 q1
  rcases CS.out with ⟨rfl, hb, hv, rfl⟩ | ⟨rfl, hb⟩
  · have HB := Lib.hid hb; clear hb CS
    have hv2 : v < 4 := hv
    clear hv
    have wv : IntKind.i64.wrap (v : Int) = v := IntWalk.i64_in _ (by omega)
    by_cases hz : l.length = 0
    · have HZ := Lib.hid hz
      rw [hz]
      go_wp2_with fail
      go_ret3
      exact .inr ⟨2, by omega, by omega, run_none HSG.out HB.out HZ.out, rfl, F3.out⟩
    · obtain ⟨m, hm⟩ : ∃ m, l.length = m := ⟨_, rfl⟩
      obtain ⟨y, hy⟩ : ∃ y, l.getD (m - 1) 0 = y := ⟨_, rfl⟩
      have hA := own_pos HO2.out (by omega)
      obtain ⟨r, cap, hA, _, _⟩ := hA
      injection hA with hA1 _ hA3
      subst hA1 hA3
      have hy2 : (iv l)[m - 1]? = some (.int .i64 y) := by
        have : m - 1 < l.length := by omega
        rw [iv_get? this]
        simp [List.getD, this] at hy
        rw [hy]
      have cy := (own_cell HO2.out hy2).1
      obtain ⟨k, hk⟩ : ∃ k, m - 1 = k := ⟨_, rfl⟩
      rw [hk] at cy hy
      have HY : Hid (l.getD (l.length - 1) 0 = y) := Lib.hid (by rw [hm, hk, hy])
      have HM := Lib.hid hm
      have wk : (m : Int) - 1 = k := by omega
      have wk2 : IntKind.i64.wrap (k : Int) = k := IntWalk.i64_in _ (by omega)
      have k00 : (0 : Int) ≤ k := by omega
      have k01 : (k : Int) < m := by omega
      have hz2 : ¬ l.length = 0 := hz
      have m0 : ((m : Int) == 0) = false := by simp; omega
      have m1 : (m == 0) = false := by simp; omega
      have HZ := Lib.hid hz2
      rw [hm]
      clear hz hz2 hm hk hy hy2
      go_wp2_with fail
      go_ret3
      exact .inl ⟨y, 3 + v, a' + 2, by rw [run_last HSG.out HB.out HZ.out, HY.out], by omega, by omega, by omega, by simp, S3.out, F3.out⟩
  · have HB := Lib.hid hb; clear hb CS
    go_wp2_with fail
    go_ret3
    exact .inr ⟨6, by omega, by omega, run_bits_er HSG.out (by omega) HB.out, rfl, F3.out⟩

set_option maxHeartbeats 1000000 in
theorem run_17 {c : Cx} (hg : c.Good) (ov p q : Value) (a a1 : Nat) (o : List Nat) (lo g : Nat) (cl : List Int) (n : Nat) (hn : cl.length = n) (hl : n ≤ 1000) (hr : kindOf cl ≠ 0) (l : List Int) (lo2 : Nat) (A : Option Addr) (cp : Nat) (hsg : signAt cl c.L a = .ok (17, a1)) (_hll : l.length ≤ 1000) (w : World) (hc : CodeOwn w lo g cl n) (hown : w.ownsRow lo2 3 1 (.slice A l.length cp) l.length (iv l)) (h : StAt c w ov p q a o) :
    Calls Try.prog 64 #[.pointer (some ⟨c.gs, 0, none⟩), .pointer (some ⟨g, 0, none⟩), .slice A l.length cp] w (RunRes c cl a l o ov p q w) := by
  have H := Lib.hid h
  have HC := Lib.hid hc; clear hc
  have HN := Lib.hid hn; clear hn
  have HR := Lib.hid hr; clear hr
  have HO := Lib.hid hown; clear hown
  have HSG := Lib.hid hsg; clear hsg
  have c0 := h.c0
  clear h
  unfold RunRes
  go_enter Try.func64, Try.ntmps64
  go_wp2_with fail
  refine (getSign2 hg ov p q a o lo g cl n HN.out hl HR.out _ HC.out H.out).mono ?_
  rintro e w1 ⟨j, er, a', rfl, hs1, hf1, hcase⟩
  have hc2 : er = 0 ∧ j = 17 ∧ a' = a1 ∧ a < a1 := by
    rcases hcase with ⟨h1, h2, _, h4, _⟩ | ⟨_, _, h3⟩
    · rw [HSG.out] at h2
      injection h2 with h2
      injection h2 with h2 h3
      exact ⟨h1, h2.symm, h3.symm, by omega⟩
    · rw [HSG.out] at h3; cases h3
  obtain ⟨rfl, rfl, rfl, haa⟩ := hc2
  clear hcase c0
  have S1 := Lib.hid hs1; have F1 := Lib.hid hf1; clear hs1 hf1
  have hB1 : Below w1.heap.size w1 (w1.alloc (.cells #[.int .i64 3, .int .i64 3] 122)) := (Below.refl _ _).alloc (Nat.le_refl _) _
  have S2 : Hid (StAt c (w1.alloc (.cells #[.int .i64 3, .int .i64 3] 122)) ov p q a' o) := Lib.hid (S1.out.below hB1)
  have WK := Lib.hid (Whole.new w1 122 #[.int .i64 3, .int .i64 3])
  have F1' : Hid (Fr c.B0 w (w1.alloc (.cells #[.int .i64 3, .int .i64 3] 122))) := Lib.hid (F1.out.trans (Fr.of_below hB1 _))
  have q0 := S2.out.c0
  have q1 : (w1.alloc (.cells #[.int .i64 3, .int .i64 3] 122)).cell? ⟨w1.heap.size, 1, none⟩ = some (.int .i64 3) := WK.out.cell 1
  clear hB1
  have hix := ix17
  go_wp2_with fail
  clear hix
  refine wp_region_held_drew (S := (fun W => W.cell? ⟨c.gs, 0, none⟩ = some (.pointer (some ⟨c.gr, 0, none⟩)) ∧ W.cell? ⟨w1.heap.size, 1, none⟩ = some (.int .i64 3))) (by kernel_rfl) ⟨q0, q1⟩ (fun hHeld => ?_)
  refine wpAnyH_take (i := 0) (oi := ⟨some 37, _, _, _, _, _⟩) (v := ?v0) rfl (by kernel_rfl) (by kernel_rfl) (by kernel_rfl) (fun _ _ _ h => h) (Or.inl ⟨by rfl, ?hy0⟩) (by assumption) ?rest0
  case hy0 => intro W hSW; go_simp; try rfl
  try simp only [Act.put, List.setIfInBounds_toArray, List.set_cons_zero, List.set_cons_succ]
  refine wpAnyH_take (i := 1) (oi := ⟨some 38, _, _, _, _, _⟩) (v := ?v1) rfl (by kernel_rfl) (by kernel_rfl) (by kernel_rfl) (fun _ _ _ h => h) (Or.inl ⟨by rfl, ?hy1⟩) (by assumption) ?rest1
  case hy1 => intro W hSW; go_simp; try rfl
  try simp only [Act.put, List.setIfInBounds_toArray, List.set_cons_zero, List.set_cons_succ]
  refine wpAnyH_take (i := 2) (oi := ⟨some 39, _, _, _, _, _⟩) (v := ?v2) rfl (by kernel_rfl) (by kernel_rfl) (by kernel_rfl) (fun _ _ _ h => h) (Or.inl ⟨by rfl, ?hy2⟩) (by assumption) ?rest2
  case hy2 => intro W hSW; go_simp; try rfl
  try simp only [Act.put, List.setIfInBounds_toArray, List.set_cons_zero, List.set_cons_succ]
  refine wpAnyH_take (i := 3) (oi := ⟨some 40, _, _, _, _, _⟩) (v := ?v3) rfl (by kernel_rfl) (by kernel_rfl) (by kernel_rfl) (fun _ _ _ h => h) (Or.inl ⟨by rfl, ?hy3⟩) (by assumption) ?rest3
  case hy3 => intro W hSW; have s1 := hSW.1; have s2 := hSW.2; go_simp; try rfl
  try simp only [Act.put, List.setIfInBounds_toArray, List.set_cons_zero, List.set_cons_succ]
  refine wpAnyH_take (i := 4) (oi := ⟨some 41, _, _, _, _, _⟩) (v := ?v4) rfl (by kernel_rfl) (by kernel_rfl) (by kernel_rfl) (fun _ _ _ h => h) (Or.inl ⟨by rfl, ?hy4⟩) (by assumption) ?rest4
  case hy4 => intro W hSW; go_simp; try rfl
  try simp only [Act.put, List.setIfInBounds_toArray, List.set_cons_zero, List.set_cons_succ]
  refine wpAnyH_take (i := 5) (oi := ⟨some 42, _, _, _, _, _⟩) (v := ?v5) rfl (by kernel_rfl) (by kernel_rfl) (by kernel_rfl) (fun _ _ _ h => h) (Or.inl ⟨by rfl, ?hy5⟩) (by assumption) ?rest5
  case hy5 => intro W hSW; have s1 := hSW.1; have s2 := hSW.2; go_simp; try rfl
  try simp only [Act.put, List.setIfInBounds_toArray, List.set_cons_zero, List.set_cons_succ]
  refine wpAnyH_ready (rs := [6]) (by kernel_rfl) (by simp) ?_
  refine AllReadyH.cons (o := ⟨some 43, _, _, _, _, _⟩) rfl (fun K hK => ?_) AllReadyH.nil
  go_simp
  refine (getBits2 hg ov p q a' o 3 (by omega) _ S2.out.drew).mono ?_
  rintro e w2 ⟨v, er, a2, rfl, hs2, hf2, hcase⟩
  have S3 := Lib.hid hs2; have F2 := Lib.hid (hf2.undrew); have CS := Lib.hid hcase; clear hs2 hf2 hcase
  refine hK.out _ _ ?_ (fun hHeld2 => ?_)
  · exact ⟨S3.out.c0, (F2.out.whole WK.out (by decide) (by decide) (by decide)).cell 1⟩
  clear hK K hHeld
  have hHeld := hHeld2; clear hHeld2
  try simp only [Act.put, List.setIfInBounds_toArray, List.set_cons_zero, List.set_cons_succ]
  refine wpAnyH_take (i := 7) (oi := ⟨some 36, _, _, _, _, _⟩) (v := ?v7) rfl (by kernel_rfl) (by kernel_rfl) (by kernel_rfl) (fun _ _ _ h => h) (Or.inl ⟨by rfl, ?hy7⟩) (by assumption) ?rest7
  case hy7 => intro W hSW; go_simp; try rfl
  try simp only [Act.put, List.setIfInBounds_toArray, List.set_cons_zero, List.set_cons_succ]
  refine wpAnyH_take (i := 8) (oi := ⟨some 44, _, _, _, _, _⟩) (v := ?v8) rfl (by kernel_rfl) (by kernel_rfl) (by kernel_rfl) (fun _ _ _ h => h) (Or.inl ⟨by rfl, ?hy8⟩) (by assumption) ?rest8
  case hy8 => intro W hSW; go_simp; try rfl
  try simp only [Act.put, List.setIfInBounds_toArray, List.set_cons_zero, List.set_cons_succ]
  refine wpAnyH_take (i := 10) (oi := ⟨some 12, _, _, _, _, _⟩) (v := ?v10) rfl (by kernel_rfl) (by kernel_rfl) (by kernel_rfl) (fun _ _ _ h => h) (Or.inl ⟨by rfl, ?hy10⟩) (by assumption) ?rest10
  case hy10 => intro W hSW; go_simp; try rfl
  try simp only [Act.put, List.setIfInBounds_toArray, List.set_cons_zero, List.set_cons_succ]
  refine wpAnyH_take (i := 9) (oi := ⟨some 45, _, _, _, _, _⟩) (v := ?v9) rfl (by kernel_rfl) (by kernel_rfl) (by kernel_rfl) (fun _ _ _ h => h) (Or.inl ⟨by rfl, ?hy9⟩) (by assumption) ?rest9
  case hy9 => intro W hSW; go_simp; try rfl
  try simp only [Act.put, List.setIfInBounds_toArray, List.set_cons_zero, List.set_cons_succ]
  refine wpAnyH_take (i := 11) (oi := ⟨some 10, _, _, _, _, _⟩) (v := ?v11) rfl (by kernel_rfl) (by kernel_rfl) (by kernel_rfl) (fun _ _ _ h => h) (Or.inl ⟨by rfl, ?hy11⟩) (by assumption) ?rest11
  case hy11 => intro W hSW; go_simp; try rfl
  try simp only [Act.put, List.setIfInBounds_toArray, List.set_cons_zero, List.set_cons_succ]
  refine wpAnyH_done (by kernel_rfl) ?_ _
  have F3 := Lib.hid (F1'.out.trans F2.out)
  have WK2 := F2.out.whole WK.out (by decide) (by decide) (by decide)
  have k0 : w2.cell? ⟨w1.heap.size, 0, none⟩ = some (.int .i64 3) := WK2.cell 0
  have HO2 := Lib.hid (F3.out.own HO.out (by decide) (by decide) (by decide))
  clear WK2 F2 q0 q1
  rcases CS.out with ⟨rfl, hb, hv, rfl⟩ | ⟨rfl, hb⟩
  · have HB := Lib.hid hb; clear hb CS
    have hv2 : v < 8 := hv
    clear hv
    have wv : IntKind.i64.wrap (v : Int) = v := IntWalk.i64_in _ (by omega)
    go_wp2_with fail
    go_ret3
    exact .inl ⟨0, 3 + v, a' + 3, run_noughts HSG.out (by omega) HB.out, by omega, by omega, by omega, by simp, S3.out, F3.out⟩
  · have HB := Lib.hid hb; clear hb CS
    go_wp2_with fail
    go_ret3
    exact .inr ⟨6, by omega, by omega, run_bits_er HSG.out (by omega) HB.out, rfl, F3.out⟩

set_option maxHeartbeats 1000000 in
theorem run_18 {c : Cx} (hg : c.Good) (ov p q : Value) (a a1 : Nat) (o : List Nat) (lo g : Nat) (cl : List Int) (n : Nat) (hn : cl.length = n) (hl : n ≤ 1000) (hr : kindOf cl ≠ 0) (l : List Int) (lo2 : Nat) (A : Option Addr) (cp : Nat) (hsg : signAt cl c.L a = .ok (18, a1)) (_hll : l.length ≤ 1000) (w : World) (hc : CodeOwn w lo g cl n) (hown : w.ownsRow lo2 3 1 (.slice A l.length cp) l.length (iv l)) (h : StAt c w ov p q a o) :
    Calls Try.prog 64 #[.pointer (some ⟨c.gs, 0, none⟩), .pointer (some ⟨g, 0, none⟩), .slice A l.length cp] w (RunRes c cl a l o ov p q w) := by
  have H := Lib.hid h
  have HC := Lib.hid hc; clear hc
  have HN := Lib.hid hn; clear hn
  have HR := Lib.hid hr; clear hr
  have HO := Lib.hid hown; clear hown
  have HSG := Lib.hid hsg; clear hsg
  have c0 := h.c0
  clear h
  unfold RunRes
  go_enter Try.func64, Try.ntmps64
  go_wp2_with fail
  refine (getSign2 hg ov p q a o lo g cl n HN.out hl HR.out _ HC.out H.out).mono ?_
  rintro e w1 ⟨j, er, a', rfl, hs1, hf1, hcase⟩
  have hc2 : er = 0 ∧ j = 18 ∧ a' = a1 ∧ a < a1 := by
    rcases hcase with ⟨h1, h2, _, h4, _⟩ | ⟨_, _, h3⟩
    · rw [HSG.out] at h2
      injection h2 with h2
      injection h2 with h2 h3
      exact ⟨h1, h2.symm, h3.symm, by omega⟩
    · rw [HSG.out] at h3; cases h3
  obtain ⟨rfl, rfl, rfl, haa⟩ := hc2
  clear hcase c0
  have S1 := Lib.hid hs1; have F1 := Lib.hid hf1; clear hs1 hf1
  have hB1 : Below w1.heap.size w1 (w1.alloc (.cells #[.int .i64 11, .int .i64 7] 122)) := (Below.refl _ _).alloc (Nat.le_refl _) _
  have S2 : Hid (StAt c (w1.alloc (.cells #[.int .i64 11, .int .i64 7] 122)) ov p q a' o) := Lib.hid (S1.out.below hB1)
  have WK := Lib.hid (Whole.new w1 122 #[.int .i64 11, .int .i64 7])
  have F1' : Hid (Fr c.B0 w (w1.alloc (.cells #[.int .i64 11, .int .i64 7] 122))) := Lib.hid (F1.out.trans (Fr.of_below hB1 _))
  have q0 := S2.out.c0
  have q1 : (w1.alloc (.cells #[.int .i64 11, .int .i64 7] 122)).cell? ⟨w1.heap.size, 1, none⟩ = some (.int .i64 7) := WK.out.cell 1
  clear hB1
  have hix := ix18
  go_wp2_with fail
  clear hix
  refine wp_region_held_drew (S := (fun W => W.cell? ⟨c.gs, 0, none⟩ = some (.pointer (some ⟨c.gr, 0, none⟩)) ∧ W.cell? ⟨w1.heap.size, 1, none⟩ = some (.int .i64 7))) (by kernel_rfl) ⟨q0, q1⟩ (fun hHeld => ?_)
  refine wpAnyH_take (i := 0) (oi := ⟨some 37, _, _, _, _, _⟩) (v := ?v0) rfl (by kernel_rfl) (by kernel_rfl) (by kernel_rfl) (fun _ _ _ h => h) (Or.inl ⟨by rfl, ?hy0⟩) (by assumption) ?rest0
  case hy0 => intro W hSW; go_simp; try rfl
  try simp only [Act.put, List.setIfInBounds_toArray, List.set_cons_zero, List.set_cons_succ]
  refine wpAnyH_take (i := 1) (oi := ⟨some 38, _, _, _, _, _⟩) (v := ?v1) rfl (by kernel_rfl) (by kernel_rfl) (by kernel_rfl) (fun _ _ _ h => h) (Or.inl ⟨by rfl, ?hy1⟩) (by assumption) ?rest1
  case hy1 => intro W hSW; go_simp; try rfl
  try simp only [Act.put, List.setIfInBounds_toArray, List.set_cons_zero, List.set_cons_succ]
  refine wpAnyH_take (i := 2) (oi := ⟨some 39, _, _, _, _, _⟩) (v := ?v2) rfl (by kernel_rfl) (by kernel_rfl) (by kernel_rfl) (fun _ _ _ h => h) (Or.inl ⟨by rfl, ?hy2⟩) (by assumption) ?rest2
  case hy2 => intro W hSW; go_simp; try rfl
  try simp only [Act.put, List.setIfInBounds_toArray, List.set_cons_zero, List.set_cons_succ]
  refine wpAnyH_take (i := 3) (oi := ⟨some 40, _, _, _, _, _⟩) (v := ?v3) rfl (by kernel_rfl) (by kernel_rfl) (by kernel_rfl) (fun _ _ _ h => h) (Or.inl ⟨by rfl, ?hy3⟩) (by assumption) ?rest3
  case hy3 => intro W hSW; have s1 := hSW.1; have s2 := hSW.2; go_simp; try rfl
  try simp only [Act.put, List.setIfInBounds_toArray, List.set_cons_zero, List.set_cons_succ]
  refine wpAnyH_take (i := 4) (oi := ⟨some 41, _, _, _, _, _⟩) (v := ?v4) rfl (by kernel_rfl) (by kernel_rfl) (by kernel_rfl) (fun _ _ _ h => h) (Or.inl ⟨by rfl, ?hy4⟩) (by assumption) ?rest4
  case hy4 => intro W hSW; go_simp; try rfl
  try simp only [Act.put, List.setIfInBounds_toArray, List.set_cons_zero, List.set_cons_succ]
  refine wpAnyH_take (i := 5) (oi := ⟨some 42, _, _, _, _, _⟩) (v := ?v5) rfl (by kernel_rfl) (by kernel_rfl) (by kernel_rfl) (fun _ _ _ h => h) (Or.inl ⟨by rfl, ?hy5⟩) (by assumption) ?rest5
  case hy5 => intro W hSW; have s1 := hSW.1; have s2 := hSW.2; go_simp; try rfl
  try simp only [Act.put, List.setIfInBounds_toArray, List.set_cons_zero, List.set_cons_succ]
  refine wpAnyH_ready (rs := [6]) (by kernel_rfl) (by simp) ?_
  refine AllReadyH.cons (o := ⟨some 43, _, _, _, _, _⟩) rfl (fun K hK => ?_) AllReadyH.nil
  go_simp
  refine (getBits2 hg ov p q a' o 7 (by omega) _ S2.out.drew).mono ?_
  rintro e w2 ⟨v, er, a2, rfl, hs2, hf2, hcase⟩
  have S3 := Lib.hid hs2; have F2 := Lib.hid (hf2.undrew); have CS := Lib.hid hcase; clear hs2 hf2 hcase
  refine hK.out _ _ ?_ (fun hHeld2 => ?_)
  · exact ⟨S3.out.c0, (F2.out.whole WK.out (by decide) (by decide) (by decide)).cell 1⟩
  clear hK K hHeld
  have hHeld := hHeld2; clear hHeld2
  try simp only [Act.put, List.setIfInBounds_toArray, List.set_cons_zero, List.set_cons_succ]
  refine wpAnyH_take (i := 7) (oi := ⟨some 36, _, _, _, _, _⟩) (v := ?v7) rfl (by kernel_rfl) (by kernel_rfl) (by kernel_rfl) (fun _ _ _ h => h) (Or.inl ⟨by rfl, ?hy7⟩) (by assumption) ?rest7
  case hy7 => intro W hSW; go_simp; try rfl
  try simp only [Act.put, List.setIfInBounds_toArray, List.set_cons_zero, List.set_cons_succ]
  refine wpAnyH_take (i := 8) (oi := ⟨some 44, _, _, _, _, _⟩) (v := ?v8) rfl (by kernel_rfl) (by kernel_rfl) (by kernel_rfl) (fun _ _ _ h => h) (Or.inl ⟨by rfl, ?hy8⟩) (by assumption) ?rest8
  case hy8 => intro W hSW; go_simp; try rfl
  try simp only [Act.put, List.setIfInBounds_toArray, List.set_cons_zero, List.set_cons_succ]
  refine wpAnyH_take (i := 10) (oi := ⟨some 12, _, _, _, _, _⟩) (v := ?v10) rfl (by kernel_rfl) (by kernel_rfl) (by kernel_rfl) (fun _ _ _ h => h) (Or.inl ⟨by rfl, ?hy10⟩) (by assumption) ?rest10
  case hy10 => intro W hSW; go_simp; try rfl
  try simp only [Act.put, List.setIfInBounds_toArray, List.set_cons_zero, List.set_cons_succ]
  refine wpAnyH_take (i := 9) (oi := ⟨some 45, _, _, _, _, _⟩) (v := ?v9) rfl (by kernel_rfl) (by kernel_rfl) (by kernel_rfl) (fun _ _ _ h => h) (Or.inl ⟨by rfl, ?hy9⟩) (by assumption) ?rest9
  case hy9 => intro W hSW; go_simp; try rfl
  try simp only [Act.put, List.setIfInBounds_toArray, List.set_cons_zero, List.set_cons_succ]
  refine wpAnyH_take (i := 11) (oi := ⟨some 10, _, _, _, _, _⟩) (v := ?v11) rfl (by kernel_rfl) (by kernel_rfl) (by kernel_rfl) (fun _ _ _ h => h) (Or.inl ⟨by rfl, ?hy11⟩) (by assumption) ?rest11
  case hy11 => intro W hSW; go_simp; try rfl
  try simp only [Act.put, List.setIfInBounds_toArray, List.set_cons_zero, List.set_cons_succ]
  refine wpAnyH_done (by kernel_rfl) ?_ _
  have F3 := Lib.hid (F1'.out.trans F2.out)
  have WK2 := F2.out.whole WK.out (by decide) (by decide) (by decide)
  have k0 : w2.cell? ⟨w1.heap.size, 0, none⟩ = some (.int .i64 11) := WK2.cell 0
  have HO2 := Lib.hid (F3.out.own HO.out (by decide) (by decide) (by decide))
  clear WK2 F2 q0 q1
  rcases CS.out with ⟨rfl, hb, hv, rfl⟩ | ⟨rfl, hb⟩
  · have HB := Lib.hid hb; clear hb CS
    have hv2 : v < 128 := hv
    clear hv
    have wv : IntKind.i64.wrap (v : Int) = v := IntWalk.i64_in _ (by omega)
    go_wp2_with fail
    go_ret3
    exact .inl ⟨0, 11 + v, a' + 7, run_noughts HSG.out (by omega) HB.out, by omega, by omega, by omega, by simp, S3.out, F3.out⟩
  · have HB := Lib.hid hb; clear hb CS
    go_wp2_with fail
    go_ret3
    exact .inr ⟨6, by omega, by omega, run_bits_er HSG.out (by omega) HB.out, rfl, F3.out⟩

set_option maxHeartbeats 1000000 in
theorem run_any {c : Cx} (hg : c.Good) (ov p q : Value) (a : Nat) (o : List Nat) (lo g : Nat) (cl : List Int) (hn : cl.length = 19) (hr : kindOf cl ≠ 0) (l : List Int) (lo2 : Nat) (A : Option Addr) (cp : Nat) (hll : l.length ≤ 1000) (w : World) (hc : CodeOwn w lo g cl 19) (hown : w.ownsRow lo2 3 1 (.slice A l.length cp) l.length (iv l)) (h : StAt c w ov p q a o) :
    Calls Try.prog 64 #[.pointer (some ⟨c.gs, 0, none⟩), .pointer (some ⟨g, 0, none⟩), .slice A l.length cp] w (RunRes c cl a l o ov p q w) := by
  by_cases hb : ∃ s a1, signAt cl c.L a = .ok (s, a1) ∧ 16 ≤ s ∧ s < 19
  · obtain ⟨s, a1, hs, h1, h2⟩ := hb
    have h3 : s = 16 ∨ s = 17 ∨ s = 18 := by omega
    rcases h3 with rfl | rfl | rfl
    · exact run_16 hg ov p q a a1 o lo g cl 19 hn (by omega) hr l lo2 A cp hs hll w hc hown h
    · exact run_17 hg ov p q a a1 o lo g cl 19 hn (by omega) hr l lo2 A cp hs hll w hc hown h
    · exact run_18 hg ov p q a a1 o lo g cl 19 hn (by omega) hr l lo2 A cp hs hll w hc hown h
  · have H := Lib.hid h
    have HC := Lib.hid hc; clear hc
    have HN := Lib.hid hn; clear hn
    have HR := Lib.hid hr; clear hr
    have HNB := Lib.hid hb; clear hb hown
    have c0 := h.c0
    clear h
    unfold RunRes
    go_enter Try.func64, Try.ntmps64
    go_wp2_with fail
    refine (getSign_any hg ov p q a o lo g cl 19 HN.out (by omega) HR.out _ HC.out H.out).mono ?_
    rintro e w1 (⟨j, a', hj, hj1, ha1, ha2, rfl, hs1, hf1⟩ | ⟨er, e0, e1, hj, rfl, hs1, hf1⟩)
    · have hj16 : j < 16 := by
        rcases Nat.lt_or_ge j 16 with h | h
        · exact h
        · exact absurd ⟨j, a', hj, h, hj1⟩ HNB.out
      have S1 := Lib.hid hs1; have F1 := Lib.hid hf1; have HJ := Lib.hid hj; clear hs1 hf1 hj c0
      go_wp2_with fail
      go_ret3
      exact .inl ⟨j, 1, a', run_len HJ.out hj16, ha1, by omega, by omega, rfl, S1.out, F1.out⟩
    · have F1 := Lib.hid hf1; have HJ := Lib.hid hj; clear hs1 hf1 hj c0
      have e2 : ((er : Int) == 0) = false := by simp; omega
      have e3 : ¬ (er : Int) = 0 := by omega
      have e4 : (er == 0) = false := by simp; omega
      go_wp2_with fail
      go_ret3
      exact .inr ⟨er, e0, e1, run_er HJ.out, rfl, F1.out⟩
end Go.Proofs.Ytobchlakjgeadaa
