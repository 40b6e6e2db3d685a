/-
  Contracts of block and Inflate. Conditions: the bytes are read as told (Seen), at most a hundred thousand.
-/
import Derived.Test.YtobchlakjgeadaaTC
namespace Go.Proofs.Ytobchlakjgeadaa
open Go.RowKit
set_option maxRecDepth 100000

theorem head_nums (v : Nat) (hv : v < 2 ^ 3) : ∃ k l : Nat, v / 2 = k ∧ v % 2 = l ∧ k < 4 ∧ l < 2 ∧ bits BinOp.and IntKind.u32 (v : Int) 1 = l ∧ (v : Int) / 2 = k := by
  have hv3 : v < 8 := hv
  refine ⟨_, _, rfl, rfl, by omega, Nat.mod_lt _ (by omega), ?_, by omega⟩
  rw [show (1 : Int) = ((1 : Nat) : Int) from rfl, u32_and_nat _ _ (by omega) (by omega)]
  congr 1
  exact Nat.and_two_pow_sub_one_eq_mod v 1

/-- What block makes. -/
def BlkRes (c : Cx) (a : Nat) (o : List Nat) (w : World) (e : Ending) (w' : World) : Prop :=
  (∃ (lb : Bool) (a' : Nat) (o' : List Nat), blockStep c.L c.most (a, o) = (if lb then .fin (a', o') else .go (a', o')) ∧ a < a' ∧ e = .returned (.tuple #[.bool lb, .int .i64 0]) ∧ (∃ ov p q, StAt c w' ov p q a' o') ∧ Fr c.B0 w w') ∨
  (∃ (er : Nat) (lb : Bool), 0 < er ∧ er < 100 ∧ blockStep c.L c.most (a, o) = .er er ∧ e = .returned (.tuple #[.bool lb, .int .i64 er]) ∧ Fr c.B0 w w')

theorem block_er {L : List Bool} {most a e : Nat} {o : List Nat} (h : bitsAt L a 3 = .er e) : blockStep L most (a, o) = .er e := by
  simp [blockStep, h]
theorem block_ok {L : List Bool} {most a v k l : Nat} {o : List Nat} (h : bitsAt L a 3 = .ok v) (hk : v / 2 = k) (hl : v % 2 = l) :
    blockStep L most (a, o) = match kindAt L most k (a + 3) o with
      | .er e => .er e
      | .ok t => if l = 1 then .fin t else .go t := by
  subst hk hl
  simp only [blockStep, h]
  cases kindAt L most (v / 2) (a + 3) o <;> rfl

/-- A block's end, by what its kind made of it. -/
theorem blk_of {c : Cx} {a v k l : Nat} {o : List Nat} {w w1 w' : World} {e : Ending} {R : Rs (Nat × List Nat)} (hb : bitsAt c.L a 3 = .ok v) (hk : v / 2 = k) (hl : v % 2 = l) (hR : kindAt c.L c.most k (a + 3) o = R) (hf : Fr c.B0 w w1) (h : BlockRes c R (a + 3) w1 e w') :
    ∃ er : Nat, e = .returned (.int .i64 er) ∧ BlkRes c a o w (.returned (.tuple #[.bool (l == 1), .int .i64 er])) w' := by
  have hB := block_ok (most := c.most) (o := o) hb hk hl
  rw [hR] at hB
  rcases h with ⟨a', o', rfl, h2, rfl, h4, h5⟩ | ⟨er, h1, h2, rfl, rfl, h5⟩
  · refine ⟨0, rfl, .inl ⟨l == 1, a', o', ?_, by omega, rfl, h4, hf.trans h5⟩⟩
    rw [hB]
    by_cases h : l = 1
    · subst h; rfl
    · simp only; rw [if_neg h, if_neg (by simpa using h)]
  · exact ⟨er, rfl, .inr ⟨er, _, h1, h2, hB, rfl, hf.trans h5⟩⟩

set_option maxHeartbeats 1000000 in
theorem block_any {c : Cx} (hg : c.Good) (ov p q : Value) (a : Nat) (o : List Nat) (w : World) (h : StAt c w ov p q a o) :
    Calls Try.prog 19 #[.pointer (some ⟨c.gs, 0, none⟩)] w (BlkRes c a o w) := by
  have H := Lib.hid h
  have c0 := h.c0
  clear h
  go_enter Try.func19, Try.ntmps19
  go_wp2_with fail
  refine (getBits_any hg ov p q a o 3 (by omega) _ H.out).mono ?_
  rintro e w1 (⟨v, hv, hv2, rfl, hs1, hf1⟩ | ⟨hv, rfl, hs1, hf1⟩)
  · obtain ⟨k, l, e1, e2, l1, l2, b1, b2⟩ := head_nums v hv2
    have E1 := Lib.hid e1; have E2 := Lib.hid e2
    have S1 := Lib.hid hs1; have F1 := Lib.hid hf1; have HV := Lib.hid hv
    clear hs1 hf1 hv hv2 c0 e1 e2
    obtain ⟨lb, hlb⟩ : ∃ lb, (l == 1) = lb := ⟨_, rfl⟩
    have hlb2 : ((l : Int) == 1) = lb := by
      rw [← hlb, Bool.eq_iff_iff]; simp; omega
    have HLB := Lib.hid hlb
    have hk4 : k = 0 ∨ k = 1 ∨ k = 2 ∨ k = 3 := by omega
    rcases hk4 with rfl | rfl | rfl | rfl
    · have CB := Lib.hid (storedBlock_any hg ov p q (a + 3) o w1 S1.out)
      go_wp2_with fail
      refine CB.out.mono ?_
      rintro e w2 hres
      obtain ⟨er, rfl, hres2⟩ := blk_of HV.out E1.out E2.out (R := storedAt c.L c.most (a + 3) o) rfl F1.out hres
      have HRes := Lib.hid hres2
      clear hres hres2
      rw [HLB.out] at HRes
      go_wp2_with fail
      go_ret2
      exact HRes.out
    · have CB := Lib.hid (fixedBlock_any hg ov p q (a + 3) o w1 S1.out)
      go_wp2_with fail
      refine CB.out.mono ?_
      rintro e w2 hres
      obtain ⟨er, rfl, hres2⟩ := blk_of HV.out E1.out E2.out (R := runF (signStep fixL fixD c.L c.most) (a + 3, o)) rfl F1.out hres
      have HRes := Lib.hid hres2
      clear hres hres2
      rw [HLB.out] at HRes
      go_wp2_with fail
      go_ret2
      exact HRes.out
    · have CB := Lib.hid (dynamicBlock_any hg ov p q (a + 3) o w1 S1.out)
      go_wp2_with fail
      refine CB.out.mono ?_
      rintro e w2 hres
      obtain ⟨er, rfl, hres2⟩ := blk_of HV.out E1.out E2.out (R := dynR c.L c.most (a + 3) o) rfl F1.out hres
      have HRes := Lib.hid hres2
      clear hres hres2
      rw [HLB.out] at HRes
      go_wp2_with fail
      go_ret2
      exact HRes.out
    · have hB := Lib.hid (block_ok (most := c.most) (o := o) HV.out E1.out E2.out)
      simp only [kindAt] at hB
      go_wp2_with fail
      go_ret2
      exact .inr ⟨2, false, by omega, by omega, hB.out, rfl, F1.out⟩
  · have HV := Lib.hid hv; have F1 := Lib.hid hf1
    clear hv hs1 hf1 c0
    go_wp2_with fail
    go_ret2
    exact .inr ⟨6, false, by omega, by omega, block_er HV.out, rfl, F1.out⟩

theorem inflate_arg (A : Option Addr) (n cp : Nat) (most : Int) (h : most < 0 ∨ 16777216 < most) (w : World) :
    Calls Try.prog 8 #[.slice A n cp, .int .i64 most] w fun e w' => e = .returned (.tuple #[.slice none 0 0, .int .i64 0, .int .i64 1]) ∧ w = w' := by
  by_cases h1 : most < 0
  · clear h
    go_enter Try.func8, Try.ntmps8
    go_wp2
    go_ret3
    exact ⟨rfl, rfl⟩
  · have h2 : 16777216 < most := h.resolve_left h1
    have d1 : decide (most < 0) = false := decide_eq_false h1
    have d2 : decide (16777216 < most) = true := decide_eq_true h2
    clear h
    go_enter Try.func8, Try.ntmps8
    go_wp2
    go_ret3
    exact ⟨rfl, rfl⟩

/-- What Inflate answers. -/
def InfRes (L : List Bool) (most : Nat) (w : World) (e : Ending) (w' : World) : Prop :=
  (∃ (a : Nat) (o : List Nat) (v : Value), Runs (blockStep L most) (0, []) (.ok (a, o)) ∧ a ≤ L.length ∧ o.length ≤ most ∧ e = .returned (.tuple #[v, .int .i64 ((a + 7) / 8 : Nat), .int .i64 0]) ∧ w'.ownsRow w.heap.size 5 1 v o.length (bx o) ∧ Below w.heap.size w w') ∨
  (∃ er : Nat, 0 < er ∧ er < 100 ∧ Runs (blockStep L most) (0, []) (.er er) ∧ e = .returned (.tuple #[.slice none 0 0, .int .i64 0, .int .i64 er]) ∧ Below w.heap.size w w')

/-- Within Inflate. -/
def InfIn (c : Cx) (w : World) (lb : Bool) (b : Nat) (u : List Nat) (ov p q : Value) (wr : World) : Prop :=
  StAt c wr ov p q b u ∧ Fr c.B0 w wr ∧ (lb = false → ∀ r, Runs (blockStep c.L c.most) (b, u) r → Runs (blockStep c.L c.most) (0, []) r) ∧ (lb = true → Runs (blockStep c.L c.most) (0, []) (.ok (b, u)))

theorem state_build (g : Nat) (most : Int) : Try.prog.built 51 [(0, .pointer (some ⟨g, 0, none⟩)), (2, .int .i64 most)] = some #[.pointer (some ⟨g, 0, none⟩), .slice none 0 0, .int .i64 most, .pointer none, .pointer none] := by kernel_rfl

set_option maxHeartbeats 1000000 in
theorem inflate_any (A : Option Addr) (n cp B : Nat) (bs : List Nat) (most : Nat) (hm : most ≤ 16777216) (hn : bs.length = n) (hl : n ≤ 100000) (h256 : ∀ x ∈ bs, x < 256) (w : World) (hs : Seen w B 1 A n cp (bx bs)) (hB : B ≤ w.heap.size) :
    Calls Try.prog 8 #[.slice A n cp, .int .i64 most] w (InfRes (unpack bs) most w) := by
  have HS := Lib.hid hs; clear hs
  have HN := Lib.hid hn; clear hn
  have H256 := Lib.hid h256; clear h256
  have d1 : decide ((most : Int) < 0) = false := decide_eq_false (by omega)
  have d2 : decide (16777216 < (most : Int)) = false := decide_eq_false (by omega)
  unfold InfRes
  go_enter Try.func8, Try.ntmps8
  go_wp2_with fail
  refine (newReader_any A n cp B bs w HN.out HS.out hB (by omega)).mono ?_
  rintro e w1 ⟨g, sv, rfl, hrd, hb1⟩
  have hsz := hb1.size
  have hglt := hrd.2.1.lt
  obtain ⟨c, hc⟩ : ∃ c : Cx, c = ⟨w.heap.size, w1.heap.size + 1, w1.heap.size, g, sv, bs, most⟩ := ⟨_, rfl⟩
  have hg : c.Good := by
    subst hc
    refine ⟨by show bs.length ≤ 100000; rw [HN.out]; exact hl, H256.out, hm, by show g < w1.heap.size + 1; omega, by show w1.heap.size < w1.heap.size + 1; omega, hsz, by show w.heap.size ≤ w1.heap.size + 1; omega, fun k hk => ?_⟩
    obtain ⟨_, cs, hw⟩ := own_whole hrd.2.2 hk
    have := hw.lt
    show k < w1.heap.size + 1
    omega
  have hSt : StAt c (w1.alloc (.cells #[.pointer (some ⟨g, 0, none⟩), .slice none 0 0, .int .i64 most, .pointer none, .pointer none] 51)) (.slice none 0 0) (.pointer none) (.pointer none) 0 [] := by
    subst hc
    exact ⟨Whole.new _ _ _, ⟨hrd.1, hrd.2.1.alloc _, hrd.2.2.alloc _⟩, World.ownsRow_nil _ _ _ _, .inl ⟨rfl, rfl⟩, by simp, by omega, by simp⟩
  have H0 : Hid (InfIn c w false 0 [] (.slice none 0 0) (.pointer none) (.pointer none) (w1.alloc (.cells #[.pointer (some ⟨g, 0, none⟩), .slice none 0 0, .int .i64 most, .pointer none, .pointer none] 51))) := Lib.hid ⟨hSt, Fr.of_below (hb1.alloc hsz _) _, fun _ r h => h, fun h => by cases h⟩
  have hcgs : w1.heap.size = c.gs := by rw [hc]
  have ecL : Hid (c.L = unpack bs) := Lib.hid (by rw [hc])
  have ecM : Hid (c.most = most) := Lib.hid (by rw [hc])
  have ecB : Hid (c.B0 = w.heap.size) := Lib.hid (by rw [hc])
  have ecB1 : Hid (w.heap.size ≤ c.B1) := Lib.hid (by rw [hc]; show w.heap.size ≤ w1.heap.size + 1; omega)
  have ecR : Hid (c.bs = bs) := Lib.hid (by rw [hc])
  have ecr : Hid (c.B0 = w.heap.size) := Lib.hid (by rw [hc])
  have eN : 8 * c.bs.length = 8 * n := by rw [ecR.out, HN.out]
  clear hrd hb1 hSt hsz hglt hc
  go_wp2_with fail
  try rw [hcgs]
  clear hcgs
  go_loopg [8, 9] (8 * n) (fun k la _ wr => ∃ (lb : Bool) (b : Nat) (u : List Nat) (ov p q : Value), k = 8 * n - b ∧ la = .bool lb ∧ InfIn c w lb b u ov p q wr)
  case atStart => exact ⟨false, 0, [], _, _, _, rfl, rfl, H0.out⟩
  case round =>
    obtain ⟨lb, b, u, ov, p, q, rfl, rfl, hin⟩ := hrel
    have hpl := hin.1.place
    have HIn := Lib.hid hin; clear hin
    cases lb with
    | false =>
      go_wp2_with fail
      refine (block_any hg ov p q b u wr HIn.out.1).mono ?_
      rintro e w2 (⟨lb, b', u', hst, hbb, rfl, ⟨ov2, p2, q2, hs2⟩, hf2⟩ | ⟨er, lb, e0, e1, hst, rfl, hf2⟩)
      · have N1 : Hid (InfIn c w lb b' u' ov2 p2 q2 w2) := Lib.hid ⟨hs2, HIn.out.2.1.trans hf2, fun hlb r h => by
            subst hlb
            exact HIn.out.2.2.1 rfl r (.go hst h), fun hlb => by
            subst hlb
            exact HIn.out.2.2.1 rfl _ (.fin hst)⟩
        have hp2 := hs2.place
        clear hst hs2 hf2 HIn
        go_wp2_with fail
        go_roundg (8 * n - b')
        case rel => exact ⟨lb, b', u', ov2, p2, q2, rfl, rfl, N1.out⟩
        case measure => omega
      · have F2 := Lib.hid (HIn.out.2.1.trans hf2)
        have HRu := Lib.hid (HIn.out.2.2.1 rfl _ (.er hst))
        clear hst hf2
        have z2 : ((er : Int) == 0) = false := by simp; omega
        have z3 : ¬ (er : Int) = 0 := by omega
        have z4 : (er == 0) = false := by simp; omega
        go_wp2_with fail
        go_ret3
        refine .inr ⟨er, e0, e1, ?_, rfl, ?_⟩
        · have h := HRu.out
          rwa [ecL.out, ecM.out] at h
        · have h := F2.out.below (by rw [ecB.out]; exact Nat.le_refl _)
          rwa [ecB.out] at h
    | true =>
      have q1 := HIn.out.1.c1
      have q0 := HIn.out.1.c0
      have HSt := Lib.hid HIn.out.1
      obtain ⟨Ao, co, rfl, _⟩ := own_form HSt.out.out
      obtain ⟨lf, hlf⟩ : ∃ lf, 8 * c.bs.length - b = lf := ⟨_, rfl⟩
      have CL := Lib.hid (fun W (h : ReaderAt W c.B0 c.gr c.rv c.bs b) => left_any c.B0 c.gr c.rv c.bs b W h (by have := hg.long; omega) hpl)
      rw [hlf] at CL
      obtain ⟨l8, hl8⟩ : ∃ k, lf / 8 = k := ⟨_, rfl⟩
      have w8 : (lf : Int) / 8 = l8 := by omega
      have w8' : (lf : Int).tdiv 8 = l8 := by rw [Int.tdiv_eq_ediv_of_nonneg (by omega)]; omega
      have w9 : (n : Int) - l8 = ((b + 7) / 8 : Nat) := by omega
      obtain ⟨rr, hrr⟩ : ∃ k, (b + 7) / 8 = k := ⟨_, rfl⟩
      rw [hrr] at w9
      have hrr2 : rr ≤ 200000 := by omega
      have HRR := Lib.hid hrr
      have wl8 : IntKind.i64.wrap (l8 : Int) = l8 := IntWalk.i64_in _ (by omega)
      have wrr : IntKind.i64.wrap (rr : Int) = rr := IntWalk.i64_in _ (by omega)
      clear hl8 hlf hrr
      go_wp2_with fail
      refine wp_region_held_drew (S := (fun W => W.cell? ⟨c.gs, 1, none⟩ = some (.slice Ao u.length co) ∧ W.cell? ⟨c.gs, 0, none⟩ = some (.pointer (some ⟨c.gr, 0, none⟩)))) (by kernel_rfl) ⟨q1, q0⟩ (fun hHeld => ?_)
      refine wpAnyH_take (i := 0) (oi := ⟨some 31, _, _, _, _, _⟩) (v := ?v0) rfl (by kernel_rfl) (by kernel_rfl) (by kernel_rfl) (fun _ _ _ h => h) (Or.inl ⟨by rfl, ?hy0⟩) (by assumption) ?rest0
      case hy0 => intro W hSW; go_simp; try rfl
      try simp only [Act.put, List.setIfInBounds_toArray, List.set_cons_zero, List.set_cons_succ]
      refine wpAnyH_take (i := 1) (oi := ⟨some 32, _, _, _, _, _⟩) (v := ?v1) rfl (by kernel_rfl) (by kernel_rfl) (by kernel_rfl) (fun _ _ _ h => h) (Or.inl ⟨by rfl, ?hy1⟩) (by assumption) ?rest1
      case hy1 => intro W hSW; go_simp; try rfl
      try simp only [Act.put, List.setIfInBounds_toArray, List.set_cons_zero, List.set_cons_succ]
      refine wpAnyH_take (i := 2) (oi := ⟨some 33, _, _, _, _, _⟩) (v := ?v2) rfl (by kernel_rfl) (by kernel_rfl) (by kernel_rfl) (fun _ _ _ h => h) (Or.inl ⟨by rfl, ?hy2⟩) (by assumption) ?rest2
      case hy2 => intro W hSW; go_simp; try rfl
      try simp only [Act.put, List.setIfInBounds_toArray, List.set_cons_zero, List.set_cons_succ]
      refine wpAnyH_take (i := 3) (oi := ⟨some 34, _, _, _, _, _⟩) (v := ?v3) rfl (by kernel_rfl) (by kernel_rfl) (by kernel_rfl) (fun _ _ _ h => h) (Or.inl ⟨by rfl, ?hy3⟩) (by assumption) ?rest3
      case hy3 => intro W hSW; have s1 := hSW.1; have s2 := hSW.2; go_simp; try rfl
      try simp only [Act.put, List.setIfInBounds_toArray, List.set_cons_zero, List.set_cons_succ]
      refine wpAnyH_take (i := 4) (oi := ⟨some 35, _, _, _, _, _⟩) (v := ?v4) rfl (by kernel_rfl) (by kernel_rfl) (by kernel_rfl) (fun _ _ _ h => h) (Or.inl ⟨by rfl, ?hy4⟩) (by assumption) ?rest4
      case hy4 => intro W hSW; go_simp; try rfl
      try simp only [Act.put, List.setIfInBounds_toArray, List.set_cons_zero, List.set_cons_succ]
      refine wpAnyH_take (i := 5) (oi := ⟨some 36, _, _, _, _, _⟩) (v := ?v5) rfl (by kernel_rfl) (by kernel_rfl) (by kernel_rfl) (fun _ _ _ h => h) (Or.inl ⟨by rfl, ?hy5⟩) (by assumption) ?rest5
      case hy5 => intro W hSW; go_simp; try rfl
      try simp only [Act.put, List.setIfInBounds_toArray, List.set_cons_zero, List.set_cons_succ]
      refine wpAnyH_take (i := 6) (oi := ⟨some 37, _, _, _, _, _⟩) (v := ?v6) rfl (by kernel_rfl) (by kernel_rfl) (by kernel_rfl) (fun _ _ _ h => h) (Or.inl ⟨by rfl, ?hy6⟩) (by assumption) ?rest6
      case hy6 => intro W hSW; go_simp; try rfl
      try simp only [Act.put, List.setIfInBounds_toArray, List.set_cons_zero, List.set_cons_succ]
      refine wpAnyH_take (i := 7) (oi := ⟨some 38, _, _, _, _, _⟩) (v := ?v7) rfl (by kernel_rfl) (by kernel_rfl) (by kernel_rfl) (fun _ _ _ h => h) (Or.inl ⟨by rfl, ?hy7⟩) (by assumption) ?rest7
      case hy7 => intro W hSW; go_simp; try rfl
      try simp only [Act.put, List.setIfInBounds_toArray, List.set_cons_zero, List.set_cons_succ]
      refine wpAnyH_take (i := 8) (oi := ⟨some 39, _, _, _, _, _⟩) (v := ?v8) rfl (by kernel_rfl) (by kernel_rfl) (by kernel_rfl) (fun _ _ _ h => h) (Or.inl ⟨by rfl, ?hy8⟩) (by assumption) ?rest8
      case hy8 => intro W hSW; go_simp; try rfl
      try simp only [Act.put, List.setIfInBounds_toArray, List.set_cons_zero, List.set_cons_succ]
      refine wpAnyH_take (i := 9) (oi := ⟨some 40, _, _, _, _, _⟩) (v := ?v9) rfl (by kernel_rfl) (by kernel_rfl) (by kernel_rfl) (fun _ _ _ h => h) (Or.inl ⟨by rfl, ?hy9⟩) (by assumption) ?rest9
      case hy9 => intro W hSW; have s1 := hSW.1; have s2 := hSW.2; go_simp; try rfl
      try simp only [Act.put, List.setIfInBounds_toArray, List.set_cons_zero, List.set_cons_succ]
      refine wpAnyH_ready (rs := [10]) (by kernel_rfl) (by simp) ?_
      refine AllReadyH.cons (o := ⟨some 41, _, _, _, _, _⟩) rfl (fun K hK => ?_) AllReadyH.nil
      go_simp
      refine (CL.out _ HSt.out.drew.rd).mono ?_
      rintro e w2 ⟨rfl, rfl⟩
      refine hK.out _ _ ?_ (fun hHeld2 => ?_)
      · exact ⟨q1, q0⟩
      clear hK K hHeld
      have hHeld := hHeld2; clear hHeld2
      try simp only [Act.put, List.setIfInBounds_toArray, List.set_cons_zero, List.set_cons_succ]
      refine wpAnyH_take (i := 13) (oi := ⟨some 4, _, _, _, _, _⟩) (v := ?v13) rfl (by kernel_rfl) (by kernel_rfl) (by kernel_rfl) (fun _ _ _ h => h) (Or.inl ⟨by rfl, ?hy13⟩) (by assumption) ?rest13
      case hy13 => intro W hSW; go_simp; try rfl
      try simp only [Act.put, List.setIfInBounds_toArray, List.set_cons_zero, List.set_cons_succ]
      refine wpAnyH_take (i := 11) (oi := ⟨some 42, _, _, _, _, _⟩) (v := ?v11) rfl (by kernel_rfl) (by kernel_rfl) (by kernel_rfl) (fun _ _ _ h => h) (Or.inl ⟨by rfl, ?hy11⟩) (by assumption) ?rest11
      case hy11 => intro W hSW; go_simp; try rfl
      try simp only [Act.put, List.setIfInBounds_toArray, List.set_cons_zero, List.set_cons_succ]
      refine wpAnyH_take (i := 12) (oi := ⟨some 43, _, _, _, _, _⟩) (v := ?v12) rfl (by kernel_rfl) (by kernel_rfl) (by kernel_rfl) (fun _ _ _ h => h) (Or.inl ⟨by rfl, ?hy12⟩) (by assumption) ?rest12
      case hy12 => intro W hSW; go_simp; try rfl
      try simp only [Act.put, List.setIfInBounds_toArray, List.set_cons_zero, List.set_cons_succ]
      refine wpAnyH_take (i := 14) (oi := ⟨some 5, _, _, _, _, _⟩) (v := ?v14) rfl (by kernel_rfl) (by kernel_rfl) (by kernel_rfl) (fun _ _ _ h => h) (Or.inl ⟨by rfl, ?hy14⟩) (by assumption) ?rest14
      case hy14 => intro W hSW; go_simp; try rfl
      try simp only [Act.put, List.setIfInBounds_toArray, List.set_cons_zero, List.set_cons_succ]
      refine wpAnyH_take (i := 15) (oi := ⟨some 6, _, _, _, _, _⟩) (v := ?v15) rfl (by kernel_rfl) (by kernel_rfl) (by kernel_rfl) (fun _ _ _ h => h) (Or.inl ⟨by rfl, ?hy15⟩) (by assumption) ?rest15
      case hy15 => intro W hSW; go_simp; try rfl
      try simp only [Act.put, List.setIfInBounds_toArray, List.set_cons_zero, List.set_cons_succ]
      refine wpAnyH_done (by kernel_rfl) ?_ _
      go_wp2_with fail
      go_ret3
      refine .inl ⟨b, u, .slice Ao u.length co, ?_, ?_, ?_, by rw [HRR.out]; rfl, ?_, ?_⟩
      · have h := HIn.out.2.2.2 rfl
        rwa [ecL.out, ecM.out] at h
      · simp; rw [HN.out]; omega
      · have h := HSt.out.room
        rwa [ecM.out] at h
      · exact own_base HSt.out.out ecB1.out
      · have h := HIn.out.2.1.below (by rw [ecB.out]; exact Nat.le_refl _)
        rw [ecB.out] at h
        exact h.drew.drew
end Go.Proofs.Ytobchlakjgeadaa
