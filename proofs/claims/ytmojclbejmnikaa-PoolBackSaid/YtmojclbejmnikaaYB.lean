/-
  The document's Read of a pool. Conditions: the document's cursor stands as told, over at most a hundred thousand bytes.
-/
import Derived.Test.YtmojclbejmnikaaYA
import Derived.Deep.CutBlock
namespace Go.Proofs.Ytmojclbejmnikaa
open Go Go.RowKit
set_option maxRecDepth 100000

/-- A number that is read: the number, the place, the error. -/
def num (bs : List Nat) (a : Nat) (err : Int) (n : Nat) : Nat × Nat × Int := (big_ (nxt bs a err n true).1, (nxt bs a err n true).2.1, (nxt bs a err n true).2.2)
def zr0 : Raw := ⟨0, ⟨#[]⟩, 0, 0, 0⟩
/-- One constant: the constant, the place, the error. -/
def oneM (bs : List Nat) (a : Nat) : Raw × Nat × Int :=
  let p := num bs a 0 1
  if formM p.1 = 116 then
    let q := num bs p.2.1 p.2.2 2
    let x := nxt bs q.2.1 q.2.2 q.1 true
    (⟨p.1, strOf x.1, 0, 0, 0⟩, x.2.1, if x.2.2 = 0 ∧ (unitsM (x.1.map UInt8.ofNat)).isSome = false then 2 else x.2.2)
  else if formM p.1 = 52 then
    let q := num bs p.2.1 p.2.2 4
    (⟨p.1, ⟨#[]⟩, q.1, 0, 0⟩, q.2.1, q.2.2)
  else if formM p.1 = 56 then
    let q := num bs p.2.1 p.2.2 8
    (⟨p.1, ⟨#[]⟩, q.1, 0, 0⟩, q.2.1, q.2.2)
  else if formM p.1 = 97 then
    let q := num bs p.2.1 p.2.2 2
    (⟨p.1, ⟨#[]⟩, 0, q.1, 0⟩, q.2.1, q.2.2)
  else if formM p.1 = 98 then
    let q := num bs p.2.1 p.2.2 2
    let x := num bs q.2.1 q.2.2 2
    (⟨p.1, ⟨#[]⟩, 0, q.1, x.1⟩, x.2.1, x.2.2)
  else (⟨p.1, ⟨#[]⟩, 0, 0, 0⟩, p.2.1, if p.2.2 = 0 then 9 else p.2.2)
def rdLoop (bs : List Nat) (n : Nat) : Nat → List Raw → Nat → Int → List Raw × Nat × Int
  | 0, out, a, err => (out, a, err)
  | f + 1, out, a, err => if out.length < n ∧ err = 0 then rdLoop bs n f (out ++ (oneM bs a).1 :: (if formM (oneM bs a).1.tag = 56 then [zr0] else [])) (oneM bs a).2.1 (oneM bs a).2.2 else (out, a, err)
/-- What is read: the pool, or none; the place, the error. -/
def readM (bs : List Nat) : Option (List Raw) × Nat × Int :=
  let p := num bs 0 0 2
  let r := rdLoop bs p.1 p.1 [zr0] p.2.1 (if p.2.2 = 0 ∧ p.1 = 0 then 2 else p.2.2)
  let e := if r.2.2 = 0 ∧ p.1 < r.1.length then 2 else r.2.2
  (if e = 0 then some r.1 else none, r.2.1, e)
theorem num_place (bs : List Nat) (a : Nat) (err : Int) (n : Nat) (ha : a ≤ bs.length) : (num bs a err n).2.1 ≤ bs.length := nxt_place bs a err n true (fun _ => by omega) ha
theorem pow_mono256 {a b : Nat} (h : a ≤ b) : 256 ^ a ≤ 256 ^ b := Nat.pow_le_pow_right (by decide) h
theorem num_lt (bs : List Nat) (a : Nat) (err : Int) (n : Nat) (h256 : ∀ x ∈ bs, x < 256) : (num bs a err n).1 < 256 ^ n := by
  have h1 := big_lt (nxt bs a err n true).1 (nxt_byte bs a err n true h256)
  have h2 := nxt_short bs a err n true
  exact Nat.lt_of_lt_of_le h1 (pow_mono256 (by simpa using h2))
theorem rN2 {N n : Nat} (h : N < n) (hn : n < 65536) : N + 1 + 1 ≤ maxLen ∧ (N + 1 + 1) * 48 ≤ 140737488355328 ∧ N + 1 ≤ maxLen ∧ (N + 1) * 48 ≤ 140737488355328 := by unfold maxLen; omega
theorem raw_info : (Try.prog.info? 47).map (fun i => (i.zero, i.size, i.bytes)) = some (some (.agg #[.int .i64 0, .string ⟨#[]⟩, .int .u64 0, .int .i64 0, .int .i64 0]), 5, 48) := by kernel_rfl
theorem rv_one (l : List Raw) : ∀ u ∈ rv l, u.oneCell' = true := by
  intro u hu
  obtain ⟨r, _, hr⟩ := List.mem_flatMap.1 hu
  simp [rawC] at hr
  rcases hr with rfl | rfl | rfl | rfl | rfl <;> rfl
theorem rv_app (a b : List Raw) : rv (a ++ b) = rv a ++ rv b := by simp [rv]
theorem seen_raw (w : World) (r : Raw) : Seen (w.alloc (.cells #[.int .i64 r.tag, .string r.text, .int .u64 r.bits, .int .i64 r.a, .int .i64 r.b] 47)) (w.heap.size + 1) 5 (some ⟨w.heap.size, 0, none⟩) 1 1 (rv [r]) := by
  refine ⟨rfl, Nat.le_refl _, .inr ⟨_, rfl, fun _ => ⟨rfl, Nat.lt_succ_self _, fun j u hu => ?_⟩⟩⟩
  have hW := Whole.new w 47 #[.int .i64 r.tag, .string r.text, .int .u64 r.bits, .int .i64 r.a, .int .i64 r.b]
  show _ = some u
  simp only [Nat.zero_add]
  rw [hW.cell j, ← hu]; simp [rv, rawC]
theorem own_raw (w : World) (base : Nat) (r : Raw) (hb : base ≤ w.heap.size) : (w.alloc (.cells #[.int .i64 r.tag, .string r.text, .int .u64 r.bits, .int .i64 r.a, .int .i64 r.b] 47)).ownsRow base 47 5 (.slice (some ⟨w.heap.size, 0, none⟩) 1 1) 1 (rv [r]) :=
  ⟨rfl, .inr ⟨w.heap.size, 1, _, rfl, hb, Whole.new w 47 _, Nat.le_refl _, by decide, rfl, rfl⟩⟩
/-- Where the reading stands. -/
structure St (w W : World) (g : Nat) (A : Option Addr) (c : Nat) (bs : List Nat) (a : Nat) (err : Int) (v : Value) (n : Nat) (out : List Raw) : Prop where
  cur : RCur W g A c bs a err
  row : W.ownsRow w.heap.size 47 5 v n (rv out)
  keep : Only (fun k => k = g) w W
section
variable {w W W' : World} {g : Nat} {A : Option Addr} {c : Nat} {bs : List Nat} {a a' : Nat} {err err' : Int} {v : Value} {n : Nat} {out : List Raw}
theorem St.below (h : St w W g A c bs a err v n out) (hb : Below W.heap.size W W') : St w W' g A c bs a err v n out :=
  ⟨Whole.bel h.cur hb, own_only h.row (Only.of_below hb Nob) (fun _ _ h => h), h.keep.trans (Only.of_below hb _)⟩
theorem St.step (h : St w W g A c bs a err v n out) (hg : g < w.heap.size) (hC : RCur W' g A c bs a' err') (hO : Only (fun k => k = g) W W') : St w W' g A c bs a' err' v n out :=
  ⟨hC, own_only h.row hO (fun k hk e => by have := (own_whole h.row hk).1; omega), h.keep.trans hO⟩
theorem St.ne (h : St w W g A c bs a err v n out) : v.ownBlock ≠ some W.heap.size := fun e => by
  obtain ⟨_, cs, hw⟩ := own_whole h.row e
  exact absurd hw.lt (Nat.lt_irrefl _)
theorem St.grown (h : St w W g A c bs a err v n out) (hg : g < w.heap.size) (r : Raw) {v' : Value} (hg2 : W.grownBy W' v.ownBlock) (ho : W'.ownsRow w.heap.size 47 5 v' (n + 1) (rv out ++ rv [r])) : St w W' g A c bs a err v' (n + 1) (out ++ [r]) :=
  ⟨Whole.grown h.cur hg2 (fun e => by have := (own_whole h.row e.symm).1; omega), by rw [rv_app]; exact ho,
    h.keep.grown hg2 (fun k hk hlt => by have := (own_whole h.row hk).1; omega)⟩
theorem St.setR (h : St w W g A c bs a err v n out) {R i : Nat} (hg : R ≠ g) (hv : v.ownBlock ≠ some R) (hR : w.heap.size ≤ R) (u : Value) : St w (W.setCell ⟨R, i, none⟩ u) g A c bs a err v n out :=
  ⟨Whole.far h.cur (p := ⟨R, i, none⟩) (fun e => hg e.symm) u, own_only h.row ((Only.refl (fun k => k = R) W).setCell (p := ⟨R, i, none⟩) (.inl rfl) u) (fun k hk e => hv (by rw [hk, e])), h.keep.setCell (p := ⟨R, i, none⟩) (.inr hR) u⟩
theorem St.setE (h : St w W g A c bs a err v n out) (hg : g < w.heap.size) (e : Int) : St w (W.setCell ⟨g, 2, none⟩ (.int .i64 e)) g A c bs a e v n out :=
  h.step hg (h.cur.set2 e) (only_set _ _ _ _)
end
/-- What a reading gives. -/
def ReadRes (w : World) (g : Nat) (A : Option Addr) (c : Nat) (bs : List Nat) (r : Option (List Raw) × Nat × Int) (e : Ending) (w' : World) : Prop :=
  ∃ v, e = .returned v ∧ RCur w' g A c bs r.2.1 r.2.2 ∧ Only (fun k => k = g) w w' ∧ (r.1 = none → v = .slice none 0 0) ∧ ∀ l, r.1 = some l → w'.ownsRow w.heap.size 47 5 v l.length (rv l)
theorem one_cases (bs : List Nat) (a : Nat) {t a1 : Nat} {e1 : Int} (h : num bs a 0 1 = (t, a1, e1)) :
    (formM t = 116 → oneM bs a = (⟨t, strOf (nxt bs (num bs a1 e1 2).2.1 (num bs a1 e1 2).2.2 (num bs a1 e1 2).1 true).1, 0, 0, 0⟩, (nxt bs (num bs a1 e1 2).2.1 (num bs a1 e1 2).2.2 (num bs a1 e1 2).1 true).2.1, if (nxt bs (num bs a1 e1 2).2.1 (num bs a1 e1 2).2.2 (num bs a1 e1 2).1 true).2.2 = 0 ∧ (unitsM ((nxt bs (num bs a1 e1 2).2.1 (num bs a1 e1 2).2.2 (num bs a1 e1 2).1 true).1.map UInt8.ofNat)).isSome = false then 2 else (nxt bs (num bs a1 e1 2).2.1 (num bs a1 e1 2).2.2 (num bs a1 e1 2).1 true).2.2)) ∧
    (formM t = 52 → oneM bs a = (⟨t, ⟨#[]⟩, (num bs a1 e1 4).1, 0, 0⟩, (num bs a1 e1 4).2.1, (num bs a1 e1 4).2.2)) ∧
    (formM t = 56 → oneM bs a = (⟨t, ⟨#[]⟩, (num bs a1 e1 8).1, 0, 0⟩, (num bs a1 e1 8).2.1, (num bs a1 e1 8).2.2)) ∧
    (formM t = 97 → oneM bs a = (⟨t, ⟨#[]⟩, 0, (num bs a1 e1 2).1, 0⟩, (num bs a1 e1 2).2.1, (num bs a1 e1 2).2.2)) ∧
    (formM t = 98 → oneM bs a = (⟨t, ⟨#[]⟩, 0, (num bs a1 e1 2).1, (num bs (num bs a1 e1 2).2.1 (num bs a1 e1 2).2.2 2).1⟩, (num bs (num bs a1 e1 2).2.1 (num bs a1 e1 2).2.2 2).2.1, (num bs (num bs a1 e1 2).2.1 (num bs a1 e1 2).2.2 2).2.2)) ∧
    (formM t = 0 → oneM bs a = (⟨t, ⟨#[]⟩, 0, 0, 0⟩, a1, if e1 = 0 then 9 else e1)) := by
  refine ⟨fun hf => ?_, fun hf => ?_, fun hf => ?_, fun hf => ?_, fun hf => ?_, fun hf => ?_⟩
  all_goals
    unfold oneM
    rw [h]
    simp only [hf]
    rfl

set_option maxHeartbeats 32000000 in
theorem read_any (g B : Nat) (A : Option Addr) (c : Nat) (bs : List Nat) (w : World) (h : RCur w g A c bs 0 0) (hs : Seen w B 1 A bs.length c (bv bs)) (hB : B ≤ g) (hb : bs.length ≤ 100000) (hcm : c ≤ 9223372036854775807) (h256 : ∀ x ∈ bs, x < 256) :
    Calls Try.prog 9 #[.pointer (some ⟨g, 0, none⟩)] w (ReadRes w g A c bs (readM bs)) := by
  have hgl : g < w.heap.size := Whole.lt h
  obtain ⟨ir, hir, hrz0, hrz1, hrz2⟩ := info_parts raw_info
  have NUM := Lib.hid (fun (W : World) (a : Nat) (err : Int) (n : Nat) (hn : n = 1 ∨ n = 2 ∨ n = 4 ∨ n = 8) (hC : RCur W g A c bs a err) (hO : Only (fun k => k = g) w W) (ha : a ≤ bs.length) => by
    have hw : decide (Wide (n : Int)) = true := by rw [decide_eq_true_iff]; unfold Wide; omega
    have := rbig_any g B A c bs a err n W hC (hs.only hO (by omega) (fun k hk e => by omega)) hB (by omega) hcm ha h256
    rw [hw] at this
    exact this : ∀ (W : World) (a : Nat) (err : Int) (n : Nat) (_ : n = 1 ∨ n = 2 ∨ n = 4 ∨ n = 8) (_ : RCur W g A c bs a err) (_ : Only (fun k => k = g) w W) (_ : a ≤ bs.length), Calls Try.prog 27 #[.pointer (some ⟨g, 0, none⟩), .int .i64 n] W fun e w' => e = .returned (.int .u64 (num bs a err n).1) ∧ RCur w' g A c bs (num bs a err n).2.1 (num bs a err n).2.2 ∧ Only (fun k => k = g) W w')
  have TAKE := Lib.hid (fun (W : World) (a : Nat) (err : Int) (n : Nat) (hC : RCur W g A c bs a err) (hO : Only (fun k => k = g) w W) (ha : a ≤ bs.length) => by
    have := rtake_any g B A c bs a err n W hC (hs.only hO (by omega) (fun k hk e => by omega)) hB (by omega) hcm ha
    rw [decide_eq_true (by omega : (0 : Int) ≤ (n : Int))] at this
    exact this : ∀ (W : World) (a : Nat) (err : Int) (n : Nat) (_ : RCur W g A c bs a err) (_ : Only (fun k => k = g) w W) (_ : a ≤ bs.length), Calls Try.prog 29 #[.pointer (some ⟨g, 0, none⟩), .int .i64 n] W (RTake W g A c bs (nxt bs a err n true)))
  have N0 := Lib.hid (NUM.out w 0 0 2 (by omega) h (Only.refl _ _) (by omega))
  have hlt0 := num_lt bs 0 0 2 h256
  have hpl0 := num_place bs 0 0 2 (by omega)
  obtain ⟨R, hR⟩ : ∃ R, readM bs = R := ⟨_, rfl⟩
  rw [hR]
  unfold readM at hR
  obtain ⟨p, hp⟩ : ∃ p, num bs 0 0 2 = p := ⟨_, rfl⟩
  rw [hp] at N0 hlt0 hpl0 hR
  obtain ⟨n, a0, e0⟩ := p
  simp only at N0 hlt0 hpl0 hR
  have hn65 : n < 65536 := hlt0
  obtain ⟨e0', he0'⟩ : ∃ e, (if e0 = 0 ∧ n = 0 then (2 : Int) else e0) = e := ⟨_, rfl⟩
  rw [he0'] at hR
  have HR := Lib.hid hR
  have HE := Lib.hid he0'
  have wn : IntKind.i64.wrap (n : Int) = (n : Int) := IntWalk.i64_in _ (by omega)
  clear hR hp hlt0 h hs he0'
  go_enter Try.func9, Try.ntmps9
  go_wp2_with fail
  refine N0.out.mono ?_
  rintro e w1 ⟨rfl, hC1, hO1⟩
  have HC1 := Lib.hid hC1
  have HO1 := Lib.hid hO1
  clear hC1 hO1
  obtain ⟨bb, hbb⟩ : ∃ b, decide (e0 = 0 ∧ n = 0) = b := ⟨_, rfl⟩
  have HBB := Lib.hid hbb
  clear hbb
  go_upto_region 2 with fail
  go_cut [19] (fun s19 wx => s19 = .bool bb ∧ w1 = wx)
  case first =>
    have c2 := HC1.out.c2
    by_cases h1 : e0 = 0
    · have q1 : (e0 == 0) = true := by rw [h1]; rfl
      by_cases h2 : n = 0
      · have q2 : ((n : Int) == 0) = true := by rw [h2]; rfl
        have hb2 : bb = true := by rw [← HBB.out, decide_eq_true ⟨h1, h2⟩]
        clear h1 h2
        go_wp2_with fail
        go_meet
        case rel => exact ⟨by rw [hb2], rfl⟩
      · have q2 : ((n : Int) == 0) = false := by rw [beq_eq_false_iff_ne]; omega
        have hb2 : bb = false := by rw [← HBB.out, decide_eq_false (fun h => h2 h.2)]
        clear h1 h2
        go_wp2_with fail
        go_meet
        case rel => exact ⟨by rw [hb2], rfl⟩
    · have q1 : (e0 == 0) = false := by rw [beq_eq_false_iff_ne]; exact h1
      have hb2 : bb = false := by rw [← HBB.out, decide_eq_false (fun h => h1 h.1)]
      clear h1
      go_wp2_with fail
      go_meet
      case rel => exact ⟨by rw [hb2], rfl⟩
  case rest =>
  obtain ⟨rfl, rfl⟩ := hcut
  go_upto_if 19 with fail
  go_cut [] (fun wx => Hid (RCur wx g A c bs a0 e0' ∧ Only (fun k => k = g) w wx))
  case first =>
    have f2 := Whole.frozen HC1.out 2
    have c2 := HC1.out.c2
    cases bb with
    | true =>
      have he : e0' = 2 := by rw [← HE.out, if_pos (of_decide_eq_true HBB.out)]
      have HQ := Lib.hid he
      clear he
      go_wp2_with fail
      go_meet
      case rel => exact Lib.hid ⟨by rw [HQ.out]; exact HC1.out.set2 2, HO1.out.trans (only_set _ _ _ _)⟩
    | false =>
      have he : e0' = e0 := by rw [← HE.out, if_neg (of_decide_eq_false HBB.out)]
      have HQ := Lib.hid he
      clear he
      go_wp2_with fail
      go_meet
      case rel => exact Lib.hid ⟨by rw [HQ.out]; exact HC1.out, HO1.out⟩
  case rest =>
    obtain ⟨w2, rfl⟩ : ∃ W, W = wc := ⟨_, rfl⟩
    have HC2 := Lib.hid hcut.out.1
    have HO2 := Lib.hid hcut.out.2
    clear hcut HC1 HO1 HE N0
    have hsz2 := HO2.out.size
    have OW := Lib.hid (own_raw w2 w.heap.size zr0 hsz2)
    have HS0 : Hid (St w (w2.alloc (.cells #[.int .i64 0, .string ⟨#[]⟩, .int .u64 ((0 : Nat) : Int), .int .i64 0, .int .i64 0] 47)) g A c bs a0 e0' (.slice (some ⟨w2.heap.size, 0, none⟩) 1 1) 1 [zr0]) := Lib.hid ⟨Whole.bel HC2.out ((Below.refl _ _).alloc (Nat.le_refl _) _), OW.out, HO2.out.trans (Only.of_below ((Below.refl _ _).alloc (Nat.le_refl _) _) _)⟩
    clear OW
    have HF : Hid (∀ r, rdLoop bs n n [zr0] a0 e0' = r → (if (if r.2.2 = 0 ∧ n < r.1.length then (2 : Int) else r.2.2) = 0 then some r.1 else none, r.2.1, if r.2.2 = 0 ∧ n < r.1.length then (2 : Int) else r.2.2) = R) := Lib.hid (fun r hr => by rw [← hr]; exact HR.out)
    clear HR
    go_wp2_with fail
    go_loopg [4] n (fun j v4 wr => ∃ (out : List Raw) (a : Nat) (err : Int) (N : Nat), out.length = N ∧ St w wr g A c bs a err v4 N out ∧ rdLoop bs n n [zr0] a0 e0' = rdLoop bs n j out a err ∧ n ≤ N + j ∧ N ≤ n + 1 ∧ a ≤ bs.length)
    case atStart => exact ⟨[zr0], a0, e0', 1, rfl, (by simpa using HS0.out), rfl, by omega, by omega, hpl0⟩
    case round =>
      obtain ⟨out, a, err, N, hN, hS, hL, hf, hN1, ha⟩ := hrel
      obtain ⟨wo, rfl⟩ : ∃ W, W = wr := ⟨_, rfl⟩
      obtain ⟨A4, c4, rfl, -⟩ := own_form hS.row
      have HS := Lib.hid hS
      have HL := Lib.hid hL
      have HN := Lib.hid hN
      have c2 := hS.cur.c2
      clear hS hL hN
      by_cases hgo : N < n ∧ err = 0
      rotate_left
      · -- the loop ends
        have hL2 : rdLoop bs n n [zr0] a0 e0' = (out, a, err) := by
          rw [HL.out]
          cases gk with
          | zero => rfl
          | succ f => rw [rdLoop, if_neg (by rw [HN.out]; exact hgo)]
        have hF := HF.out _ hL2
        simp only at hF
        rw [HN.out] at hF
        have HFF := Lib.hid hF
        have f2 := Whole.frozen HS.out.cur 2
        clear hL2 hF
        by_cases h1 : N < n
        · have h2 : err ≠ 0 := fun h => hgo ⟨h1, h⟩
          have q0 : decide ((N : Int) < (n : Int)) = true := by rw [decide_eq_true_iff]; omega
          have q0' : decide (N < n) = true := by rw [decide_eq_true_iff]; omega
          have q1 : (err == 0) = false := by rw [beq_eq_false_iff_ne]; exact h2
          have q2 : (err != 0) = true := by rw [bne, q1]; rfl
          have hr : R = (none, a, err) := by rw [← HFF.out]; simp [h2]
          have HRR := Lib.hid hr
          clear hr hgo h1 h2
          go_wp2_with fail
          go_ret
          rw [HRR.out]
          exact ⟨_, rfl, HS.out.cur, HS.out.keep, fun _ => rfl, fun l h => (by cases h)⟩
        have q0 : decide ((N : Int) < (n : Int)) = false := by rw [decide_eq_false_iff_not]; omega
        have q0' : decide (N < n) = false := by rw [decide_eq_false_iff_not]; omega
        by_cases h2 : err = 0
        · have q1 : (err == 0) = true := by rw [h2]; rfl
          by_cases h3 : n < N
          · have q3 : decide ((n : Int) < (N : Int)) = true := by rw [decide_eq_true_iff]; omega
            have q3' : decide (n < N) = true := by rw [decide_eq_true_iff]; omega
            have hr : R = (none, a, 2) := by rw [← HFF.out]; simp [h2, h3]
            have HRR := Lib.hid hr
            obtain ⟨wq, hwq⟩ : ∃ W, wo.setCell ⟨g, 2, none⟩ (.int .i64 2) = W := ⟨_, rfl⟩
            have hq2 : wq.cell? ⟨g, 2, none⟩ = some (.int .i64 2) := hwq ▸ (HS.out.cur.set2 2).c2
            clear hr hgo h1 h2 h3
            go_wp2_with fail
            go_ret
            rw [HRR.out]
            exact ⟨_, rfl, hwq ▸ HS.out.cur.set2 2, hwq ▸ HS.out.keep.trans (only_set _ _ _ _), fun _ => rfl, fun l h => (by cases h)⟩
          · have q3 : decide ((n : Int) < (N : Int)) = false := by rw [decide_eq_false_iff_not]; omega
            have q3' : decide (n < N) = false := by rw [decide_eq_false_iff_not]; omega
            have q2 : (err != 0) = false := by rw [bne, q1]; rfl
            have hr : R = (some out, a, err) := by rw [← HFF.out]; simp [h2, h3]
            have HRR := Lib.hid hr
            clear hr hgo h1 h2 h3
            go_wp2_with fail
            go_ret
            rw [HRR.out]
            exact ⟨_, rfl, HS.out.cur, HS.out.keep, fun h => (by cases h), fun l h => (by cases h; rw [HN.out]; exact HS.out.row)⟩
        · have q1 : (err == 0) = false := by rw [beq_eq_false_iff_ne]; exact h2
          have q2 : (err != 0) = true := by rw [bne, q1]; rfl
          have hr : R = (none, a, err) := by rw [← HFF.out]; simp [h2]
          have HRR := Lib.hid hr
          clear hr hgo h1 h2
          go_wp2_with fail
          go_ret
          rw [HRR.out]
          exact ⟨_, rfl, HS.out.cur, HS.out.keep, fun _ => rfl, fun l h => (by cases h)⟩
      obtain ⟨hlt, rfl⟩ := hgo
      obtain ⟨f, rfl⟩ : ∃ f, gk = f + 1 := ⟨gk - 1, by omega⟩
      have q0 : decide ((N : Int) < (n : Int)) = true := by rw [decide_eq_true_iff]; omega
      have q0' : decide (N < n) = true := by rw [decide_eq_true_iff]; omega
      have CN := Lib.hid (NUM.out wo a 0 1 (by omega) HS.out.cur HS.out.keep ha)
      have hl1 := num_lt bs a 0 1 h256
      have hp1 := num_place bs a 0 1 ha
      obtain ⟨p, hp⟩ : ∃ p, num bs a 0 1 = p := ⟨_, rfl⟩
      have hOC := fun t a1 e1 h => one_cases bs a (t := t) (a1 := a1) (e1 := e1) h
      rw [hp] at CN hl1 hp1
      obtain ⟨t, a1, e1⟩ := p
      simp only at CN hl1 hp1
      have OC := Lib.hid (hOC t a1 e1 hp)
      have ht256 : t < 256 := hl1
      have wt : IntKind.i64.wrap (t : Int) = (t : Int) := IntWalk.i64_in _ (by omega)
      have HLN := HL.out
      rw [rdLoop, if_pos ⟨by rw [HN.out]; exact hlt, rfl⟩] at HLN
      have HOP := Lib.hid (show (oneM bs a).2.1 ≤ bs.length by
        have h := OC.out
        rcases form_val (t : Int) with hf | hf | hf | hf | hf | hf
        · rw [h.2.2.2.2.2 hf]; exact hp1
        · rw [h.1 hf]; exact nxt_place _ _ _ _ _ (fun _ => by omega) (num_place _ _ _ _ hp1)
        · rw [h.2.1 hf]; exact num_place _ _ _ _ hp1
        · rw [h.2.2.1 hf]; exact num_place _ _ _ _ hp1
        · rw [h.2.2.2.1 hf]; exact num_place _ _ _ _ hp1
        · rw [h.2.2.2.2.1 hf]; exact num_place _ _ _ _ (num_place _ _ _ _ hp1))
      obtain ⟨O, hO⟩ : ∃ o, oneM bs a = o := ⟨_, rfl⟩
      rw [hO] at HLN OC HOP
      have HLN2 := Lib.hid HLN
      clear HLN hp hOC hl1 hO HL
      go_wp2_with fail
      refine CN.out.mono ?_
      rintro e wa ⟨rfl, hCa, hOa⟩
      have HSa := Lib.hid (HS.out.step hgl hCa hOa)
      have hRw : w.heap.size ≤ wa.heap.size := HSa.out.keep.size
      have hRg : wa.heap.size ≠ g := by omega
      have hRv := Lib.hid HSa.out.ne
      clear hCa hOa CN HS
      go_upto_region 7 with fail
      obtain ⟨wb, hwb⟩ : ∃ W, wa.alloc (.cells #[.int .i64 (t : Int), .string ⟨#[]⟩, .int .u64 0, .int .i64 0, .int .i64 0] 47) = W := ⟨_, rfl⟩
      have BA : Below wa.heap.size wa wb := hwb ▸ (Below.refl wa.heap.size wa).alloc (Nat.le_refl _) _
      have HSb := Lib.hid (HSa.out.below BA)
      have HPb : Hid (Whole wb wa.heap.size 47 #[.int .i64 (t : Int), .string ⟨#[]⟩, .int .u64 0, .int .i64 0, .int .i64 0]) := Lib.hid (hwb ▸ Whole.new wa 47 _)
      rw [hwb]
      clear hwb BA
      have FM := Lib.hid (fun W => form_any (t : Int) W)
      have hfv := form_val (t : Int)
      obtain ⟨fm, hfm⟩ : ∃ f, formM (t : Int) = f := ⟨_, rfl⟩
      have oc := OC.out
      rw [hfm] at FM hfv oc
      have OC2 := Lib.hid oc
      clear hfm OC oc
      have d0 := HPb.out.cell 0
      simp only [List.getElem?_toArray, List.getElem?_cons_zero] at d0
      go_upto_block 2 with (go_at_call 28; refine (FM.out _).mono ?_; rintro e w5 ⟨rfl, rfl⟩)
      go_cut [6, 7] (fun s6 s7 wx => Hid (St w wx g A c bs O.2.1 O.2.2 (.slice A4 N c4) N out ∧ Whole wx wa.heap.size 47 #[.int .i64 O.1.tag, .string O.1.text, .int .u64 O.1.bits, .int .i64 O.1.a, .int .i64 O.1.b]))
      case first =>
        have oc := OC2.out
        clear HLN2 HOP HF
        have d0 := HPb.out.cell 0
        have d1 := HPb.out.cell 1
        have d2 := HPb.out.cell 2
        have d3 := HPb.out.cell 3
        have d4 := HPb.out.cell 4
        simp only [List.getElem?_toArray, List.getElem?_cons_zero, List.getElem?_cons_succ] at d0 d1 d2 d3 d4
        have c2b := HSb.out.cur.c2
        have f2b := Whole.frozen HSb.out.cur 2
        rcases hfv with rfl | rfl | rfl | rfl | rfl | rfl
        · have ho := oc.2.2.2.2.2 rfl
          by_cases h1 : e1 = 0
          · have q1 : (e1 == 0) = true := by rw [h1]; rfl
            rw [if_pos h1] at ho
            have HO := Lib.hid ho
            clear ho oc h1
            go_wp2_with fail
            go_meet
            case rel => exact Lib.hid ⟨by rw [HO.out]; exact HSb.out.setE hgl 9, by rw [HO.out]; exact Whole.far HPb.out (p := ⟨g, 2, none⟩) hRg _⟩
          · have q1 : (e1 == 0) = false := by rw [beq_eq_false_iff_ne]; exact h1
            rw [if_neg h1] at ho
            have HO := Lib.hid ho
            clear ho oc h1
            go_wp2_with fail
            go_meet
            case rel => exact Lib.hid ⟨by rw [HO.out]; exact HSb.out, by rw [HO.out]; exact HPb.out⟩
        · have ho := oc.1 rfl
          have CN2 := Lib.hid (NUM.out wb a1 e1 2 (by omega) HSb.out.cur HSb.out.keep hp1)
          have hl2 := num_lt bs a1 e1 2 h256
          have hp2 := num_place bs a1 e1 2 hp1
          obtain ⟨q, hq⟩ : ∃ p, num bs a1 e1 2 = p := ⟨_, rfl⟩
          rw [hq] at CN2 hl2 ho hp2
          obtain ⟨x2, a2, e2⟩ := q
          simp only at CN2 hl2 ho hp2
          have hx65 : x2 < 65536 := hl2
          have TK := Lib.hid (fun W h1 h2 => TAKE.out W a2 e2 x2 h1 h2 hp2)
          have hns := nxt_short bs a2 e2 (x2 : Int) true
          obtain ⟨nx, hnx⟩ : ∃ p, nxt bs a2 e2 (x2 : Int) true = p := ⟨_, rfl⟩
          rw [hnx] at TK ho hns
          obtain ⟨y, a3, e3⟩ := nx
          simp only at ho hns
          unfold RTake at TK
          simp only at TK
          have UN := Lib.hid (fun W => units_any (y.map UInt8.ofNat) (y.map UInt8.ofNat).length rfl (by rw [List.length_map]; omega) W)
          obtain ⟨ru, hru⟩ : ∃ r, unitsM (y.map UInt8.ofNat) = r := ⟨_, rfl⟩
          rw [hru] at UN ho
          have hSy : tx (y.map UInt8.ofNat) = strOf y := rfl
          rw [hSy] at UN
          have CVS := Lib.hid (fun (W : World) (A : Option Addr) (c : Nat) (h : Seen W W.heap.size 1 A y.length c (bv y)) => conv_seen h)
          obtain ⟨ly, hly⟩ : ∃ k, y.length = k := ⟨_, rfl⟩
          rw [hly] at TK CVS
          obtain ⟨Sy, hSy2⟩ : ∃ S, strOf y = S := ⟨_, rfl⟩
          rw [hSy2] at UN ho CVS
          have HO := Lib.hid ho
          have wx2 : IntKind.i64.wrap (x2 : Int) = (x2 : Int) := IntWalk.i64_in _ (by omega)
          clear ho oc hq hl2 hnx hru hSy hSy2 hns hly
          go_wp2_with fail
          refine CN2.out.mono ?_
          rintro e w6 ⟨rfl, hC6, hO6⟩
          have HS6 := Lib.hid (HSb.out.step hgl hC6 hO6)
          have HP6 := Lib.hid (HPb.out.only hO6 hRg)
          clear hC6 hO6 d0 d1 d2 d3 d4
          go_wp2_with fail
          refine (TK.out w6 HS6.out.cur HS6.out.keep).mono ?_
          rintro e w7 ⟨v7, rfl, o7, hC7, hO7⟩
          obtain ⟨A7, c7, rfl, -⟩ := own_form o7
          have cv := CVS.out w7 A7 c7 (Seen.of_own o7)
          have HS7 := Lib.hid (HS6.out.step hgl hC7 hO7)
          have HP7 := Lib.hid (HP6.out.only hO7 hRg)
          clear hC7 hO7 o7
          have k2 := HP7.out.cell 1
          simp only [List.getElem?_toArray, List.getElem?_cons_zero, List.getElem?_cons_succ] at k2
          have z2 := HP7.out.frozen 1
          obtain ⟨w8, hw8⟩ : ∃ W, w7.setCell ⟨wa.heap.size, 1, none⟩ (.string Sy) = W := ⟨_, rfl⟩
          have HS8 := Lib.hid (hw8 ▸ HS7.out.setR (i := 1) hRg hRv.out hRw (.string Sy))
          have HP8 : Hid (Whole w8 wa.heap.size 47 #[.int .i64 (t : Int), .string Sy, .int .u64 0, .int .i64 0, .int .i64 0]) := Lib.hid (hw8 ▸ HP7.out.put 1 _)
          have k1 := HP8.out.cell 1
          simp only [List.getElem?_toArray, List.getElem?_cons_zero, List.getElem?_cons_succ] at k1
          go_wp2_with fail
          clear hw8
          refine (UN.out w8).mono ?_
          rintro e w9 ⟨v9, rfl, hb9, -, -⟩
          have HS9 := Lib.hid (HS8.out.below hb9)
          have HP9 := Lib.hid (HP8.out.bel hb9)
          obtain ⟨bu, hbu⟩ : ∃ b, ru.isSome = b := ⟨_, rfl⟩
          rw [hbu] at HO ⊢
          clear hb9 hbu cv k2 z2 k1
          have c29 := HS9.out.cur.c2
          have f29 := Whole.frozen HS9.out.cur 2
          by_cases h3 : e3 = 0
          · have q3 : (e3 == 0) = true := by rw [h3]; rfl
            cases bu with
            | true =>
              have ho2 : O = (⟨(t : Int), Sy, 0, 0, 0⟩, a3, e3) := by rw [HO.out]; simp
              have HO2 := Lib.hid ho2
              clear ho2 h3
              go_wp2_with fail
              go_meet
              case rel => exact Lib.hid ⟨by rw [HO2.out]; exact HS9.out, by rw [HO2.out]; exact HP9.out⟩
            | false =>
              have ho2 : O = (⟨(t : Int), Sy, 0, 0, 0⟩, a3, 2) := by rw [HO.out]; simp [h3]
              have HO2 := Lib.hid ho2
              clear ho2 h3
              go_wp2_with fail
              go_meet
              case rel => exact Lib.hid ⟨by rw [HO2.out]; exact HS9.out.setE hgl 2, by rw [HO2.out]; exact Whole.far HP9.out (p := ⟨g, 2, none⟩) hRg _⟩
          · have q3 : (e3 == 0) = false := by rw [beq_eq_false_iff_ne]; exact h3
            have ho2 : O = (⟨(t : Int), Sy, 0, 0, 0⟩, a3, e3) := by rw [HO.out]; simp [h3]
            have HO2 := Lib.hid ho2
            clear ho2 h3
            go_wp2_with fail
            go_meet
            case rel => exact Lib.hid ⟨by rw [HO2.out]; exact HS9.out, by rw [HO2.out]; exact HP9.out⟩
        · have ho := oc.2.1 rfl
          have CN2 := Lib.hid (NUM.out wb a1 e1 4 (by omega) HSb.out.cur HSb.out.keep hp1)
          have hl2 := num_lt bs a1 e1 4 h256
          obtain ⟨q, hq⟩ : ∃ p, num bs a1 e1 4 = p := ⟨_, rfl⟩
          rw [hq] at CN2 hl2 ho
          obtain ⟨x2, a2, e2⟩ := q
          simp only at CN2 hl2 ho
          have HO := Lib.hid ho
          clear ho oc hq hl2
          go_wp2_with fail
          refine CN2.out.mono ?_
          rintro e w6 ⟨rfl, hC6, hO6⟩
          have HS6 := Lib.hid (HSb.out.step hgl hC6 hO6)
          have HP6 := Lib.hid (HPb.out.only hO6 hRg)
          clear hC6 hO6 d0 d1 d2 d3 d4
          have k2 := HP6.out.cell 2
          simp only [List.getElem?_toArray, List.getElem?_cons_zero, List.getElem?_cons_succ] at k2
          have z2 := HP6.out.frozen 2
          go_wp2_with fail
          go_meet
          case rel => exact Lib.hid ⟨by rw [HO.out]; exact HS6.out.setR hRg hRv.out hRw _, by rw [HO.out]; exact HP6.out.put 2 _⟩
        · have ho := oc.2.2.1 rfl
          have CN2 := Lib.hid (NUM.out wb a1 e1 8 (by omega) HSb.out.cur HSb.out.keep hp1)
          have hl2 := num_lt bs a1 e1 8 h256
          obtain ⟨q, hq⟩ : ∃ p, num bs a1 e1 8 = p := ⟨_, rfl⟩
          rw [hq] at CN2 hl2 ho
          obtain ⟨x2, a2, e2⟩ := q
          simp only at CN2 hl2 ho
          have HO := Lib.hid ho
          clear ho oc hq hl2
          go_wp2_with fail
          refine CN2.out.mono ?_
          rintro e w6 ⟨rfl, hC6, hO6⟩
          have HS6 := Lib.hid (HSb.out.step hgl hC6 hO6)
          have HP6 := Lib.hid (HPb.out.only hO6 hRg)
          clear hC6 hO6 d0 d1 d2 d3 d4
          have k2 := HP6.out.cell 2
          simp only [List.getElem?_toArray, List.getElem?_cons_zero, List.getElem?_cons_succ] at k2
          have z2 := HP6.out.frozen 2
          go_wp2_with fail
          go_meet
          case rel => exact Lib.hid ⟨by rw [HO.out]; exact HS6.out.setR hRg hRv.out hRw _, by rw [HO.out]; exact HP6.out.put 2 _⟩
        · have ho := oc.2.2.2.1 rfl
          have CN2 := Lib.hid (NUM.out wb a1 e1 2 (by omega) HSb.out.cur HSb.out.keep hp1)
          have hl2 := num_lt bs a1 e1 2 h256
          obtain ⟨q, hq⟩ : ∃ p, num bs a1 e1 2 = p := ⟨_, rfl⟩
          rw [hq] at CN2 hl2 ho
          obtain ⟨x2, a2, e2⟩ := q
          simp only at CN2 hl2 ho
          have HO := Lib.hid ho
          have wx2 : IntKind.i64.wrap (x2 : Int) = (x2 : Int) := IntWalk.i64_in _ (by have : x2 < 65536 := hl2; omega)
          clear ho oc hq hl2
          go_wp2_with fail
          refine CN2.out.mono ?_
          rintro e w6 ⟨rfl, hC6, hO6⟩
          have HS6 := Lib.hid (HSb.out.step hgl hC6 hO6)
          have HP6 := Lib.hid (HPb.out.only hO6 hRg)
          clear hC6 hO6 d0 d1 d2 d3 d4
          have k2 := HP6.out.cell 3
          simp only [List.getElem?_toArray, List.getElem?_cons_zero, List.getElem?_cons_succ] at k2
          have z2 := HP6.out.frozen 3
          go_wp2_with fail
          go_meet
          case rel => exact Lib.hid ⟨by rw [HO.out]; exact HS6.out.setR hRg hRv.out hRw _, by rw [HO.out]; exact HP6.out.put 3 _⟩
        · have ho := oc.2.2.2.2.1 rfl
          have CN2 := Lib.hid (NUM.out wb a1 e1 2 (by omega) HSb.out.cur HSb.out.keep hp1)
          have hl2 := num_lt bs a1 e1 2 h256
          have hp2 := num_place bs a1 e1 2 hp1
          obtain ⟨q, hq⟩ : ∃ p, num bs a1 e1 2 = p := ⟨_, rfl⟩
          rw [hq] at CN2 hl2 ho hp2
          obtain ⟨x2, a2, e2⟩ := q
          simp only at CN2 hl2 ho hp2
          have CN3 := Lib.hid (fun W h1 h2 => NUM.out W a2 e2 2 (by omega) h1 h2 hp2)
          have hl3 := num_lt bs a2 e2 2 h256
          obtain ⟨q3, hq3⟩ : ∃ p, num bs a2 e2 2 = p := ⟨_, rfl⟩
          rw [hq3] at CN3 hl3 ho
          obtain ⟨x3, a3, e3⟩ := q3
          simp only at CN3 hl3 ho
          have HO := Lib.hid ho
          have wx2 : IntKind.i64.wrap (x2 : Int) = (x2 : Int) := IntWalk.i64_in _ (by have : x2 < 65536 := hl2; omega)
          have wx3 : IntKind.i64.wrap (x3 : Int) = (x3 : Int) := IntWalk.i64_in _ (by have : x3 < 65536 := hl3; omega)
          clear ho oc hq hl2 hq3 hl3
          go_wp2_with fail
          refine CN2.out.mono ?_
          rintro e w6 ⟨rfl, hC6, hO6⟩
          have HS6 := Lib.hid (HSb.out.step hgl hC6 hO6)
          have HP6 := Lib.hid (HPb.out.only hO6 hRg)
          clear hC6 hO6 d0 d1 d2 d3 d4
          have k2 := HP6.out.cell 3
          simp only [List.getElem?_toArray, List.getElem?_cons_zero, List.getElem?_cons_succ] at k2
          have z2 := HP6.out.frozen 3
          obtain ⟨w7, hw7⟩ : ∃ W, w6.setCell ⟨wa.heap.size, 3, none⟩ (.int .i64 (x2 : Int)) = W := ⟨_, rfl⟩
          have HS7 := Lib.hid (hw7 ▸ HS6.out.setR (i := 3) hRg hRv.out hRw (.int .i64 (x2 : Int)))
          have HP7 : Hid (Whole w7 wa.heap.size 47 #[.int .i64 (t : Int), .string ⟨#[]⟩, .int .u64 0, .int .i64 (x2 : Int), .int .i64 0]) := Lib.hid (hw7 ▸ HP6.out.put 3 _)
          go_wp2_with fail
          clear hw7
          refine (CN3.out w7 HS7.out.cur HS7.out.keep).mono ?_
          rintro e w8 ⟨rfl, hC8, hO8⟩
          have HS8 := Lib.hid (HS7.out.step hgl hC8 hO8)
          have HP8 := Lib.hid (HP7.out.only hO8 hRg)
          clear hC8 hO8 k2 z2
          have k4 := HP8.out.cell 4
          simp only [List.getElem?_toArray, List.getElem?_cons_zero, List.getElem?_cons_succ] at k4
          have z4 := HP8.out.frozen 4
          go_wp2_with fail
          go_meet
          case rel => exact Lib.hid ⟨by rw [HO.out]; exact HS8.out.setR hRg hRv.out hRw _, by rw [HO.out]; exact HP8.out.put 4 _⟩
      case rest =>
        obtain ⟨w3, rfl⟩ : ∃ W, W = wc := ⟨_, rfl⟩
        have HS3 := Lib.hid hcut.out.1
        have HP3 := Lib.hid hcut.out.2
        have hOP := HOP.out
        clear hcut HOP OC2 FM hfv HSb HPb HSa d0 HF wt
        obtain ⟨⟨tg, tt, bi, ra, rb'⟩, a', e'⟩ := O
        simp only at HS3 HP3 HLN2 hOP
        have d0 := HP3.out.cell 0
        have d1 := HP3.out.cell 1
        have d2 := HP3.out.cell 2
        have d3 := HP3.out.cell 3
        have d4 := HP3.out.cell 4
        simp only [List.getElem?_toArray, List.getElem?_cons_zero, List.getElem?_cons_succ] at d0 d1 d2 d3 d4
        have FM2 := Lib.hid (fun W => form_any tg W)
        have BB : Below w3.heap.size w3 (w3.alloc (.cells #[.int .i64 tg, .string tt, .int .u64 bi, .int .i64 ra, .int .i64 rb'] 47)) := (Below.refl w3.heap.size w3).alloc (Nat.le_refl _) _
        have HS4 := Lib.hid (HS3.out.below BB)
        have HP4 := Lib.hid (HP3.out.bel BB)
        have NW : Hid (Seen (w3.alloc (.cells #[.int .i64 tg, .string tt, .int .u64 bi, .int .i64 ra, .int .i64 rb'] 47)) (w3.heap.size + 1) 5 (some ⟨w3.heap.size, 0, none⟩) 1 1 (rv [⟨tg, tt, bi, ra, rb'⟩])) := Lib.hid (seen_raw w3 ⟨tg, tt, bi, ra, rb'⟩)
        have r1 := (rN2 hlt hn65).2.2.1
        have r2 := (rN2 hlt hn65).2.2.2
        have r3 : w.heap.size ≤ (w3.alloc (.cells #[.int .i64 tg, .string tt, .int .u64 bi, .int .i64 ra, .int .i64 rb'] 47)).heap.size := HS4.out.keep.size
        clear BB
        go_wp2_with (at_builtin; refine wpList_append_seen _ rfl (.tmp 104) (.tmp 106) _ rfl w.heap.size 47 ir _ 5 48 Try.underlying30 hir hrz0 hrz1 hrz2 rfl (by omega) (.slice A4 N c4) N (rv out) rfl HS4.out.row (w3.heap.size + 1) (some ⟨w3.heap.size, 0, none⟩) 1 1 (rv [⟨tg, tt, bi, ra, rb'⟩]) rfl NW.out (rv_one _) r1 r2 r3 ?_; intro v5 w5 ho5 hg5 hv5; have HS5 := Lib.hid (HS4.out.grown hgl ⟨tg, tt, bi, ra, rb'⟩ hg5 ho5); have HP5 := Lib.hid (HP4.out.grown hg5 (fun e => hRv.out e.symm)); have x0 := HP5.out.cell 0; simp only [List.getElem?_toArray, List.getElem?_cons_zero] at x0; clear ho5 hg5 hv5)
        refine (FM2.out _).mono ?_
        rintro e w6 ⟨rfl, rfl⟩
        by_cases hf56 : formM tg = 56
        · have ef : ((formM tg : Int) == 56) = true := by rw [hf56]; rfl
          have hnx := HLN2.out
          rw [if_pos hf56] at hnx
          have HNX := Lib.hid hnx
          have BB : Below w5.heap.size w5 (w5.alloc (.cells #[.int .i64 0, .string ⟨#[]⟩, .int .u64 0, .int .i64 0, .int .i64 0] 47)) := (Below.refl w5.heap.size w5).alloc (Nat.le_refl _) _
          have HS6 := Lib.hid (HS5.out.below BB)
          have NW2 : Hid (Seen (w5.alloc (.cells #[.int .i64 0, .string ⟨#[]⟩, .int .u64 0, .int .i64 0, .int .i64 0] 47)) (w5.heap.size + 1) 5 (some ⟨w5.heap.size, 0, none⟩) 1 1 (rv [zr0])) := Lib.hid (seen_raw w5 zr0)
          have r4 := (rN2 hlt hn65).1
          have r5 := (rN2 hlt hn65).2.1
          have r6 : w.heap.size ≤ (w5.alloc (.cells #[.int .i64 0, .string ⟨#[]⟩, .int .u64 0, .int .i64 0, .int .i64 0] 47)).heap.size := HS6.out.keep.size
          clear BB hf56 hnx d0 d1 d2 d3 d4 x0
          go_wp2_with (at_builtin; refine wpList_append_seen _ rfl (.tmp 112) (.tmp 114) _ rfl w.heap.size 47 ir _ 5 48 Try.underlying30 hir hrz0 hrz1 hrz2 rfl (by omega) v5 (N + 1) (rv (out ++ [⟨tg, tt, bi, ra, rb'⟩])) rfl HS6.out.row (w5.heap.size + 1) (some ⟨w5.heap.size, 0, none⟩) 1 1 (rv [zr0]) rfl NW2.out (rv_one _) r4 r5 r6 ?_; intro v7 w7 ho7 hg7 hv7; have HS7 := Lib.hid (HS6.out.grown hgl zr0 hg7 ho7); clear ho7 hg7 hv7)
          go_roundg f
          case measure => omega
          case rel =>
            have z1 : (out ++ [(⟨tg, tt, bi, ra, rb'⟩ : Raw)] ++ [zr0]).length = N + 1 + 1 := by rw [List.length_append, List.length_append, HN.out]; rfl
            have z2 : out ++ (⟨tg, tt, bi, ra, rb'⟩ : Raw) :: [zr0] = out ++ [(⟨tg, tt, bi, ra, rb'⟩ : Raw)] ++ [zr0] := by rw [List.append_assoc]; rfl
            have z3 := HNX.out
            rw [z2] at z3
            refine ⟨out ++ [⟨tg, tt, bi, ra, rb'⟩] ++ [zr0], a', e', N + 1 + 1, z1, HS7.out, z3, ?_, ?_, hOP⟩
            · omega
            · omega
        · have ef : ((formM tg : Int) == 56) = false := by rw [beq_eq_false_iff_ne]; omega
          have hnx := HLN2.out
          rw [if_neg hf56] at hnx
          have HNX := Lib.hid hnx
          clear hf56 hnx d0 d1 d2 d3 d4 x0
          go_wp2_with fail
          go_roundg f
          case measure => omega
          case rel =>
            have z1 : (out ++ [(⟨tg, tt, bi, ra, rb'⟩ : Raw)]).length = N + 1 := by rw [List.length_append, HN.out]; rfl
            refine ⟨out ++ [⟨tg, tt, bi, ra, rb'⟩], a', e', N + 1, z1, HS5.out, HNX.out, ?_, ?_, hOP⟩
            · omega
            · omega
end Go.Proofs.Ytmojclbejmnikaa
