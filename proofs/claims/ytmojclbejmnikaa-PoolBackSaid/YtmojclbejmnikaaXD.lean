/-
  The document's Holds. Conditions: a pool in memory, of at most a hundred thousand constants.
-/
import Derived.Test.YtmojclbejmnikaaXC
namespace Go.Proofs.Ytmojclbejmnikaa
open Go Go.RowKit
set_option maxRecDepth 100000

def isZ (r : Raw) : Bool := decide (r.tag = 0) && decide (r.text.toList = []) && decide (r.bits = 0) && decide (r.a = 0) && decide (r.b = 0)
theorem eq41 (t a b : Int) (s : ByteArray) (bits : Nat) (w : World) : (Op.equalIn 10000 47 (.agg #[.int .i64 t, .string s, .int .u64 bits, .int .i64 a, .int .i64 b]) (.agg #[.int .i64 0, .string ⟨#[]⟩, .int .u64 0, .int .i64 0, .int .i64 0])).run Try.prog w = .ok (isZ ⟨t, s, bits, a, b⟩) w := by
  have u9 := Try.underlying9
  have a9 := Try.isAgg9
  have z9 := Try.sizeOf9
  have u3 := Try.underlying3
  have a3 := Try.isAgg3
  have z3 := Try.sizeOf3
  have u25 := Try.underlying39
  have a25 := Try.isAgg39
  have z25 := Try.sizeOf39
  rw [show (10000 : Nat) = 9999 + 1 from rfl, Op.equalIn]
  simp only [Sem.run_bind, run_underlying Try.underlying47, Result.andThen_ok]
  unfold isZ
  go_simp
  by_cases h1 : t = 0 <;> by_cases h2 : s.toList = [] <;> by_cases h3 : bits = 0 <;> by_cases h4 : a = 0 <;> by_cases h5 : b = 0 <;> simp [h1, h2, h3, h4, h5]
theorem neq41 (r : Raw) (w : World) : (binOp .neq 47 (.agg #[.int .i64 r.tag, .string r.text, .int .u64 r.bits, .int .i64 r.a, .int .i64 r.b]) (.agg #[.int .i64 0, .string ⟨#[]⟩, .int .u64 0, .int .i64 0, .int .i64 0])).run Try.prog w = .ok (.bool (!isZ r)) w := by
  have e : (Op.equalIn Op.maxDepth 47 (.agg #[.int .i64 r.tag, .string r.text, .int .u64 r.bits, .int .i64 r.a, .int .i64 r.b]) (.agg #[.int .i64 0, .string ⟨#[]⟩, .int .u64 0, .int .i64 0, .int .i64 0])).run Try.prog w = .ok (isZ r) w := eq41 r.tag r.a r.b r.text r.bits w
  simp [binOp, Op.equal, e]
/-- Is the constant at that place as it should? -/
def okH (l : List Raw) (i : Nat) : Bool := match l[i]?, l[i - 1]? with
  | some r, some p => if i = 0 then true else if formM p.tag = 56 then isZ r else rightM l r
  | _, _ => true
def holdsM (l : List Raw) : Bool := match l[0]?, l[l.length - 1]? with
  | some z, some e => isZ z && ((List.range l.length).all fun i => okH l i) && decide (formM e.tag ≠ 56)
  | _, _ => false

set_option maxHeartbeats 16000000 in
theorem holds_any (l : List Raw) (A : Option Addr) (n c B : Nat) (hn : l.length = n) (hs : n ≤ 100000) (w : World) (hA : Seen w B 5 A n c (rv l)) (hB : B ≤ w.heap.size) :
    Calls Try.prog 14 #[.slice A n c] w (Gives w (.bool (holdsM l))) := by
  obtain ⟨R, hR⟩ : ∃ r, holdsM l = r := ⟨_, rfl⟩
  rw [hR]
  unfold holdsM at hR
  have HA := Lib.hid hA
  by_cases h0 : n = 0
  · subst h0
    obtain rfl : l = [] := List.eq_nil_of_length_eq_zero hn
    subst hR
    clear hA
    go_enter Try.func14, Try.ntmps14
    go_wp2_with fail
    go_ret
    exact ⟨rfl, Below.refl _ _⟩
  have d0 : ((n : Int) == 0) = false := by rw [beq_eq_false_iff_ne]; omega
  have hl0 : 0 < l.length := by omega
  obtain ⟨N, hN⟩ : ∃ N, n = N + 1 := ⟨n - 1, by omega⟩
  have hlN : N < l.length := by omega
  rw [List.getElem?_eq_getElem hl0, List.getElem?_eq_getElem (show l.length - 1 < l.length by omega)] at hR
  simp only at hR
  have eN : l[l.length - 1] = l[N] := by congr 1; omega
  rw [eN] at hR
  obtain ⟨bb, oo, rfl, hbb, hc⟩ := hA.raw hl0 hn
  have rowAt : ∀ (k : Nat) (hk : k < l.length) (W : World), Below w.heap.size w W → W.cell? ⟨bb, oo + k * 5, none⟩ = some (.int .i64 l[k].tag) ∧ W.rangeAt bb (oo + k * 5) [.int .i64 l[k].tag, .string l[k].text, .int .u64 l[k].bits, .int .i64 l[k].a, .int .i64 l[k].b] := by
    intro k hk W hW
    obtain ⟨b2, o2, e2, _, hc2⟩ := hA.raw hk hn
    cases e2
    have hbw : bb < w.heap.size := Nat.lt_of_lt_of_le hbb hB
    refine ⟨(hW.cell (p := ⟨bb, oo + k * 5, none⟩) hbw).trans (hc2 0 _ rfl), fun j v hj => ?_⟩
    rw [hW.cell (p := ⟨bb, oo + k * 5 + j, none⟩) hbw, Nat.add_assoc]
    exact hc2 j v hj
  have HRow := Lib.hid rowAt
  obtain ⟨r0, hr0⟩ : ∃ r, l[0] = r := ⟨_, rfl⟩
  rw [hr0] at hR hc
  have z0 : w.cell? ⟨bb, oo, none⟩ = some (.int .i64 r0.tag) := hc 0 _ rfl
  have z1 : w.cell? ⟨bb, oo + 1, none⟩ = some (.string r0.text) := hc 1 _ rfl
  have z2 : w.cell? ⟨bb, oo + 2, none⟩ = some (.int .u64 r0.bits) := hc 2 _ rfl
  have z3 : w.cell? ⟨bb, oo + 3, none⟩ = some (.int .i64 r0.a) := hc 3 _ rfl
  have z4 : w.cell? ⟨bb, oo + 4, none⟩ = some (.int .i64 r0.b) := hc 4 _ rfl
  have nq := neq41 r0
  have hn0 : (0 : Int) < (n : Int) := by omega
  have hn1 : 0 < n := by omega
  obtain ⟨f, hf⟩ : ∃ f, isZ r0 = f := ⟨_, rfl⟩
  have nq2 : ∀ W, (binOp .neq 47 (.agg #[.int .i64 r0.tag, .string r0.text, .int .u64 r0.bits, .int .i64 r0.a, .int .i64 r0.b]) (.agg #[.int .i64 0, .string ⟨#[]⟩, .int .u64 0, .int .i64 0, .int .i64 0])).run Try.prog W = .ok (.bool (!f)) W := fun W => hf ▸ nq W
  rw [hf] at hR
  have HH := Lib.hid (And.intro h0 (And.intro hl0 (And.intro hN (And.intro hlN (And.intro hbb hn)))))
  clear hA hc rowAt h0 hl0 hr0 hf nq eN
  cases f with
  | false =>
    rw [Bool.false_and, Bool.false_and] at hR
    subst hR
    clear hN hlN hn
    go_enter Try.func14, Try.ntmps14
    go_wp2_with fail
    go_ret
    exact ⟨rfl, Below.refl _ _⟩
  | true =>
    rw [Bool.true_and] at hR
    have HR := Lib.hid hR
    clear hR hN hn
    go_enter Try.func14, Try.ntmps14
    go_wp2_with fail
    clear z0 z1 z2 z3 z4 nq2
    go_loopg [16] n (fun j v wr => ∃ i : Nat, i ≤ n ∧ j = n - i ∧ v = .int .i64 i ∧ Below w.heap.size w wr ∧ ∀ d, d < i → okH l d = true)
    case atStart => exact ⟨0, by omega, rfl, rfl, Below.refl _ _, fun d hd => by omega⟩
    case round =>
      obtain ⟨i, hi, rfl, rfl, hbl, hal⟩ := hrel
      obtain ⟨wo, rfl⟩ : ∃ W, W = wr := ⟨_, rfl⟩
      have HB := Lib.hid hbl
      have HAL := Lib.hid hal
      clear hbl hal
      by_cases hlt : i < n
      · have hil : i < l.length := by have := HH.out; omega
        have d1 : decide ((i : Int) < (n : Int)) = true := by rw [decide_eq_true_iff]; omega
        obtain ⟨m0, mR⟩ := HRow.out i hil wo HB.out
        have m1 : wo.cell? ⟨bb, oo + i * 5 + 1, none⟩ = some (.string l[i].text) := mR 1 _ rfl
        have m2 : wo.cell? ⟨bb, oo + i * 5 + 2, none⟩ = some (.int .u64 l[i].bits) := mR 2 _ rfl
        have m3 : wo.cell? ⟨bb, oo + i * 5 + 3, none⟩ = some (.int .i64 l[i].a) := mR 3 _ rfl
        have m4 : wo.cell? ⟨bb, oo + i * 5 + 4, none⟩ = some (.int .i64 l[i].b) := mR 4 _ rfl
        have RA := Lib.hid (fun (h : Below w.heap.size w wo) => rightR_any l (some ⟨bb, oo, none⟩) n c B l[i] HH.out.2.2.2.2.2 hs wo (HA.out.below (h.mono hB)) (Nat.le_trans hB h.size))
        have NQ := Lib.hid (neq41 l[i])
        have q0 : (i : Int) < (n : Int) := by omega
        have hok : okH l i = if i = 0 then true else if formM (l[i - 1]'(by omega)).tag = 56 then isZ l[i] else rightM l l[i] := by
          unfold okH; rw [List.getElem?_eq_getElem hil, List.getElem?_eq_getElem (show i - 1 < l.length by omega)]
        have HBD : Hid (okH l i = false → R = false) := Lib.hid (fun h => by
          rw [← HR.out]
          have : ((List.range l.length).all fun i => okH l i) = false := by
            rw [List.all_eq_false]; exact ⟨i, List.mem_range.2 hil, by rw [h]; simp⟩
          rw [this]; rfl)
        have HNX : Hid (okH l i = true → ∀ d, d < i + 1 → okH l d = true) := Lib.hid (fun h d hd => by
          by_cases hde : d < i
          · exact HAL.out d hde
          · obtain rfl : d = i := by omega
            exact h)
        obtain ⟨x, hx⟩ : ∃ x, l[i] = x := ⟨_, rfl⟩
        rw [hx] at m0 m1 m2 m3 m4 RA NQ hok
        by_cases hi0 : i = 0
        · rw [if_pos hi0] at hok
          have HX := Lib.hid (HNX.out hok)
          have d2 : decide ((0 : Int) < (i : Int)) = false := by rw [decide_eq_false_iff_not]; omega
          have d2n : decide (0 < i) = false := by rw [decide_eq_false_iff_not]; omega
          have HI := Lib.hid hi0
          clear mR hx hok hi0 hil
          go_wp2_with fail
          go_roundg (n - (i + 1))
          case measure => omega
          case rel => exact ⟨i + 1, by omega, rfl, by go_num, HB.out, HX.out⟩
        · rw [if_neg hi0] at hok
          have d2 : decide ((0 : Int) < (i : Int)) = true := by rw [decide_eq_true_iff]; omega
          obtain ⟨M, hM⟩ : ∃ M, i = M + 1 := ⟨i - 1, by omega⟩
          have hMl : M < l.length := by omega
          have p0 := (HRow.out M hMl wo HB.out).1
          have eM : (l[i - 1]'(by omega)) = l[M] := by congr 1; omega
          rw [eM] at hok
          have q1 : (i : Int) - 1 = (M : Int) := by omega
          have q2 : (M : Int) < (n : Int) := by have := HH.out; omega
          obtain ⟨t2, ht2⟩ : ∃ t, l[M].tag = t := ⟨_, rfl⟩
          rw [ht2] at p0 hok
          have F := Lib.hid (fun W => form_any t2 W)
          obtain ⟨f2, hf2⟩ : ∃ f, formM t2 = f := ⟨_, rfl⟩
          rw [hf2] at F hok
          have HI := Lib.hid (And.intro hi0 (And.intro hM hMl))
          clear mR hx hi0 hil hM hMl eM ht2 hf2
          by_cases h56 : f2 = 56
          · rw [if_pos h56] at hok
            have d5 : ((f2 : Int) == 56) = true := by rw [h56]; rfl
            have H56 := Lib.hid h56
            obtain ⟨g, hg⟩ : ∃ g, isZ x = g := ⟨_, rfl⟩
            have nq : ∀ W, (binOp .neq 47 (.agg #[.int .i64 x.tag, .string x.text, .int .u64 x.bits, .int .i64 x.a, .int .i64 x.b]) (.agg #[.int .i64 0, .string ⟨#[]⟩, .int .u64 0, .int .i64 0, .int .i64 0])).run Try.prog W = .ok (.bool (!g)) W := fun W => hg ▸ NQ.out W
            rw [hg] at hok
            clear h56 hg
            cases g with
            | false =>
              have HRR := Lib.hid (HBD.out hok)
              clear hok
              go_wp2_with (go_at_call 28; refine (F.out _).mono ?_; rintro e w' ⟨rfl, rfl⟩)
              go_ret
              exact ⟨by rw [HRR.out]; rfl, HB.out⟩
            | true =>
              have HX := Lib.hid (HNX.out hok)
              clear hok
              go_wp2_with (go_at_call 28; refine (F.out _).mono ?_; rintro e w' ⟨rfl, rfl⟩)
              go_roundg (n - (i + 1))
              case measure => omega
              case rel => exact ⟨i + 1, by omega, rfl, by go_num, HB.out, HX.out⟩
          · rw [if_neg h56] at hok
            have d5 : ((f2 : Int) == 56) = false := by rw [beq_eq_false_iff_ne]; omega
            have RC := Lib.hid (RA.out HB.out)
            obtain ⟨g, hg⟩ : ∃ g, rightM l x = g := ⟨_, rfl⟩
            rw [hg] at hok RC
            have H56 := Lib.hid h56
            clear h56 hg
            cases g with
            | false =>
              have HRR := Lib.hid (HBD.out hok)
              clear hok
              go_wp2_with (first | (go_at_call 28; refine (F.out _).mono ?_; rintro e w' ⟨rfl, rfl⟩) | (go_at_call 31; refine RC.out.mono ?_; rintro e w5 ⟨rfl, b5⟩))
              go_ret
              exact ⟨by rw [HRR.out]; rfl, HB.out.trans (b5.mono HB.out.size)⟩
            | true =>
              have HX := Lib.hid (HNX.out hok)
              clear hok
              go_wp2_with (first | (go_at_call 28; refine (F.out _).mono ?_; rintro e w' ⟨rfl, rfl⟩) | (go_at_call 31; refine RC.out.mono ?_; rintro e w5 ⟨rfl, b5⟩))
              go_roundg (n - (i + 1))
              case measure => omega
              case rel => exact ⟨i + 1, by omega, rfl, by go_num, HB.out.trans (b5.mono HB.out.size), HX.out⟩
      · obtain rfl : i = n := by omega
        have d1 : decide ((i : Int) < (i : Int)) = false := by rw [decide_eq_false_iff_not]; omega
        obtain ⟨_, _, hN, hlN, _, hn⟩ := HH.out
        have p0 := (HRow.out N hlN wo HB.out).1
        obtain ⟨t2, ht2⟩ : ∃ t, l[N].tag = t := ⟨_, rfl⟩
        have hall : ((List.range l.length).all fun i => okH l i) = true := by
          rw [List.all_eq_true]
          intro d hd
          exact HAL.out d (by have := List.mem_range.1 hd; omega)
        have hr := HR.out
        rw [hall, Bool.true_and, ht2] at hr
        rw [ht2] at p0
        have q1 : (i : Int) - 1 = (N : Int) := by omega
        have q2 : (N : Int) < (i : Int) := by omega
        have F := Lib.hid (fun W => form_any t2 W)
        obtain ⟨f2, hf2⟩ : ∃ f, formM t2 = f := ⟨_, rfl⟩
        rw [hf2] at F hr
        have d5 : ((f2 : Int) != 56) = R := by rw [← hr, Bool.eq_iff_iff]; simp; omega
        clear hf2 hr hall ht2 hN hn
        go_wp2_with (go_at_call 28; refine (F.out _).mono ?_; rintro e w' ⟨rfl, rfl⟩)
        go_ret
        exact ⟨rfl, HB.out⟩
end Go.Proofs.Ytmojclbejmnikaa
