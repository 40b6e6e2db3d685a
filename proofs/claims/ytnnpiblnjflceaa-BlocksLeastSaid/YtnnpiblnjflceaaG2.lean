/-
  Contracts of Cost and start; what stays while bits are written. Conditions: each theorem names its own.
-/
import Derived.Test.YtnnpiblnjflceaaG1
namespace Go.Proofs.Ytnnpiblnjflceaa
open Go.RowKit
set_option maxRecDepth 100000

/-- What lengths cost: the first k places. -/
def costK (lo le : List Int) : Nat → Int
  | 0 => 0
  | k + 1 => costK lo le k + lo.getD k 0 * le.getD k 0

theorem costK_le (lo le : List Int) (h1 : ∀ x ∈ lo, 0 ≤ x ∧ x ≤ 65536) (h2 : ∀ x ∈ le, 0 ≤ x ∧ x ≤ 16) : ∀ k, 0 ≤ costK lo le k ∧ costK lo le k ≤ 1048576 * k
  | 0 => by simp [costK]
  | k + 1 => by
    have ih := costK_le lo le h1 h2 k
    have a1 : 0 ≤ lo.getD k 0 ∧ lo.getD k 0 ≤ 65536 := by
      by_cases h : k < lo.length
      · have := h1 _ (List.getElem_mem h)
        simpa [List.getD, h] using this
      · simp [List.getD, List.getElem?_eq_none (Nat.le_of_not_lt h)]
    have a2 : 0 ≤ le.getD k 0 ∧ le.getD k 0 ≤ 16 := by
      by_cases h : k < le.length
      · have := h2 _ (List.getElem_mem h)
        simpa [List.getD, h] using this
      · simp [List.getD, List.getElem?_eq_none (Nat.le_of_not_lt h)]
    simp only [costK]
    have b1 : 0 ≤ lo.getD k 0 * le.getD k 0 := Int.mul_nonneg a1.1 a2.1
    have b2 : lo.getD k 0 * le.getD k 0 ≤ 65536 * 16 := Int.mul_le_mul a1.2 a2.2 a2.1 (by omega)
    omega

set_option maxHeartbeats 1000000 in
theorem cost_any (A A1 : Option Addr) (n c n1 c1 B : Nat) (lo le : List Int) (hn : lo.length = n) (hn1 : le.length = n1) (hl : n ≤ 1000) (hl1 : n1 ≤ 1000) (h1 : ∀ x ∈ lo, 0 ≤ x ∧ x ≤ 65536) (h2 : ∀ x ∈ le, 0 ≤ x ∧ x ≤ 16) (w : World) (hs : Seen w B 1 A n c (iv lo)) (hs1 : Seen w B 1 A1 n1 c1 (iv le)) :
    Calls Try.prog 55 #[.slice A n c, .slice A1 n1 c1] w fun e w' => e = .returned (.int .i64 (costK lo le (min n n1))) ∧ ∃ m, w' = w.drewN m := by
  have HS := Lib.hid hs; clear hs
  have HS1 := Lib.hid hs1; clear hs1
  have HN := Lib.hid hn; clear hn
  have HN1 := Lib.hid hn1; clear hn1
  have H1 := Lib.hid h1; have H2 := Lib.hid h2
  have HCl := Lib.hid (costK_le lo le h1 h2)
  clear h1 h2
  obtain ⟨N, hN⟩ : ∃ N, min n n1 = N := ⟨_, rfl⟩
  have em : (if (n1 : Int) < n then (n1 : Int) else (n : Int)) = N := by split <;> omega
  have em2 : (if n1 < n then n1 else n) = N := by split <;> omega
  have em3 : (if n1 < n then (n1 : Int) else (n : Int)) = N := by split <;> omega
  rw [hN]
  go_enter Try.func55, Try.ntmps55
  go_wp2_with fail
  go_loopw [5, 6, 12] (fun sm _ i wr => ∃ k m : Nat, k ≤ N ∧ i = .int .i64 k ∧ sm = .int .i64 (costK lo le k) ∧ wr = w.drewN m) (fun _ _ i _ => N - (intOf i).toNat)
  case atStart => exact ⟨0, 0, by omega, rfl, rfl, rfl⟩
  case round =>
    obtain ⟨k, m, hk, rfl, rfl, rfl⟩ := hrel
    have hcl := HCl.out k
    by_cases hlt : k < N
    · have hkl : k < lo.length := by rw [HN.out]; omega
      have hkl1 : k < le.length := by rw [HN1.out]; omega
      obtain ⟨b, o, rfl, _, x1⟩ := HS.out.int HN.out (show k < n by omega)
      obtain ⟨b1, o1, rfl, _, x2⟩ := HS1.out.int HN1.out (show k < n1 by omega)
      have hx := H1.out _ (List.getElem_mem hkl)
      have hy := H2.out _ (List.getElem_mem hkl1)
      have ES : Hid (costK lo le (k + 1) = costK lo le k + lo[k] * le[k]) := Lib.hid (by simp [costK, List.getD, hkl, hkl1])
      obtain ⟨x, hxe⟩ : ∃ x, lo[k] = x := ⟨_, rfl⟩
      obtain ⟨y, hye⟩ : ∃ y, le[k] = y := ⟨_, rfl⟩
      rw [hxe] at x1 hx ES
      rw [hye] at x2 hy ES
      have p1 : 0 ≤ x * y := Int.mul_nonneg hx.1 hy.1
      have p2 : x * y ≤ 65536 * 16 := Int.mul_le_mul hx.2 hy.2 hy.1 (by omega)
      obtain ⟨xy, hxy⟩ : ∃ xy, x * y = xy := ⟨_, rfl⟩
      rw [hxy] at ES p1 p2
      obtain ⟨C, hC⟩ : ∃ C, costK lo le k = C := ⟨_, rfl⟩
      rw [hC] at ES hcl ⊢
      have w1 : IntKind.i64.wrap xy = xy := IntWalk.i64_in _ (by omega)
      have w2 : IntKind.i64.wrap (C + xy) = C + xy := IntWalk.i64_in _ (by omega)
      have k0 : (0 : Int) ≤ k := by omega
      have kn : (k : Int) < n := by omega
      have kn1 : (k : Int) < n1 := by omega
      clear hC hxe hye hkl hkl1 hx hy hN em em2 em3
      go_wp2_with fail
      go_quiet (fail)
      go_wp2_with fail
      go_roundw
      case rel => exact ⟨k + 1, _, by omega, by go_num, by rw [ES.out], rfl⟩
      case measure => simp [intOf]; omega
    · obtain rfl : k = N := by omega
      obtain ⟨C, hC⟩ : ∃ C, costK lo le k = C := ⟨_, rfl⟩
      have HCC := Lib.hid hC
      rw [hC] at hcl ⊢
      clear hC
      go_wp2_with fail
      go_ret
      exact ⟨by rw [HCC.out]; rfl, _, rfl⟩

/-- Only blocks of writers, and rows of bytes, may have changed. -/
def Tw (w w' : World) : Prop := Only (fun k => ∃ t cs, Whole w k t cs ∧ (t = 51 ∨ t = 5)) w w'
theorem Tw.refl (w : World) : Tw w w := Only.refl _ _
theorem Tw.of_below {w w' : World} (h : Below w.heap.size w w') : Tw w w' := Only.of_below h _
theorem Tw.trans {a b c : World} (h : Tw a b) (k : Tw b c) : Tw a c := by
  refine ⟨k.os.trans h.os, k.tape.trans h.tape, k.output.trans h.output, Nat.le_trans h.size k.size, fun i hi hn => ?_⟩
  have e := h.block i hi hn
  refine (k.block i (Nat.lt_of_lt_of_le hi h.size) ?_).trans e
  rintro ⟨t, cs, hw, ht⟩
  exact hn ⟨t, cs, e.symm.trans hw, ht⟩
theorem Tw.drew {a b : World} (h : Tw a b) : Tw a b.drew := Only.drew h
theorem Tw.drewN {a b : World} (h : Tw a b) (n : Nat) : Tw a (b.drewN n) := Only.drewN h n
theorem Whole.tw {w w' : World} {g : Nat} {t : TypeId} {cs : Array Value} (h : Whole w g t cs) (ho : Tw w w') (h1 : t ≠ 51) (h2 : t ≠ 5) : Whole w' g t cs :=
  h.only ho (by
    rintro ⟨t', cs', hw, ht⟩
    rcases ht with rfl | rfl
    · exact h.ne hw h1 rfl
    · exact h.ne hw h2 rfl)
theorem Tw.of_put {w w' : World} {B g : Nat} {sv : Value} {l l' : List Bool} (hw : WriterAt w B g sv l) (h : PutPost w B g sv l' w') : Tw w w' := by
  obtain ⟨sv', h1, h2, h3⟩ := h
  refine h2.mono (fun k _ hk => ?_)
  rcases hk with rfl | hk
  · exact ⟨51, _, hw.2.1, .inl rfl⟩
  · obtain ⟨_, cs, hc⟩ := own_whole hw.2.2 hk
    exact ⟨5, cs, hc, .inr rfl⟩
theorem PutPost.then {w w1 w2 : World} {B g : Nat} {sv sv1 : Value} {l2 : List Bool} (h1 : Only (Foot g sv) w w1) (ha : ∀ k, sv1.ownBlock = some k → sv.ownBlock = some k ∨ w.heap.size ≤ k) (h2 : PutPost w1 B g sv1 l2 w2) : PutPost w B g sv l2 w2 := by
  obtain ⟨sv2, q1, q2, q3⟩ := h2
  refine ⟨sv2, q1, h1.then q2 (fun i hi hf => ?_), fun k hk => ?_⟩
  · rcases hf with rfl | hf
    · exact .inl rfl
    · rcases ha i hf with h | h
      · exact .inr h
      · omega
  · rcases q3 k hk with h | h
    · exact ha k h
    · exact .inr (Nat.le_trans h1.size h)

theorem start_any (B g : Nat) (sv : Value) (l : List Bool) (kind : Nat) (hk : kind < 4) (last : Bool) (w : World) (hw : WriterAt w B g sv l) (hl : l.length ≤ 900000) :
    Calls Try.prog 31 #[.pointer (some ⟨g, 0, none⟩), .int .u32 kind, .bool last] w fun e w' => e = .returned (.tuple #[]) ∧ PutPost w B g sv (l ++ headB kind last) w' := by
  have HW := Lib.hid hw; clear hw
  obtain ⟨x, hx⟩ : ∃ x : Nat, (if last then 1 else 0) = x := ⟨_, rfl⟩
  have hx1 : x ≤ 1 := by rw [← hx]; split <;> omega
  have hh : headB kind last = bitsOf x 1 ++ bitsOf kind 2 := by unfold headB; rw [hx]
  rw [hh]
  clear hh
  cases last with
  | true =>
    obtain rfl : x = 1 := by simpa using hx.symm
    clear hx
    go_enter Try.func31, Try.ntmps31
    go_wp2_with fail
    refine (put_yes 1 1 B g sv l (by omega) (by omega) w HW.out (by omega)).mono ?_
    rintro e w1 ⟨rfl, sv1, p1, p2, p3⟩
    have P1 := Lib.hid p1; have P2 := Lib.hid p2; have P3 := Lib.hid p3; clear p1 p2 p3
    go_wp2_with fail
    refine (put_yes kind 2 B g sv1 _ (by omega) (by omega) w1 P1.out (by simp; omega)).mono ?_
    rintro e w2 ⟨rfl, p⟩
    have PP := Lib.hid (PutPost.then P2.out P3.out p); clear p
    go_wp2_with fail
    go_end0
    refine ⟨rfl, ?_⟩
    rw [← List.append_assoc]
    exact PP.out
  | false =>
    obtain rfl : x = 0 := by simpa using hx.symm
    clear hx
    go_enter Try.func31, Try.ntmps31
    go_wp2_with fail
    refine (put_yes 0 1 B g sv l (by omega) (by omega) w HW.out (by omega)).mono ?_
    rintro e w1 ⟨rfl, sv1, p1, p2, p3⟩
    have P1 := Lib.hid p1; have P2 := Lib.hid p2; have P3 := Lib.hid p3; clear p1 p2 p3
    go_wp2_with fail
    refine (put_yes kind 2 B g sv1 _ (by omega) (by omega) w1 P1.out (by simp; omega)).mono ?_
    rintro e w2 ⟨rfl, p⟩
    have PP := Lib.hid (PutPost.then P2.out P3.out p); clear p
    go_wp2_with fail
    go_end0
    refine ⟨rfl, ?_⟩
    rw [← List.append_assoc]
    exact PP.out

theorem head47_any (B g : Nat) (sv : Value) (l : List Bool) (last : Bool) (w : World) (hw : WriterAt w B g sv l) (hl : l.length ≤ 900000) :
    Calls Try.prog 47 #[.pointer (some ⟨g, 0, none⟩), .bool last] w fun e w' => e = .returned (.tuple #[]) ∧ PutPost w B g sv (l ++ headB 1 last) w' := by
  have CS := Lib.hid (start_any B g sv l 1 (by omega) last w hw hl)
  clear hw
  go_enter Try.func47, Try.ntmps47
  go_wp2_with fail
  refine CS.out.mono ?_
  rintro e w1 ⟨rfl, p⟩
  have PP := Lib.hid p; clear p
  go_wp2_with fail
  go_end0
  exact ⟨rfl, PP.out⟩
end Go.Proofs.Ytnnpiblnjflceaa
