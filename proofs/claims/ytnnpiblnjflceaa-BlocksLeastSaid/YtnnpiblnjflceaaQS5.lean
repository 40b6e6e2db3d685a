/-
  Contracts of the library's stable sort at rows of signs: ranges swapped, rotations. Conditions: fewer than a million signs.
  Contracts of the library's stable sort at rows of signs: the merge in place. Conditions: fewer than a million signs.
-/
import Derived.Test.YtnnpiblnjflceaaQG2
import Derived.Test.YtnnpiblnjflceaaQS3
import Derived.Deep.LoopGhost
import Derived.Shelf.SlSortCmp.QuietGrown
namespace Go.Proofs.Ytnnpiblnjflceaa
open Go.Proofs Go.Shelf Go.RowKit Go.Sort Go.Lib
set_option maxRecDepth 100000

set_option maxHeartbeats 4000000 in
set_option maxRecDepth 1000000 in
theorem swapI (N : Nat) [Inhabited (Fin N)] (fv : Value) (blk cap a b n : Nat) (d0 d : Array (Fin N)) (w0 w : World) (R : Row1 (encF N) w0 blk 0 d0) (hs : d0.size = d.size) (S : SW (encF N) w0 blk 0 d w) (hab : a + n ≤ b) (hb : b + n ≤ d.size) (hsz : d.size < 1000000) :
    Calls Try.prog 103 #[.slice (some ⟨blk, 0, none⟩) d.size cap, .int .i64 a, .int .i64 b, .int .i64 n, fv] w fun e w' => e = .returned (.tuple #[]) ∧ SW (encF N) w0 blk 0 (swapR d a b n) w' := by
  have S0 := Lib.hid S; clear S
  have HR := Lib.hid R; clear R
  have HS := Lib.hid hs; clear hs
  obtain ⟨z, hz⟩ : ∃ z, d.size = z := ⟨_, rfl⟩
  have HZ := Lib.hid hz
  rw [hz] at hb hsz ⊢
  clear hz
  go_enter Try.func103, Try.ntmps103
  go_wp2_with fail
  go_loopw [10] (fun v wr => ∃ i : Nat, i ≤ n ∧ v = .int .i64 i ∧ SW (encF N) w0 blk 0 (swapR d a b i) wr) (fun v _ => n - (intOf v).toNat)
  case atStart => exact ⟨0, by omega, rfl, S0.out⟩
  case round =>
    clear S0
    obtain ⟨i, hi, rfl, hS⟩ := hrel
    have S1 := Lib.hid hS; clear hS
    have hsw : (swapR d a b i).size = d0.size := by rw [swapR_size, HS.out]
    by_cases hlt : i < n
    · obtain ⟨p, hp⟩ : ∃ p, a + i = p := ⟨_, rfl⟩
      obtain ⟨q, hq⟩ : ∃ q, b + i = q := ⟨_, rfl⟩
      have hpz : p < (swapR d a b i).size := by rw [swapR_size, HZ.out]; omega
      have hqz : q < (swapR d a b i).size := by rw [swapR_size, HZ.out]; omega
      have S2 : Hid (SW (encF N) w0 blk 0 (swapR d a b (i + 1)) ((wr.setCell ⟨blk, 0 + p, none⟩ (encF N (swapR d a b i)[q]!)).setCell ⟨blk, 0 + q, none⟩ (encF N (swapR d a b i)[p]!)).drew) := Lib.hid (by
        rw [swapR, hp, hq]; exact S1.out.swapped HR.out p q hpz hqz)
      have ca := S1.out.c1 HR.out hsw p hpz
      have cb := S1.out.c1 HR.out hsw q hqz
      have fa := S1.out.f1 HR.out hsw p hpz
      have fb := S1.out.f1 HR.out hsw q hqz
      simp only [encF, Nat.zero_add] at ca cb fa fb S2
      obtain ⟨x, hx⟩ : ∃ x, ((swapR d a b i)[p]!).val = x := ⟨_, rfl⟩
      obtain ⟨y, hy⟩ : ∃ y, ((swapR d a b i)[q]!).val = y := ⟨_, rfl⟩
      rw [hx] at ca S2
      rw [hy] at cb S2
      have wp : IntKind.i64.wrap ((a : Int) + i) = p := by rw [IntWalk.i64_in _ (by omega)]; omega
      have wq : IntKind.i64.wrap ((b : Int) + i) = q := by rw [IntWalk.i64_in _ (by omega)]; omega
      have wp' : ((a : Int) + i) = p := by omega
      have wq' : ((b : Int) + i) = q := by omega
      have p0 : (0 : Int) ≤ p := by omega
      have q0 : (0 : Int) ≤ q := by omega
      have pz : (p : Int) < z := by omega
      have qz : (q : Int) < z := by omega
      have hpq : p ≠ q := by omega
      have HPQ := Lib.hid (And.intro hp hq)
      clear hx hy hp hq hpz hqz hsw
      go_wp2_with fail
      go_region
      go_wp2_with fail
      go_roundw
      case rel => exact ⟨i + 1, by omega, by go_num, S2.out⟩
      case measure => simp [intOf]; omega
    · obtain rfl : i = n := by omega
      clear hsw
      go_wp2_with fail
      go_end0
      exact ⟨rfl, S1.out⟩

set_option maxHeartbeats 4000000 in
set_option maxRecDepth 1000000 in
theorem rotI (N : Nat) [Inhabited (Fin N)] (fv : Value) (blk cap a m b : Nat) (d0 d : Array (Fin N)) (w0 w : World) (R : Row1 (encF N) w0 blk 0 d0) (hs : d0.size = d.size) (S : SW (encF N) w0 blk 0 d w) (ham : a < m) (hmb : m < b) (hb : b ≤ d.size) (hsz : d.size < 1000000) :
    Calls Try.prog 100 #[.slice (some ⟨blk, 0, none⟩) d.size cap, .int .i64 a, .int .i64 m, .int .i64 b, fv] w fun e w' => e = .returned (.tuple #[]) ∧ SW (encF N) w0 blk 0 (rotL m (b - a) d (m - a) (b - m)) w' := by
  have S0 := Lib.hid S; clear S
  have HR := Lib.hid R; clear R
  have HS := Lib.hid hs; clear hs
  obtain ⟨z, hz⟩ : ∃ z, d.size = z := ⟨_, rfl⟩
  have HZ := Lib.hid hz
  rw [hz] at hb hsz ⊢
  clear hz
  obtain ⟨T, hT⟩ : ∃ T, rotL m (b - a) d (m - a) (b - m) = T := ⟨_, rfl⟩
  rw [hT]
  have HT := Lib.hid hT
  go_enter Try.func100, Try.ntmps100
  go_wp2_with fail
  have e1 : ((m : Int) - a) = (m - a : Nat) := by omega
  have e2 : ((b : Int) - m) = (b - m : Nat) := by omega
  rw [e1, e2]
  clear e1 e2
  go_loopw [10, 11] (fun vi vj wr => ∃ (i j f : Nat) (d' : Array (Fin N)), vi = .int .i64 i ∧ vj = .int .i64 j ∧ 0 < i ∧ 0 < j ∧ i ≤ m ∧ m + j ≤ z ∧ i + j ≤ f ∧ d'.size = z ∧ rotL m f d' i j = T ∧ SW (encF N) w0 blk 0 d' wr) (fun vi vj _ => (intOf vi).toNat + (intOf vj).toNat)
  case atStart => exact ⟨m - a, b - m, b - a, d, rfl, rfl, by omega, by omega, by omega, by omega, by omega, HZ.out, hT, S0.out⟩
  case round =>
    clear S0 hT
    obtain ⟨i, j, f, d', rfl, rfl, hi, hj, him, hmj, hf, hd', hrot, hS⟩ := hrel
    have S1 := Lib.hid hS; clear hS
    have HD := Lib.hid hd'; clear hd'
    have HRo := Lib.hid hrot; clear hrot
    obtain ⟨f', rfl⟩ : ∃ f', f = f' + 1 := ⟨f - 1, by omega⟩
    obtain ⟨mi, hmi⟩ : ∃ mi, m - i = mi := ⟨_, rfl⟩
    have wmi : ((m : Int) - i) = mi := by omega
    have CS : Hid (∀ (x y n : Nat), x + n ≤ y → y + n ≤ z → Calls Try.prog 103 #[.slice (some ⟨blk, 0, none⟩) z cap, .int .i64 x, .int .i64 y, .int .i64 n, fv] wr fun e w' => e = .returned (.tuple #[]) ∧ SW (encF N) w0 blk 0 (swapR d' x y n) w') := Lib.hid (fun x y n h1 h2 => by
      have := swapI N fv blk cap x y n d0 d' w0 wr HR.out (by rw [HS.out, HZ.out, HD.out]) S1.out h1 (by rw [HD.out]; exact h2) (by rw [HD.out]; exact hsz)
      rw [HD.out] at this
      exact this)
    by_cases hij : i = j
    · subst hij
      have C1 := Lib.hid (CS.out mi m i (by omega) (by omega))
      have HF : Hid (swapR d' mi m i = T) := Lib.hid (by rw [← HRo.out, rotL, if_pos rfl, hmi])
      go_wp2_with (go_at_call 103; refine C1.out.mono ?_; rintro e w1 ⟨rfl, hS1⟩; have S3 := Lib.hid hS1; clear hS1)
      go_end0
      exact ⟨rfl, by rw [← HF.out]; exact S3.out⟩
    · have dij : ((i : Int) == j) = false := by simp; omega
      have dij2 : ((i : Int) != j) = true := by simp; omega
      by_cases hji : j < i
      · have C1 := Lib.hid (CS.out mi m j (by omega) (by omega))
        have HF : Hid (rotL m f' (swapR d' mi m j) (i - j) j = T) := Lib.hid (by rw [← HRo.out, rotL, if_neg hij, if_pos hji, hmi])
        go_wp2_with (go_at_call 103; refine C1.out.mono ?_; rintro e w1 ⟨rfl, hS1⟩; have S3 := Lib.hid hS1; clear hS1)
        go_roundw
        case rel => exact ⟨i - j, j, f', swapR d' mi m j, by go_num, rfl, by omega, hj, by omega, hmj, by omega, by rw [swapR_size, HD.out], HF.out, S3.out⟩
        case measure => simp [intOf]; omega
      · obtain ⟨q, hq⟩ : ∃ q, m + j - i = q := ⟨_, rfl⟩
        have wq : ((m : Int) + j - i) = q := by omega
        have C1 := Lib.hid (CS.out mi q i (by omega) (by omega))
        have HF : Hid (rotL m f' (swapR d' mi q i) i (j - i) = T) := Lib.hid (by rw [← HRo.out, rotL, if_neg hij, if_neg hji, hmi, hq])
        have HQ := Lib.hid hq
        clear hq
        go_wp2_with (go_at_call 103; refine C1.out.mono ?_; rintro e w1 ⟨rfl, hS1⟩; have S3 := Lib.hid hS1; clear hS1)
        go_roundw
        case rel => exact ⟨i, j - i, f', swapR d' mi q i, rfl, by go_num, hi, by omega, him, by omega, by omega, by rw [swapR_size, HD.out], HF.out, S3.out⟩
        case measure => simp [intOf]; omega
end Go.Proofs.Ytnnpiblnjflceaa

namespace Go.Proofs.Ytnnpiblnjflceaa
open Go.Proofs Go.Shelf Go.RowKit Go.Sort Go.Lib

set_option maxHeartbeats 4000000 in
set_option maxRecDepth 1000000 in
theorem symI_one (N : Nat) [Inhabited (Fin N)] (cf : Fin N → Fin N → Int) (g : Nat) (cb : Array Value) (blk cap a m b : Nat) (d0 d : Array (Fin N)) (w0 w : World) (eg : ∀ args w, (callFunc g args).run Try.prog w = .ok (.enter g args) w) (hcmp : CmpLays1 Try.prog g cb (encF N) cf blk 0 d0.size w0) (R : Row1 (encF N) w0 blk 0 d0) (hs : d0.size = d.size) (S : SW (encF N) w0 blk 0 d w) (ham : a + 1 = m) (hmb : m < b) (hb : b ≤ d.size) (hsz : d.size < 1000000) :
    Calls Try.prog 98 #[.slice (some ⟨blk, 0, none⟩) d.size cap, .int .i64 a, .int .i64 m, .int .i64 b, .func (.func g) #[] cb] w fun e w' => e = .returned (.tuple #[]) ∧ SW (encF N) w0 blk 0 (shr d a (bs (fun h => ltOf cf d[h]! d[a]!) (b - m) m b - 1 - a)) w' := by
  have mixed : Try.prog.follows .mixedOrders = true := by kernel_rfl
  have S0 := Lib.hid S; clear S
  have HR := Lib.hid R; clear R
  have HS := Lib.hid hs; clear hs
  have HC := Lib.hid hcmp; clear hcmp
  obtain ⟨z, hz⟩ : ∃ z, d.size = z := ⟨_, rfl⟩
  have HZ := Lib.hid hz
  rw [hz] at hb hsz ⊢
  clear hz
  obtain ⟨T, hT⟩ : ∃ T, bs (fun h => ltOf cf d[h]! d[a]!) (b - m) m b = T := ⟨_, rfl⟩
  have hT1 := bs_spec (fun h => ltOf cf d[h]! d[a]!) (b - m) m b (by omega) (by omega)
  rw [hT] at hT1 ⊢
  obtain ⟨hT1, hT2, -⟩ := hT1
  have HT := Lib.hid hT
  go_enter Try.func98, Try.ntmps98
  have e1 : ((m : Int) - a) = 1 := by omega
  go_wp2_with fail
  clear hT
  go_loopw [10, 11] (fun vi vj wr => ∃ (i j f : Nat), vi = .int .i64 i ∧ vj = .int .i64 j ∧ m ≤ i ∧ i ≤ j ∧ j ≤ b ∧ j - i ≤ f ∧ bs (fun h => ltOf cf d[h]! d[a]!) f i j = T ∧ SW (encF N) w0 blk 0 d wr) (fun vi vj _ => (intOf vj).toNat - (intOf vi).toNat)
  case atStart => exact ⟨m, b, b - m, rfl, rfl, by omega, by omega, by omega, by omega, HT.out, S0.out⟩
  case round =>
    clear S0 HT
    obtain ⟨i, j, f, rfl, rfl, hi, hj, hjb, hf, hbs, hS⟩ := hrel
    have S1 := Lib.hid hS; clear hS
    have HB := Lib.hid hbs; clear hbs
    by_cases hij : i < j
    · obtain ⟨f', rfl⟩ : ∃ f', f = f' + 1 := ⟨f - 1, by omega⟩
      obtain ⟨h, hh⟩ : ∃ h, (i + j) / 2 = h := ⟨_, rfl⟩
      have hsz2 : d.size = d0.size := HS.out.symm
      have ch := S1.out.cl HR.out hsz2 h (by rw [HZ.out]; omega)
      have ca := S1.out.cl HR.out hsz2 a (by rw [HZ.out]; omega)
      have wh : ((i : Int) + j) / 2 = h := by omega
      have h0 : (0 : Int) ≤ h := by omega
      have hzz : (h : Int) < z := by omega
      have a0 : (0 : Int) ≤ a := by omega
      have azz : (a : Int) < z := by omega
      obtain ⟨x, hx⟩ : ∃ x, x = d[h]! := ⟨_, rfl⟩
      obtain ⟨y, hy⟩ : ∃ x, x = d[a]! := ⟨_, rfl⟩
      rw [← hx] at ch
      rw [← hy] at ca
      simp only [Nat.zero_add] at ch ca
      have hcm := S1.out.cmp HC.out hsz2 x y
      have HXY := Lib.hid (And.intro hx hy)
      clear hx hy hsz2
      have HH := Lib.hid hh; clear hh
      go_wp2_with fail
      clear wh
      go_quiet_grown (first | (go_at_fn g; refine Calls.grown_of (hcm _ _)))
      have S2 : Hid (SW (encF N) w0 blk 0 d (grow (wr.drewN nq) osq)) := Lib.hid (S1.out.grown nq osq)
      clear ch ca hcm S1 a0 azz
      generalize grow (wr.drewN nq) osq = w2 at S2 ⊢
      clear nq osq
      cases hlv : decide (cf x y < 0) with
      | true =>
        have HN : Hid (bs (fun h => ltOf cf d[h]! d[a]!) f' (h + 1) j = T) := Lib.hid (by
          rw [← HB.out, bs, if_pos hij, HH.out, if_pos (by show decide _ = true; rw [← HXY.out.1, ← HXY.out.2]; exact hlv)])
        have hlv' : cf x y < 0 := of_decide_eq_true hlv
        clear hlv
        go_wp2_with fail
        go_roundw
        case rel => exact ⟨h + 1, j, f', by go_num, rfl, by have := HH.out; omega, by have := HH.out; omega, hjb, by have := HH.out; omega, HN.out, S2.out⟩
        case measure => have := HH.out; simp [intOf]; omega
      | false =>
        have HN : Hid (bs (fun h => ltOf cf d[h]! d[a]!) f' i h = T) := Lib.hid (by
          rw [← HB.out, bs, if_pos hij, HH.out, if_neg (by show ¬ decide _ = true; rw [← HXY.out.1, ← HXY.out.2]; rw [hlv]; simp)])
        have hlv' : ¬ cf x y < 0 := of_decide_eq_false hlv
        clear hlv
        go_wp2_with fail
        go_roundw
        case rel => exact ⟨i, h, f', rfl, rfl, by omega, by have := HH.out; omega, by have := HH.out; omega, by have := HH.out; omega, HN.out, S2.out⟩
        case measure => have := HH.out; simp [intOf]; omega
    · obtain rfl : i = j := by omega
      have hiT : i = T := by rw [← HB.out]; cases f <;> simp [bs]
      clear HB
      subst hiT
      go_wp2_with fail
      go_loopw [13] (fun v wr => ∃ k : Nat, k ≤ i - 1 - a ∧ v = .int .i64 (a + k : Nat) ∧ SW (encF N) w0 blk 0 (shr d a k) wr) (fun v _ => i - (intOf v).toNat)
      case atStart => exact ⟨0, by omega, rfl, S1.out⟩
      case round =>
        clear S1
        obtain ⟨k, hk, rfl, hS⟩ := hrel
        have S1 := Lib.hid hS; clear hS
        obtain ⟨p, hp⟩ : ∃ p, a + k = p := ⟨_, rfl⟩
        rw [hp]
        by_cases hlt : k < i - 1 - a
        · obtain ⟨q, hq⟩ : ∃ q, p + 1 = q := ⟨_, rfl⟩
          have hsw : (shr d a k).size = d0.size := by rw [shr_size, HS.out]
          have hpz : p < (shr d a k).size := by rw [shr_size, HZ.out]; omega
          have hqz : q < (shr d a k).size := by rw [shr_size, HZ.out]; omega
          have S2 : Hid (SW (encF N) w0 blk 0 (shr d a (k + 1)) ((wr.setCell ⟨blk, 0 + p, none⟩ (encF N (shr d a k)[q]!)).setCell ⟨blk, 0 + q, none⟩ (encF N (shr d a k)[p]!)).drew) := Lib.hid (by
            rw [shr, hp, hq]; exact S1.out.swapped HR.out p q hpz hqz)
          have ca := S1.out.c1 HR.out hsw p hpz
          have cb' := S1.out.c1 HR.out hsw q hqz
          have fa := S1.out.f1 HR.out hsw p hpz
          have fb := S1.out.f1 HR.out hsw q hqz
          simp only [encF, Nat.zero_add] at ca cb' fa fb S2
          obtain ⟨x, hx⟩ : ∃ x, ((shr d a k)[p]!).val = x := ⟨_, rfl⟩
          obtain ⟨y, hy⟩ : ∃ y, ((shr d a k)[q]!).val = y := ⟨_, rfl⟩
          rw [hx] at ca S2
          rw [hy] at cb' S2
          have wq : IntKind.i64.wrap ((p : Int) + 1) = q := by rw [IntWalk.i64_in _ (by omega)]; omega
          have wq' : ((p : Int) + 1) = q := by omega
          have p0 : (0 : Int) ≤ p := by omega
          have q0 : (0 : Int) ≤ q := by omega
          have pz : (p : Int) < z := by omega
          have qz : (q : Int) < z := by omega
          have hpq : p ≠ q := by omega
          have tst : (p : Int) < (i : Int) - 1 := by omega
          have HPQ := Lib.hid (And.intro hp hq)
          clear hx hy hp hq hpz hqz hsw
          go_wp2_with fail
          go_region
          go_wp2_with fail
          go_roundw
          case rel => exact ⟨k + 1, by omega, by have := HPQ.out; congr 1; omega, S2.out⟩
          case measure => have := HPQ.out; simp [intOf]; omega
        · have tst : ¬ (p : Int) < (i : Int) - 1 := by omega
          obtain rfl : k = i - 1 - a := by omega
          go_wp2_with fail
          refine bodyPost_ret (results_none rfl _ _ _) rfl ?_
          exact ⟨rfl, S1.out⟩
set_option maxHeartbeats 4000000 in
set_option maxRecDepth 1000000 in
theorem symI_last (N : Nat) [Inhabited (Fin N)] (cf : Fin N → Fin N → Int) (g : Nat) (cb : Array Value) (blk cap a m b : Nat) (d0 d : Array (Fin N)) (w0 w : World) (eg : ∀ args w, (callFunc g args).run Try.prog w = .ok (.enter g args) w) (hcmp : CmpLays1 Try.prog g cb (encF N) cf blk 0 d0.size w0) (R : Row1 (encF N) w0 blk 0 d0) (hs : d0.size = d.size) (S : SW (encF N) w0 blk 0 d w) (ham : a + 1 < m) (hmb : m + 1 = b) (hb : b ≤ d.size) (hsz : d.size < 1000000) :
    Calls Try.prog 98 #[.slice (some ⟨blk, 0, none⟩) d.size cap, .int .i64 a, .int .i64 m, .int .i64 b, .func (.func g) #[] cb] w fun e w' => e = .returned (.tuple #[]) ∧ SW (encF N) w0 blk 0 (shl d m (m - bs (fun h => !ltOf cf d[m]! d[h]!) (m - a) a m)) w' := by
  have mixed : Try.prog.follows .mixedOrders = true := by kernel_rfl
  have S0 := Lib.hid S; clear S
  have HR := Lib.hid R; clear R
  have HS := Lib.hid hs; clear hs
  have HC := Lib.hid hcmp; clear hcmp
  obtain ⟨z, hz⟩ : ∃ z, d.size = z := ⟨_, rfl⟩
  have HZ := Lib.hid hz
  rw [hz] at hb hsz ⊢
  clear hz
  obtain ⟨T, hT⟩ : ∃ T, bs (fun h => !ltOf cf d[m]! d[h]!) (m - a) a m = T := ⟨_, rfl⟩
  have hT1 := bs_spec (fun h => !ltOf cf d[m]! d[h]!) (m - a) a m (by omega) (by omega)
  rw [hT] at hT1 ⊢
  obtain ⟨hT1, hT2, -⟩ := hT1
  have HT := Lib.hid hT
  go_enter Try.func98, Try.ntmps98
  have e1 : ((m : Int) - a == 1) = false := by simp; omega
  have e2 : ((b : Int) - m) = 1 := by omega
  have e3 : ¬ ((m : Int) - a = 1) := by omega
  go_wp2_with fail
  clear hT
  go_loopw [14, 15] (fun vi vj wr => ∃ (i j f : Nat), vi = .int .i64 i ∧ vj = .int .i64 j ∧ a ≤ i ∧ i ≤ j ∧ j ≤ m ∧ j - i ≤ f ∧ bs (fun h => !ltOf cf d[m]! d[h]!) f i j = T ∧ SW (encF N) w0 blk 0 d wr) (fun vi vj _ => (intOf vj).toNat - (intOf vi).toNat)
  case atStart => exact ⟨a, m, m - a, rfl, rfl, by omega, by omega, by omega, by omega, HT.out, S0.out⟩
  case round =>
    clear S0 HT
    obtain ⟨i, j, f, rfl, rfl, hi, hj, hjb, hf, hbs, hS⟩ := hrel
    have S1 := Lib.hid hS; clear hS
    have HB := Lib.hid hbs; clear hbs
    by_cases hij : i < j
    · obtain ⟨f', rfl⟩ : ∃ f', f = f' + 1 := ⟨f - 1, by omega⟩
      obtain ⟨h, hh⟩ : ∃ h, (i + j) / 2 = h := ⟨_, rfl⟩
      have hsz2 : d.size = d0.size := HS.out.symm
      have ch := S1.out.cl HR.out hsz2 h (by rw [HZ.out]; omega)
      have ca := S1.out.cl HR.out hsz2 m (by rw [HZ.out]; omega)
      have wh : ((i : Int) + j) / 2 = h := by omega
      have h0 : (0 : Int) ≤ h := by omega
      have hzz : (h : Int) < z := by omega
      have a0 : (0 : Int) ≤ m := by omega
      have azz : (m : Int) < z := by omega
      obtain ⟨x, hx⟩ : ∃ x, x = d[h]! := ⟨_, rfl⟩
      obtain ⟨y, hy⟩ : ∃ x, x = d[m]! := ⟨_, rfl⟩
      rw [← hx] at ch
      rw [← hy] at ca
      simp only [Nat.zero_add] at ch ca
      have hcm := S1.out.cmp HC.out hsz2 y x
      have HXY := Lib.hid (And.intro hx hy)
      clear hx hy hsz2
      have HH := Lib.hid hh; clear hh
      go_wp2_with fail
      clear wh
      go_quiet_grown (first | (go_at_fn g; refine Calls.grown_of (hcm _ _)))
      have S2 : Hid (SW (encF N) w0 blk 0 d (grow (wr.drewN nq) osq)) := Lib.hid (S1.out.grown nq osq)
      clear ch ca hcm S1 a0 azz
      generalize grow (wr.drewN nq) osq = w2 at S2 ⊢
      clear nq osq
      cases hlv : decide (cf y x < 0) with
      | true =>
        have HN : Hid (bs (fun h => !ltOf cf d[m]! d[h]!) f' i h = T) := Lib.hid (by
          rw [← HB.out, bs, if_pos hij, HH.out, if_neg (by show ¬ (!decide _) = true; rw [← HXY.out.1, ← HXY.out.2]; rw [hlv]; simp)])
        have hlv' : cf y x < 0 := of_decide_eq_true hlv
        clear hlv
        go_wp2_with fail
        go_roundw
        case rel => exact ⟨i, h, f', rfl, rfl, by omega, by have := HH.out; omega, by have := HH.out; omega, by have := HH.out; omega, HN.out, S2.out⟩
        case measure => have := HH.out; simp [intOf]; omega
      | false =>
        have HN : Hid (bs (fun h => !ltOf cf d[m]! d[h]!) f' (h + 1) j = T) := Lib.hid (by
          rw [← HB.out, bs, if_pos hij, HH.out, if_pos (by show (!decide _) = true; rw [← HXY.out.1, ← HXY.out.2]; rw [hlv]; rfl)])
        have hlv' : ¬ cf y x < 0 := of_decide_eq_false hlv
        clear hlv
        go_wp2_with fail
        go_roundw
        case rel => exact ⟨h + 1, j, f', by go_num, rfl, by have := HH.out; omega, by have := HH.out; omega, hjb, by have := HH.out; omega, HN.out, S2.out⟩
        case measure => have := HH.out; simp [intOf]; omega
    · obtain rfl : i = j := by omega
      have hiT : i = T := by rw [← HB.out]; cases f <;> simp [bs]
      clear HB
      subst hiT
      go_wp2_with fail
      go_loopw [17] (fun v wr => ∃ k : Nat, k ≤ m - i ∧ v = .int .i64 (m - k : Nat) ∧ SW (encF N) w0 blk 0 (shl d m k) wr) (fun v _ => (intOf v).toNat)
      case atStart => exact ⟨0, by omega, rfl, S1.out⟩
      case round =>
        clear S1
        obtain ⟨k, hk, rfl, hS⟩ := hrel
        have S1 := Lib.hid hS; clear hS
        obtain ⟨p, hp⟩ : ∃ p, m - k = p := ⟨_, rfl⟩
        rw [hp]
        by_cases hlt : k < m - i
        · obtain ⟨q, hq⟩ : ∃ q, p - 1 = q := ⟨_, rfl⟩
          have hsw : (shl d m k).size = d0.size := by rw [shl_size, HS.out]
          have hpz : p < (shl d m k).size := by rw [shl_size, HZ.out]; omega
          have hqz : q < (shl d m k).size := by rw [shl_size, HZ.out]; omega
          have S2 : Hid (SW (encF N) w0 blk 0 (shl d m (k + 1)) ((wr.setCell ⟨blk, 0 + p, none⟩ (encF N (shl d m k)[q]!)).setCell ⟨blk, 0 + q, none⟩ (encF N (shl d m k)[p]!)).drew) := Lib.hid (by
            rw [shl, hp, hq]; exact S1.out.swapped HR.out p q hpz hqz)
          have ca := S1.out.c1 HR.out hsw p hpz
          have cb' := S1.out.c1 HR.out hsw q hqz
          have fa := S1.out.f1 HR.out hsw p hpz
          have fb := S1.out.f1 HR.out hsw q hqz
          simp only [encF, Nat.zero_add] at ca cb' fa fb S2
          obtain ⟨x, hx⟩ : ∃ x, ((shl d m k)[p]!).val = x := ⟨_, rfl⟩
          obtain ⟨y, hy⟩ : ∃ y, ((shl d m k)[q]!).val = y := ⟨_, rfl⟩
          rw [hx] at ca S2
          rw [hy] at cb' S2
          have wq : IntKind.i64.wrap ((p : Int) - 1) = q := by rw [IntWalk.i64_in _ (by omega)]; omega
          have wq' : ((p : Int) - 1) = q := by omega
          have p0 : (0 : Int) ≤ p := by omega
          have q0 : (0 : Int) ≤ q := by omega
          have pz : (p : Int) < z := by omega
          have qz : (q : Int) < z := by omega
          have hpq : p ≠ q := by omega
          have tst : (i : Int) < (p : Int) := by omega
          have tst2 : decide ((p : Int) > i) = true := decide_eq_true tst
          have HPQ := Lib.hid (And.intro hp hq)
          clear hx hy hp hq hpz hqz hsw
          go_wp2_with fail
          go_region
          go_wp2_with fail
          go_roundw
          case rel => exact ⟨k + 1, by omega, by have := HPQ.out; congr 1; omega, S2.out⟩
          case measure => have := HPQ.out; simp [intOf]; omega
        · have tst : ¬ (i : Int) < (p : Int) := by omega
          have tst2 : decide ((p : Int) > i) = false := decide_eq_false tst
          obtain rfl : k = m - i := by omega
          go_wp2_with fail
          refine bodyPost_ret (results_none rfl _ _ _) rfl ?_
          exact ⟨rfl, S1.out⟩
end Go.Proofs.Ytnnpiblnjflceaa
