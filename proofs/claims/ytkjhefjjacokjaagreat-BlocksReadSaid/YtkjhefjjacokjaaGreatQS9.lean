/-
  Contracts of the library's stable sort at rows of signs: the whole. Conditions: fewer than a million signs.
  Contracts of the library's stable sort at rows of packs: ranges swapped, rotations. Conditions: fewer than a million packs.
  Contracts of the library's stable sort at rows of packs: the merge in place. Conditions: fewer than a million packs.
-/
import Derived.Test.YtkjhefjjacokjaaGreatQS6
import Derived.Shelf.SlSortCmp.KitK
import Derived.Sort.WalkB2
import Derived.Sort.WalkB12
import Derived.Shelf.SlSortCmp.QuietGrown
namespace Go.Proofs.YtkjhefjjacokjaaGreat
open Go.Proofs Go.Shelf Go.RowKit Go.Sort Go.Lib
set_option maxRecDepth 100000
set_option maxHeartbeats 4000000 in
set_option maxRecDepth 1000000 in
theorem stabI (N : Nat) [Inhabited (Fin N)] (cf : Fin N → Fin N → Int) (hO : SWO (ltOf cf)) (g : Nat) (cb : Array Value) (blk cap : Nat) (d : Array (Fin N)) (w : World) (eg : ∀ args w, (callFunc g args).run Tryz.prog w = .ok (.enter g args) w) (hcmp : CmpLays1 Tryz.prog g cb (encF N) cf blk 0 d.size w) (R : Row1 (encF N) w blk 0 d) (hsz : d.size < 1000000) :
    Calls Tryz.prog 114 #[.slice (some ⟨blk, 0, none⟩) d.size cap, .int .i64 d.size, .func (.func g) #[] cb] w fun e w' => e = .returned (.tuple #[]) ∧ SW (encF N) w blk 0 (stab (ltOf cf) d) w' := by
  have S0 : Hid (SW (encF N) w blk 0 d w) := Lib.hid (SW.start R.hH)
  have CI := Lib.hid (fun (d' : Array (Fin N)) (w' : World) (a b : Nat) (h1 : d'.size = d.size) (S : SW (encF N) w blk 0 d' w') (h2 : a ≤ b) (h3 : b ≤ d.size) =>
    show Calls Tryz.prog 119 #[.slice (some ⟨blk, 0, none⟩) d.size cap, .int .i64 a, .int .i64 b, .func (.func g) #[] cb] w' (fun e w' => e = .returned (.tuple #[]) ∧ SW (encF N) w blk 0 (Sort.insertionSort (ltOf cf) d' a b) w') from
      h1 ▸ Any.insertionSortCmpFunc_s Tryz.insI (encF N) cf g cb blk 0 cap a b d d' w w' eg hcmp R h1.symm S h2 (by omega) (by omega))
  have CS := Lib.hid (symI N cf g cb blk cap d w eg hcmp R hsz)
  have HSz := Lib.hid (fun (d' : Array (Fin N)) (a b : Nat) (h1 : a ≤ b) (h2 : b ≤ d'.size) => (insertionSort_holds hO d' a b h1 h2).1.1)
  clear hcmp R eg hO
  obtain ⟨T, hT⟩ : ∃ T, stab (ltOf cf) d = T := ⟨_, rfl⟩
  rw [hT]
  obtain ⟨I, hI⟩ : ∃ I, insB (ltOf cf) d.size d 0 = I := ⟨_, rfl⟩
  have HT : Hid (stabL (ltOf cf) d.size I 20 = T) := Lib.hid (by rw [← hI, ← hT]; rfl)
  clear hT
  obtain ⟨z, hz⟩ : ∃ z, d.size = z := ⟨_, rfl⟩
  have HZ := Lib.hid hz
  rw [hz] at hsz hI CI CS HT ⊢
  clear hz
  have HI := Lib.hid hI; clear hI
  go_enter Tryz.func114, Tryz.ntmps114
  go_wp2_with fail
  go_loopw [7, 8] (fun va vb wr => ∃ (a f : Nat) (d' : Array (Fin N)), va = .int .i64 a ∧ vb = .int .i64 (a + 20 : Nat) ∧ a ≤ z ∧ z - a ≤ f ∧ d'.size = z ∧ insB (ltOf cf) f d' a = I ∧ SW (encF N) w blk 0 d' wr) (fun va _ _ => z - (intOf va).toNat)
  case atStart => exact ⟨0, z, d, rfl, rfl, by omega, by omega, HZ.out, HI.out, S0.out⟩
  case round =>
    clear S0 HI
    obtain ⟨a, f, d', rfl, rfl, haz, hf, hd', hIn, hS⟩ := hrel
    have S1 := Lib.hid hS; clear hS
    have HD := Lib.hid hd'; clear hd'
    have HN := Lib.hid hIn; clear hIn
    obtain ⟨b, hb⟩ : ∃ b, a + 20 = b := ⟨_, rfl⟩
    rw [hb]
    by_cases hlt : b ≤ z
    · obtain ⟨f', rfl⟩ : ∃ f', f = f' + 1 := ⟨f - 1, by omega⟩
      have C1 := Lib.hid (CI.out d' wr a b HD.out S1.out (by omega) hlt)
      have HN2 : Hid (insB (ltOf cf) f' (Sort.insertionSort (ltOf cf) d' a b) b = I) := Lib.hid (by
        rw [← HN.out, insB, if_pos (by rw [HD.out]; omega), hb])
      have HS2 : Hid ((Sort.insertionSort (ltOf cf) d' a b).size = z) := Lib.hid (by rw [HSz.out d' a b (by omega) (by rw [HD.out]; exact hlt), HD.out])
      have HB := Lib.hid hb; clear hb
      go_wp2_with (go_at_call 119; refine C1.out.mono ?_; rintro e w1 ⟨rfl, hS1⟩; have S3 := Lib.hid hS1; clear hS1)
      go_roundw
      case rel => exact ⟨b, f', _, rfl, by go_num, hlt, by have := HB.out; omega, HS2.out, HN2.out, S3.out⟩
      case measure => have := HB.out; simp [intOf]; omega
    · have C1 := Lib.hid (CI.out d' wr a z HD.out S1.out haz (Nat.le_refl _))
      have HN2 : Hid (Sort.insertionSort (ltOf cf) d' a z = I) := Lib.hid (by
        rw [← HN.out]
        cases f with
        | zero => rw [insB, HD.out]
        | succ f => rw [insB, if_neg (by rw [HD.out]; omega), HD.out])
      have HS2 : Hid (I.size = z) := Lib.hid (by rw [← HN2.out, HSz.out d' a z haz (by rw [HD.out]; omega), HD.out])
      have HB := Lib.hid hb; clear hb
      go_wp2_with (go_at_call 119; refine C1.out.mono ?_; rintro e w1 ⟨rfl, hS1⟩; have S3 : Hid (SW (encF N) w blk 0 I w1) := Lib.hid (by rw [← HN2.out]; exact hS1); clear hS1)
      clear C1 HN HN2 S1 HD HB
      clear hlt hf haz
      go_loopw [6, 7, 8] (fun vs _ _ wr => ∃ (s f : Nat) (d' : Array (Fin N)), vs = .int .i64 s ∧ 0 < s ∧ s ≤ 2000000 ∧ z ≤ s + f ∧ d'.size = z ∧ stabL (ltOf cf) f d' s = T ∧ SW (encF N) w blk 0 d' wr) (fun vs _ _ _ => z - (intOf vs).toNat)
      case atStart => exact ⟨20, z, I, rfl, by omega, by omega, by omega, HS2.out, HT.out, S3.out⟩
      case round =>
        clear S3 HS2 HT
        obtain ⟨s, f, d', rfl, hs0, hsm, hf, hd', hst, hS⟩ := hrel
        have S1 := Lib.hid hS; clear hS
        have HD := Lib.hid hd'; clear hd'
        have HN := Lib.hid hst; clear hst
        by_cases hlt : s < z
        · obtain ⟨f', rfl⟩ : ∃ f', f = f' + 1 := ⟨f - 1, by omega⟩
          obtain ⟨M, hM⟩ : ∃ M, mrg (ltOf cf) s z d' 0 = M := ⟨_, rfl⟩
          have HM := Lib.hid hM
          have HN2 : Hid (stabL (ltOf cf) f' M (2 * s) = T) := Lib.hid (by rw [← HN.out, stabL, if_pos (by rw [HD.out]; exact hlt), HD.out, hM])
          clear hM HN
          obtain ⟨t, ht⟩ : ∃ t, 2 * s = t := ⟨_, rfl⟩
          rw [ht] at HN2
          have wt : (2 : Int) * s = t := by omega
          have wt2 : (s : Int) * 2 = t := by omega
          have HTT := Lib.hid ht; 
          go_wp2_with fail
          go_loopw [7, 8] (fun va vb wr => ∃ (a f : Nat) (d' : Array (Fin N)), va = .int .i64 a ∧ vb = .int .i64 (a + t : Nat) ∧ a ≤ z ∧ z - a ≤ f ∧ d'.size = z ∧ mrg (ltOf cf) s f d' a = M ∧ SW (encF N) w blk 0 d' wr) (fun va _ _ => z - (intOf va).toNat)
          case atStart => exact ⟨0, z, d', rfl, by go_num, by omega, by omega, HD.out, HM.out, S1.out⟩
          case round =>
            clear S1 HD HM
            obtain ⟨a, f2, d2, rfl, rfl, haz, hf2, hd2, hmg, hS⟩ := hrel
            have S1 := Lib.hid hS; clear hS
            have HD := Lib.hid hd2; clear hd2
            have HM := Lib.hid hmg; clear hmg
            obtain ⟨b, hb⟩ : ∃ b, a + t = b := ⟨_, rfl⟩
            obtain ⟨m, hm⟩ : ∃ m, a + s = m := ⟨_, rfl⟩
            have wm : (a : Int) + s = m := by omega
            rw [hb]
            by_cases hbz : b ≤ z
            · obtain ⟨f3, rfl⟩ : ∃ f3, f2 = f3 + 1 := ⟨f2 - 1, by omega⟩
              have C1 := Lib.hid (CS.out t d2 wr a m b HD.out S1.out (by omega) (by omega) (by omega) (by omega))
              have HM2 : Hid (mrg (ltOf cf) s f3 (symM (ltOf cf) t d2 a m b) b = M) := Lib.hid (by
                rw [← HM.out, mrg, ht, hb, hm, if_pos (by rw [HD.out]; exact hbz)])
              obtain ⟨c, hc⟩ : ∃ c, b + t = c := ⟨_, rfl⟩
              have wc : (b : Int) + t = c := by omega
              have hcz : (c : Int) < 4000000 := by omega
              go_wp2_with (go_at_call 120; refine C1.out.mono ?_; rintro e w1 ⟨rfl, hS1⟩; have S3 := Lib.hid hS1; clear hS1)
              go_roundw
              case rel => exact ⟨b, f3, _, rfl, by rw [hc], hbz, by omega, by rw [symM_size, HD.out], HM2.out, S3.out⟩
              case measure => simp [intOf]; omega
            · by_cases hmz : m < z
              · have C1 := Lib.hid (CS.out (z - a) d2 wr a m z HD.out S1.out (by omega) (by omega) (by omega) (by omega))
                have HM2 : Hid (symM (ltOf cf) (z - a) d2 a m z = M) := Lib.hid (by
                  obtain ⟨f3, rfl⟩ : ∃ f3, f2 = f3 + 1 := ⟨f2 - 1, by omega⟩
                  rw [← HM.out, mrg, ht, hb, hm, if_neg (by rw [HD.out]; exact hbz), if_pos (by rw [HD.out]; exact hmz), HD.out])
                go_wp2_with (go_at_call 120; refine C1.out.mono ?_; rintro e w1 ⟨rfl, hS1⟩; have S3 := Lib.hid hS1; clear hS1)
                go_roundw
                case rel => exact ⟨t, f', M, by go_num, by omega, by omega, by omega, by rw [← HM2.out, symM_size, HD.out], HN2.out, by rw [← HM2.out]; exact S3.out⟩
                case measure => simp [intOf]; omega
              · have HM2 : Hid (d2 = M) := Lib.hid (by
                  rw [← HM.out]
                  cases f2 with
                  | zero => rfl
                  | succ f3 => rw [mrg, ht, hb, hm, if_neg (by rw [HD.out]; exact hbz), if_neg (by rw [HD.out]; exact hmz)])
                go_wp2_with fail
                go_roundw
                case rel => exact ⟨t, f', M, by go_num, by omega, by omega, by omega, by rw [← HM2.out, HD.out], HN2.out, by rw [← HM2.out]; exact S1.out⟩
                case measure => simp [intOf]; omega
        · have HN2 : Hid (d' = T) := Lib.hid (by
            rw [← HN.out]
            cases f with
            | zero => rfl
            | succ f => rw [stabL, if_neg (by rw [HD.out]; exact hlt)])
          go_wp2_with fail
          go_end0
          exact ⟨rfl, by rw [← HN2.out]; exact S1.out⟩
end Go.Proofs.YtkjhefjjacokjaaGreat

namespace Go.Proofs.YtkjhefjjacokjaaGreat
open Go.Proofs Go.Shelf Go.RowKit Go.Sort Go.Lib
/-- The two cells of a pack. -/
theorem cellsP {w0 W : World} {blk : Nat} {d0 dk : Array Pk} (S : SWK encP 2 w0 blk 0 dk W) (R : RowK encP 2 w0 blk 0 d0) (hs : dk.size = d0.size) (i : Nat) (hi : i < dk.size) :
    W.cell? ⟨blk, i * 2, none⟩ = some (.int .i64 (dk[i]!.1 : Nat)) ∧ W.cell? ⟨blk, i * 2 + 1, none⟩ = some (.bool dk[i]!.2) ∧ W.frozen? ⟨blk, i * 2, none⟩ = false ∧ W.frozen? ⟨blk, i * 2 + 1, none⟩ = false := by
  have h : HoldsK encP 2 W blk 0 dk := S.holds R.hblk R.hH hs
  have h0 := h.cell hi (show 0 < 2 by omega)
  have h1 := h.cell hi (show 1 < 2 by omega)
  simp only [Nat.zero_add, Nat.add_zero] at h0 h1
  exact ⟨h0.1, h1.1, h0.2, h1.2⟩
set_option maxHeartbeats 4000000 in
set_option maxRecDepth 1000000 in
theorem swapP (fv : Value) (blk cap a b n : Nat) (d0 d : Array Pk) (w0 w : World) (R : RowK encP 2 w0 blk 0 d0) (hs : d0.size = d.size) (S : SWK encP 2 w0 blk 0 d w) (hab : a + n ≤ b) (hb : b + n ≤ d.size) (hsz : d.size < 1000000) :
    Calls Tryz.prog 127 #[.slice (some ⟨blk, 0, none⟩) d.size cap, .int .i64 a, .int .i64 b, .int .i64 n, fv] w fun e w' => e = .returned (.tuple #[]) ∧ SWK encP 2 w0 blk 0 (swapR d a b n) w' := by
  have mixed : Tryz.prog.follows .mixedOrders = true := by kernel_rfl
  have S0 := Lib.hid S; clear S
  have HR := Lib.hid R; clear R
  have HS := Lib.hid hs; clear hs
  obtain ⟨z, hz⟩ : ∃ z, d.size = z := ⟨_, rfl⟩
  have HZ := Lib.hid hz
  rw [hz] at hb hsz ⊢
  clear hz
  go_enter Tryz.func127, Tryz.ntmps127
  go_wp2_with fail
  go_loopw [10] (fun v wr => ∃ i : Nat, i ≤ n ∧ v = .int .i64 i ∧ SWK encP 2 w0 blk 0 (swapR d a b i) wr) (fun v _ => n - (intOf v).toNat)
  case atStart => exact ⟨0, by omega, rfl, S0.out⟩
  case round =>
    clear S0
    obtain ⟨i, hi, rfl, hS⟩ := hrel
    have S1 := Lib.hid hS; clear hS
    have hsw : (swapR d a b i).size = d0.size := by rw [swapR_size, HS.out]
    by_cases hlt : i < n
    · obtain ⟨p, hp⟩ : ∃ p, a + i = p := ⟨_, rfl⟩
      obtain ⟨q, hq⟩ : ∃ q, b + i = q := ⟨_, rfl⟩
      have hpz : p < (swapR d a b i).size := by rw [swapR_size, HZ.out]; omega
      have hqz : q < (swapR d a b i).size := by rw [swapR_size, HZ.out]; omega
      have S2 : Hid (SWK encP 2 w0 blk 0 (swapR d a b (i + 1)) ((wr.drew.setCells blk (0 + p * 2) (encP (swapR d a b i)[q]!)).setCells blk (0 + q * 2) (encP (swapR d a b i)[p]!))) := Lib.hid (by
        rw [swapR, hp, hq]; exact S1.out.swapped HR.out p q hpz hqz)
      obtain ⟨c1, c2, f1, f2⟩ := cellsP S1.out HR.out hsw p hpz
      obtain ⟨c3, c4, f3, f4⟩ := cellsP S1.out HR.out hsw q hqz
      simp only [Nat.zero_add, encP, World.setCells] at S2
      obtain ⟨x, hx⟩ : ∃ x, (((swapR d a b i)[p]!).1 : Nat) = x := ⟨_, rfl⟩
      obtain ⟨y, hy⟩ : ∃ y, (((swapR d a b i)[q]!).1 : Nat) = y := ⟨_, rfl⟩
      obtain ⟨x2, hx2⟩ : ∃ x, ((swapR d a b i)[p]!).2 = x := ⟨_, rfl⟩
      obtain ⟨y2, hy2⟩ : ∃ y, ((swapR d a b i)[q]!).2 = y := ⟨_, rfl⟩
      rw [hx] at c1 S2
      rw [hx2] at c2 S2
      rw [hy] at c3 S2
      rw [hy2] at c4 S2
      clear hx hx2 hy hy2
      have wp : IntKind.i64.wrap ((a : Int) + i) = p := by rw [IntWalk.i64_in _ (by omega)]; omega
      have wq : IntKind.i64.wrap ((b : Int) + i) = q := by rw [IntWalk.i64_in _ (by omega)]; omega
      have wp' : ((a : Int) + i) = p := by omega
      have wq' : ((b : Int) + i) = q := by omega
      have rp : IntKind.i64.wrap (p : Int) = p := IntWalk.i64_in _ (by omega)
      have rq : IntKind.i64.wrap (q : Int) = q := IntWalk.i64_in _ (by omega)
      have p0 : (0 : Int) ≤ p := by omega
      have q0 : (0 : Int) ≤ q := by omega
      have pz : (p : Int) < z := by omega
      have qz : (q : Int) < z := by omega
      have hpq : p * 2 ≠ q * 2 := by omega
      have hpq1 : p * 2 ≠ q * 2 + 1 := by omega
      have hpq2 : p * 2 + 1 ≠ q * 2 := by omega
      have hpq3 : p * 2 + 1 ≠ q * 2 + 1 := by omega
      have hpq4 : p ≠ q := by omega
      have HPQ := Lib.hid (And.intro hp hq)
      clear hp hq hpz hqz hsw S1
      go_wp2_with fail
      go_region
      go_wp2_with fail
      go_roundw
      case rel => exact ⟨i + 1, by omega, by go_num, S2.out⟩
      case measure => simp [intOf]; omega
    · obtain rfl : i = n := by omega
      clear hsw
      go_wp2_with fail
      go_end0
      exact ⟨rfl, S1.out⟩
set_option maxHeartbeats 4000000 in
set_option maxRecDepth 1000000 in
theorem rotP (fv : Value) (blk cap a m b : Nat) (d0 d : Array Pk) (w0 w : World) (R : RowK encP 2 w0 blk 0 d0) (hs : d0.size = d.size) (S : SWK encP 2 w0 blk 0 d w) (ham : a < m) (hmb : m < b) (hb : b ≤ d.size) (hsz : d.size < 1000000) :
    Calls Tryz.prog 126 #[.slice (some ⟨blk, 0, none⟩) d.size cap, .int .i64 a, .int .i64 m, .int .i64 b, fv] w fun e w' => e = .returned (.tuple #[]) ∧ SWK encP 2 w0 blk 0 (rotL m (b - a) d (m - a) (b - m)) w' := by
  have S0 := Lib.hid S; clear S
  have HR := Lib.hid R; clear R
  have HS := Lib.hid hs; clear hs
  obtain ⟨z, hz⟩ : ∃ z, d.size = z := ⟨_, rfl⟩
  have HZ := Lib.hid hz
  rw [hz] at hb hsz ⊢
  clear hz
  obtain ⟨T, hT⟩ : ∃ T, rotL m (b - a) d (m - a) (b - m) = T := ⟨_, rfl⟩
  rw [hT]
  have HT := Lib.hid hT
  go_enter Tryz.func126, Tryz.ntmps126
  go_wp2_with fail
  have e1 : ((m : Int) - a) = (m - a : Nat) := by omega
  have e2 : ((b : Int) - m) = (b - m : Nat) := by omega
  rw [e1, e2]
  clear e1 e2
  go_loopw [10, 11] (fun vi vj wr => ∃ (i j f : Nat) (d' : Array Pk), vi = .int .i64 i ∧ vj = .int .i64 j ∧ 0 < i ∧ 0 < j ∧ i ≤ m ∧ m + j ≤ z ∧ i + j ≤ f ∧ d'.size = z ∧ rotL m f d' i j = T ∧ SWK encP 2 w0 blk 0 d' wr) (fun vi vj _ => (intOf vi).toNat + (intOf vj).toNat)
  case atStart => exact ⟨m - a, b - m, b - a, d, rfl, rfl, by omega, by omega, by omega, by omega, by omega, HZ.out, hT, S0.out⟩
  case round =>
    clear S0 hT
    obtain ⟨i, j, f, d', rfl, rfl, hi, hj, him, hmj, hf, hd', hrot, hS⟩ := hrel
    have S1 := Lib.hid hS; clear hS
    have HD := Lib.hid hd'; clear hd'
    have HRo := Lib.hid hrot; clear hrot
    obtain ⟨f', rfl⟩ : ∃ f', f = f' + 1 := ⟨f - 1, by omega⟩
    obtain ⟨mi, hmi⟩ : ∃ mi, m - i = mi := ⟨_, rfl⟩
    have wmi : ((m : Int) - i) = mi := by omega
    have CS : Hid (∀ (x y n : Nat), x + n ≤ y → y + n ≤ z → Calls Tryz.prog 127 #[.slice (some ⟨blk, 0, none⟩) z cap, .int .i64 x, .int .i64 y, .int .i64 n, fv] wr fun e w' => e = .returned (.tuple #[]) ∧ SWK encP 2 w0 blk 0 (swapR d' x y n) w') := Lib.hid (fun x y n h1 h2 => by
      have := swapP fv blk cap x y n d0 d' w0 wr HR.out (by rw [HS.out, HZ.out, HD.out]) S1.out h1 (by rw [HD.out]; exact h2) (by rw [HD.out]; exact hsz)
      rw [HD.out] at this
      exact this)
    by_cases hij : i = j
    · subst hij
      have C1 := Lib.hid (CS.out mi m i (by omega) (by omega))
      have HF : Hid (swapR d' mi m i = T) := Lib.hid (by rw [← HRo.out, rotL, if_pos rfl, hmi])
      go_wp2_with (go_at_call 127; refine C1.out.mono ?_; rintro e w1 ⟨rfl, hS1⟩; have S3 := Lib.hid hS1; clear hS1)
      go_end0
      exact ⟨rfl, by rw [← HF.out]; exact S3.out⟩
    · have dij : ((i : Int) == j) = false := by simp; omega
      have dij2 : ((i : Int) != j) = true := by simp; omega
      by_cases hji : j < i
      · have C1 := Lib.hid (CS.out mi m j (by omega) (by omega))
        have HF : Hid (rotL m f' (swapR d' mi m j) (i - j) j = T) := Lib.hid (by rw [← HRo.out, rotL, if_neg hij, if_pos hji, hmi])
        go_wp2_with (go_at_call 127; refine C1.out.mono ?_; rintro e w1 ⟨rfl, hS1⟩; have S3 := Lib.hid hS1; clear hS1)
        go_roundw
        case rel => exact ⟨i - j, j, f', swapR d' mi m j, by go_num, rfl, by omega, hj, by omega, hmj, by omega, by rw [swapR_size, HD.out], HF.out, S3.out⟩
        case measure => simp [intOf]; omega
      · obtain ⟨q, hq⟩ : ∃ q, m + j - i = q := ⟨_, rfl⟩
        have wq : ((m : Int) + j - i) = q := by omega
        have C1 := Lib.hid (CS.out mi q i (by omega) (by omega))
        have HF : Hid (rotL m f' (swapR d' mi q i) i (j - i) = T) := Lib.hid (by rw [← HRo.out, rotL, if_neg hij, if_neg hji, hmi, hq])
        have HQ := Lib.hid hq
        clear hq
        go_wp2_with (go_at_call 127; refine C1.out.mono ?_; rintro e w1 ⟨rfl, hS1⟩; have S3 := Lib.hid hS1; clear hS1)
        go_roundw
        case rel => exact ⟨i, j - i, f', swapR d' mi q i, rfl, by go_num, hi, by omega, him, by omega, by omega, by rw [swapR_size, HD.out], HF.out, S3.out⟩
        case measure => simp [intOf]; omega
end Go.Proofs.YtkjhefjjacokjaaGreat

namespace Go.Proofs.YtkjhefjjacokjaaGreat
open Go.Proofs Go.Shelf Go.RowKit Go.Sort Go.Lib
set_option maxHeartbeats 4000000 in
set_option maxRecDepth 1000000 in
theorem symP_one (cf : Pk → Pk → Int) (g : Nat) (cb : Array Value) (blk cap a m b : Nat) (d0 d : Array Pk) (w0 w : World) (eg : ∀ args w, (callFunc g args).run Tryz.prog w = .ok (.enter g args) w) (hcmp : CmpLays Tryz.prog g cb encP 2 cf blk 0 d0.size w0) (R : RowK encP 2 w0 blk 0 d0) (hs : d0.size = d.size) (S : SWK encP 2 w0 blk 0 d w) (ham : a + 1 = m) (hmb : m < b) (hb : b ≤ d.size) (hsz : d.size < 1000000) :
    Calls Tryz.prog 124 #[.slice (some ⟨blk, 0, none⟩) d.size cap, .int .i64 a, .int .i64 m, .int .i64 b, .func (.func g) #[] cb] w fun e w' => e = .returned (.tuple #[]) ∧ SWK encP 2 w0 blk 0 (shr d a (bs (fun h => ltOf cf d[h]! d[a]!) (b - m) m b - 1 - a)) w' := by
  have mixed : Tryz.prog.follows .mixedOrders = true := by kernel_rfl
  have S0 := Lib.hid S; clear S
  have HR := Lib.hid R; clear R
  have HS := Lib.hid hs; clear hs
  have HC := Lib.hid hcmp; clear hcmp
  obtain ⟨z, hz⟩ : ∃ z, d.size = z := ⟨_, rfl⟩
  have HZ := Lib.hid hz
  rw [hz] at hb hsz ⊢
  clear hz
  obtain ⟨T, hT⟩ : ∃ T, bs (fun h => ltOf cf d[h]! d[a]!) (b - m) m b = T := ⟨_, rfl⟩
  have hT1 := bs_spec (fun h => ltOf cf d[h]! d[a]!) (b - m) m b (by omega) (by omega)
  rw [hT] at hT1 ⊢
  obtain ⟨hT1, hT2, -⟩ := hT1
  have HT := Lib.hid hT
  go_enter Tryz.func124, Tryz.ntmps124
  have e1 : ((m : Int) - a) = 1 := by omega
  go_wp2_with fail
  clear hT
  go_loopw [10, 11] (fun vi vj wr => ∃ (i j f : Nat), vi = .int .i64 i ∧ vj = .int .i64 j ∧ m ≤ i ∧ i ≤ j ∧ j ≤ b ∧ j - i ≤ f ∧ bs (fun h => ltOf cf d[h]! d[a]!) f i j = T ∧ SWK encP 2 w0 blk 0 d wr) (fun vi vj _ => (intOf vj).toNat - (intOf vi).toNat)
  case atStart => exact ⟨m, b, b - m, rfl, rfl, by omega, by omega, by omega, by omega, HT.out, S0.out⟩
  case round =>
    clear S0 HT
    obtain ⟨i, j, f, rfl, rfl, hi, hj, hjb, hf, hbs, hS⟩ := hrel
    have S1 := Lib.hid hS; clear hS
    have HB := Lib.hid hbs; clear hbs
    by_cases hij : i < j
    · obtain ⟨f', rfl⟩ : ∃ f', f = f' + 1 := ⟨f - 1, by omega⟩
      obtain ⟨h, hh⟩ : ∃ h, (i + j) / 2 = h := ⟨_, rfl⟩
      have hsz2 : d.size = d0.size := HS.out.symm
      have wh : ((i : Int) + j) / 2 = h := by omega
      have h0 : (0 : Int) ≤ h := by omega
      have hzz : (h : Int) < z := by omega
      have a0 : (0 : Int) ≤ a := by omega
      have azz : (a : Int) < z := by omega
      obtain ⟨x, hx⟩ : ∃ x, x = d[h]! := ⟨_, rfl⟩
      obtain ⟨y, hy⟩ : ∃ x, x = d[a]! := ⟨_, rfl⟩
      have ch := fun n os => cellsP (S1.out.grown n os) HR.out hsz2 h (by rw [HZ.out]; omega)
      have ca := fun n os => cellsP (S1.out.grown n os) HR.out hsz2 a (by rw [HZ.out]; omega)
      rw [← hx] at ch
      rw [← hy] at ca
      obtain ⟨x1, x2⟩ := x
      obtain ⟨y1, y2⟩ := y
      have ch0 := fun n os => (ch n os).1
      have ch1 := fun n os => (ch n os).2.1
      have ca0 := fun n os => (ca n os).1
      have ca1 := fun n os => (ca n os).2.1
      simp only at ch0 ch1 ca0 ca1
      clear ch ca
      have hcm := S1.out.cmp HC.out hsz2 (x1, x2) (y1, y2)
      simp only [encP] at hcm
      have HXY := Lib.hid (And.intro hx hy)
      clear hx hy hsz2
      have HH := Lib.hid hh; clear hh
      go_wp2_with fail
      clear wh
      go_quiet_grown (first | (go_at_fn g; refine Calls.grown_of (hcm _ _)))
      have S2 : Hid (SWK encP 2 w0 blk 0 d (grow (wr.drewN nq) osq)) := Lib.hid (S1.out.grown nq osq)
      clear ch0 ch1 ca0 ca1 hcm S1 a0 azz
      generalize grow (wr.drewN nq) osq = w2 at S2 ⊢
      clear nq osq
      cases hlv : decide (cf (x1, x2) (y1, y2) < 0) with
      | true =>
        have HN : Hid (bs (fun h => ltOf cf d[h]! d[a]!) f' (h + 1) j = T) := Lib.hid (by
          rw [← HB.out, bs, if_pos hij, HH.out, if_pos (by show decide _ = true; rw [← HXY.out.1, ← HXY.out.2]; exact hlv)])
        have hlv' : cf (x1, x2) (y1, y2) < 0 := of_decide_eq_true hlv
        clear hlv
        go_wp2_with fail
        go_roundw
        case rel => exact ⟨h + 1, j, f', by go_num, rfl, by have := HH.out; omega, by have := HH.out; omega, hjb, by have := HH.out; omega, HN.out, S2.out⟩
        case measure => have := HH.out; simp [intOf]; omega
      | false =>
        have HN : Hid (bs (fun h => ltOf cf d[h]! d[a]!) f' i h = T) := Lib.hid (by
          rw [← HB.out, bs, if_pos hij, HH.out, if_neg (by show ¬ decide _ = true; rw [← HXY.out.1, ← HXY.out.2]; rw [hlv]; simp)])
        have hlv' : ¬ cf (x1, x2) (y1, y2) < 0 := of_decide_eq_false hlv
        clear hlv
        go_wp2_with fail
        go_roundw
        case rel => exact ⟨i, h, f', rfl, rfl, by omega, by have := HH.out; omega, by have := HH.out; omega, by have := HH.out; omega, HN.out, S2.out⟩
        case measure => have := HH.out; simp [intOf]; omega
    · obtain rfl : i = j := by omega
      have hiT : i = T := by rw [← HB.out]; cases f <;> simp [bs]
      clear HB
      subst hiT
      go_wp2_with fail
      go_loopw [13] (fun v wr => ∃ k : Nat, k ≤ i - 1 - a ∧ v = .int .i64 (a + k : Nat) ∧ SWK encP 2 w0 blk 0 (shr d a k) wr) (fun v _ => i - (intOf v).toNat)
      case atStart => exact ⟨0, by omega, rfl, S1.out⟩
      case round =>
        clear S1
        obtain ⟨k, hk, rfl, hS⟩ := hrel
        have S1 := Lib.hid hS; clear hS
        obtain ⟨p, hp⟩ : ∃ p, a + k = p := ⟨_, rfl⟩
        rw [hp]
        by_cases hlt : k < i - 1 - a
        · obtain ⟨q, hq⟩ : ∃ q, p + 1 = q := ⟨_, rfl⟩
          have hsw : (shr d a k).size = d0.size := by rw [shr_size, HS.out]
          have hpz : p < (shr d a k).size := by rw [shr_size, HZ.out]; omega
          have hqz : q < (shr d a k).size := by rw [shr_size, HZ.out]; omega
          have S2 : Hid (SWK encP 2 w0 blk 0 (shr d a (k + 1)) ((wr.drew.setCells blk (0 + p * 2) (encP (shr d a k)[q]!)).setCells blk (0 + q * 2) (encP (shr d a k)[p]!))) := Lib.hid (by
            rw [shr, hp, hq]; exact S1.out.swapped HR.out p q hpz hqz)
          obtain ⟨c1, c2, f1, f2⟩ := cellsP S1.out HR.out hsw p hpz
          obtain ⟨c3, c4, f3, f4⟩ := cellsP S1.out HR.out hsw q hqz
          simp only [Nat.zero_add, encP, World.setCells] at S2
          obtain ⟨x, hx⟩ : ∃ x, (((shr d a k)[p]!).1 : Nat) = x := ⟨_, rfl⟩
          obtain ⟨y, hy⟩ : ∃ y, (((shr d a k)[q]!).1 : Nat) = y := ⟨_, rfl⟩
          obtain ⟨x2, hx2⟩ : ∃ x, ((shr d a k)[p]!).2 = x := ⟨_, rfl⟩
          obtain ⟨y2, hy2⟩ : ∃ y, ((shr d a k)[q]!).2 = y := ⟨_, rfl⟩
          rw [hx] at c1 S2
          rw [hx2] at c2 S2
          rw [hy] at c3 S2
          rw [hy2] at c4 S2
          clear hx hx2 hy hy2
          have wq : IntKind.i64.wrap ((p : Int) + 1) = q := by rw [IntWalk.i64_in _ (by omega)]; omega
          have wq' : ((p : Int) + 1) = q := by omega
          have p0 : (0 : Int) ≤ p := by omega
          have q0 : (0 : Int) ≤ q := by omega
          have pz : (p : Int) < z := by omega
          have qz : (q : Int) < z := by omega
          have rp : IntKind.i64.wrap (p : Int) = p := IntWalk.i64_in _ (by omega)
          have rq : IntKind.i64.wrap (q : Int) = q := IntWalk.i64_in _ (by omega)
          have hpq : p * 2 ≠ q * 2 := by omega
          have hpq1 : p * 2 ≠ q * 2 + 1 := by omega
          have hpq2 : p * 2 + 1 ≠ q * 2 := by omega
          have hpq3 : p * 2 + 1 ≠ q * 2 + 1 := by omega
          have hpq4 : p ≠ q := by omega
          have tst : (p : Int) < (i : Int) - 1 := by omega
          have HPQ := Lib.hid (And.intro hp hq)
          clear hp hq hpz hqz hsw S1
          go_wp2_with fail
          go_region
          go_wp2_with fail
          go_roundw
          case rel => exact ⟨k + 1, by omega, by have := HPQ.out; congr 1; omega, S2.out⟩
          case measure => have := HPQ.out; simp [intOf]; omega
        · have tst : ¬ (p : Int) < (i : Int) - 1 := by omega
          obtain rfl : k = i - 1 - a := by omega
          go_wp2_with fail
          refine bodyPost_ret (results_none rfl _ _ _) rfl ?_
          exact ⟨rfl, S1.out⟩
set_option maxHeartbeats 4000000 in
set_option maxRecDepth 1000000 in
theorem symP_last (cf : Pk → Pk → Int) (g : Nat) (cb : Array Value) (blk cap a m b : Nat) (d0 d : Array Pk) (w0 w : World) (eg : ∀ args w, (callFunc g args).run Tryz.prog w = .ok (.enter g args) w) (hcmp : CmpLays Tryz.prog g cb encP 2 cf blk 0 d0.size w0) (R : RowK encP 2 w0 blk 0 d0) (hs : d0.size = d.size) (S : SWK encP 2 w0 blk 0 d w) (ham : a + 1 < m) (hmb : m + 1 = b) (hb : b ≤ d.size) (hsz : d.size < 1000000) :
    Calls Tryz.prog 124 #[.slice (some ⟨blk, 0, none⟩) d.size cap, .int .i64 a, .int .i64 m, .int .i64 b, .func (.func g) #[] cb] w fun e w' => e = .returned (.tuple #[]) ∧ SWK encP 2 w0 blk 0 (shl d m (m - bs (fun h => !ltOf cf d[m]! d[h]!) (m - a) a m)) w' := by
  have mixed : Tryz.prog.follows .mixedOrders = true := by kernel_rfl
  have S0 := Lib.hid S; clear S
  have HR := Lib.hid R; clear R
  have HS := Lib.hid hs; clear hs
  have HC := Lib.hid hcmp; clear hcmp
  obtain ⟨z, hz⟩ : ∃ z, d.size = z := ⟨_, rfl⟩
  have HZ := Lib.hid hz
  rw [hz] at hb hsz ⊢
  clear hz
  obtain ⟨T, hT⟩ : ∃ T, bs (fun h => !ltOf cf d[m]! d[h]!) (m - a) a m = T := ⟨_, rfl⟩
  have hT1 := bs_spec (fun h => !ltOf cf d[m]! d[h]!) (m - a) a m (by omega) (by omega)
  rw [hT] at hT1 ⊢
  obtain ⟨hT1, hT2, -⟩ := hT1
  have HT := Lib.hid hT
  go_enter Tryz.func124, Tryz.ntmps124
  have e1 : ((m : Int) - a == 1) = false := by simp; omega
  have e2 : ((b : Int) - m) = 1 := by omega
  have e3 : ¬ ((m : Int) - a = 1) := by omega
  go_wp2_with fail
  clear hT
  go_loopw [14, 15] (fun vi vj wr => ∃ (i j f : Nat), vi = .int .i64 i ∧ vj = .int .i64 j ∧ a ≤ i ∧ i ≤ j ∧ j ≤ m ∧ j - i ≤ f ∧ bs (fun h => !ltOf cf d[m]! d[h]!) f i j = T ∧ SWK encP 2 w0 blk 0 d wr) (fun vi vj _ => (intOf vj).toNat - (intOf vi).toNat)
  case atStart => exact ⟨a, m, m - a, rfl, rfl, by omega, by omega, by omega, by omega, HT.out, S0.out⟩
  case round =>
    clear S0 HT
    obtain ⟨i, j, f, rfl, rfl, hi, hj, hjb, hf, hbs, hS⟩ := hrel
    have S1 := Lib.hid hS; clear hS
    have HB := Lib.hid hbs; clear hbs
    by_cases hij : i < j
    · obtain ⟨f', rfl⟩ : ∃ f', f = f' + 1 := ⟨f - 1, by omega⟩
      obtain ⟨h, hh⟩ : ∃ h, (i + j) / 2 = h := ⟨_, rfl⟩
      have hsz2 : d.size = d0.size := HS.out.symm
      have wh : ((i : Int) + j) / 2 = h := by omega
      have h0 : (0 : Int) ≤ h := by omega
      have hzz : (h : Int) < z := by omega
      have a0 : (0 : Int) ≤ m := by omega
      have azz : (m : Int) < z := by omega
      obtain ⟨x, hx⟩ : ∃ x, x = d[h]! := ⟨_, rfl⟩
      obtain ⟨y, hy⟩ : ∃ x, x = d[m]! := ⟨_, rfl⟩
      have ch := fun n os => cellsP (S1.out.grown n os) HR.out hsz2 h (by rw [HZ.out]; omega)
      have ca := fun n os => cellsP (S1.out.grown n os) HR.out hsz2 m (by rw [HZ.out]; omega)
      rw [← hx] at ch
      rw [← hy] at ca
      obtain ⟨x1, x2⟩ := x
      obtain ⟨y1, y2⟩ := y
      have ch0 := fun n os => (ch n os).1
      have ch1 := fun n os => (ch n os).2.1
      have ca0 := fun n os => (ca n os).1
      have ca1 := fun n os => (ca n os).2.1
      simp only at ch0 ch1 ca0 ca1
      clear ch ca
      have hcm := S1.out.cmp HC.out hsz2 (y1, y2) (x1, x2)
      simp only [encP] at hcm
      have HXY := Lib.hid (And.intro hx hy)
      clear hx hy hsz2
      have HH := Lib.hid hh; clear hh
      go_wp2_with fail
      clear wh
      go_quiet_grown (first | (go_at_fn g; refine Calls.grown_of (hcm _ _)))
      have S2 : Hid (SWK encP 2 w0 blk 0 d (grow (wr.drewN nq) osq)) := Lib.hid (S1.out.grown nq osq)
      clear ch0 ch1 ca0 ca1 hcm S1 a0 azz
      generalize grow (wr.drewN nq) osq = w2 at S2 ⊢
      clear nq osq
      cases hlv : decide (cf (y1, y2) (x1, x2) < 0) with
      | true =>
        have HN : Hid (bs (fun h => !ltOf cf d[m]! d[h]!) f' i h = T) := Lib.hid (by
          rw [← HB.out, bs, if_pos hij, HH.out, if_neg (by show ¬ (!decide _) = true; rw [← HXY.out.1, ← HXY.out.2]; rw [hlv]; simp)])
        have hlv' : cf (y1, y2) (x1, x2) < 0 := of_decide_eq_true hlv
        clear hlv
        go_wp2_with fail
        go_roundw
        case rel => exact ⟨i, h, f', rfl, rfl, by omega, by have := HH.out; omega, by have := HH.out; omega, by have := HH.out; omega, HN.out, S2.out⟩
        case measure => have := HH.out; simp [intOf]; omega
      | false =>
        have HN : Hid (bs (fun h => !ltOf cf d[m]! d[h]!) f' (h + 1) j = T) := Lib.hid (by
          rw [← HB.out, bs, if_pos hij, HH.out, if_pos (by show (!decide _) = true; rw [← HXY.out.1, ← HXY.out.2]; rw [hlv]; rfl)])
        have hlv' : ¬ cf (y1, y2) (x1, x2) < 0 := of_decide_eq_false hlv
        clear hlv
        go_wp2_with fail
        go_roundw
        case rel => exact ⟨h + 1, j, f', by go_num, rfl, by have := HH.out; omega, by have := HH.out; omega, hjb, by have := HH.out; omega, HN.out, S2.out⟩
        case measure => have := HH.out; simp [intOf]; omega
    · obtain rfl : i = j := by omega
      have hiT : i = T := by rw [← HB.out]; cases f <;> simp [bs]
      clear HB
      subst hiT
      go_wp2_with fail
      go_loopw [17] (fun v wr => ∃ k : Nat, k ≤ m - i ∧ v = .int .i64 (m - k : Nat) ∧ SWK encP 2 w0 blk 0 (shl d m k) wr) (fun v _ => (intOf v).toNat)
      case atStart => exact ⟨0, by omega, rfl, S1.out⟩
      case round =>
        clear S1
        obtain ⟨k, hk, rfl, hS⟩ := hrel
        have S1 := Lib.hid hS; clear hS
        obtain ⟨p, hp⟩ : ∃ p, m - k = p := ⟨_, rfl⟩
        rw [hp]
        by_cases hlt : k < m - i
        · obtain ⟨q, hq⟩ : ∃ q, p - 1 = q := ⟨_, rfl⟩
          have hsw : (shl d m k).size = d0.size := by rw [shl_size, HS.out]
          have hpz : p < (shl d m k).size := by rw [shl_size, HZ.out]; omega
          have hqz : q < (shl d m k).size := by rw [shl_size, HZ.out]; omega
          have S2 : Hid (SWK encP 2 w0 blk 0 (shl d m (k + 1)) ((wr.drew.setCells blk (0 + p * 2) (encP (shl d m k)[q]!)).setCells blk (0 + q * 2) (encP (shl d m k)[p]!))) := Lib.hid (by
            rw [shl, hp, hq]; exact S1.out.swapped HR.out p q hpz hqz)
          obtain ⟨c1, c2, f1, f2⟩ := cellsP S1.out HR.out hsw p hpz
          obtain ⟨c3, c4, f3, f4⟩ := cellsP S1.out HR.out hsw q hqz
          simp only [Nat.zero_add, encP, World.setCells] at S2
          obtain ⟨x, hx⟩ : ∃ x, (((shl d m k)[p]!).1 : Nat) = x := ⟨_, rfl⟩
          obtain ⟨y, hy⟩ : ∃ y, (((shl d m k)[q]!).1 : Nat) = y := ⟨_, rfl⟩
          obtain ⟨x2, hx2⟩ : ∃ x, ((shl d m k)[p]!).2 = x := ⟨_, rfl⟩
          obtain ⟨y2, hy2⟩ : ∃ y, ((shl d m k)[q]!).2 = y := ⟨_, rfl⟩
          rw [hx] at c1 S2
          rw [hx2] at c2 S2
          rw [hy] at c3 S2
          rw [hy2] at c4 S2
          clear hx hx2 hy hy2
          have wq : IntKind.i64.wrap ((p : Int) - 1) = q := by rw [IntWalk.i64_in _ (by omega)]; omega
          have wq' : ((p : Int) - 1) = q := by omega
          have p0 : (0 : Int) ≤ p := by omega
          have q0 : (0 : Int) ≤ q := by omega
          have pz : (p : Int) < z := by omega
          have qz : (q : Int) < z := by omega
          have rp : IntKind.i64.wrap (p : Int) = p := IntWalk.i64_in _ (by omega)
          have rq : IntKind.i64.wrap (q : Int) = q := IntWalk.i64_in _ (by omega)
          have hpq : p * 2 ≠ q * 2 := by omega
          have hpq1 : p * 2 ≠ q * 2 + 1 := by omega
          have hpq2 : p * 2 + 1 ≠ q * 2 := by omega
          have hpq3 : p * 2 + 1 ≠ q * 2 + 1 := by omega
          have hpq4 : p ≠ q := by omega
          have tst : (i : Int) < (p : Int) := by omega
          have tst2 : decide ((p : Int) > i) = true := decide_eq_true tst
          have HPQ := Lib.hid (And.intro hp hq)
          clear hp hq hpz hqz hsw S1
          go_wp2_with fail
          go_region
          go_wp2_with fail
          go_roundw
          case rel => exact ⟨k + 1, by omega, by have := HPQ.out; congr 1; omega, S2.out⟩
          case measure => have := HPQ.out; simp [intOf]; omega
        · have tst : ¬ (i : Int) < (p : Int) := by omega
          have tst2 : decide ((p : Int) > i) = false := decide_eq_false tst
          obtain rfl : k = m - i := by omega
          go_wp2_with fail
          refine bodyPost_ret (results_none rfl _ _ _) rfl ?_
          exact ⟨rfl, S1.out⟩
end Go.Proofs.YtkjhefjjacokjaaGreat
