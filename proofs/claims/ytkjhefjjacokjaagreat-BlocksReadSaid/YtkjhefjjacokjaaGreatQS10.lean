/-
  Contracts of the library's stable sort at rows of packs: the merge in place, its third case. Conditions: fewer than a million packs.
-/
import Derived.Test.YtkjhefjjacokjaaGreatQS9
namespace Go.Proofs.YtkjhefjjacokjaaGreat
open Go.Proofs Go.Shelf Go.RowKit Go.Sort Go.Lib
set_option maxRecDepth 100000
set_option maxHeartbeats 8000000 in
set_option maxRecDepth 1000000 in
theorem symP_gen (cf : Pk → Pk → Int) (g : Nat) (cb : Array Value) (blk cap f a m b : Nat) (d0 d : Array Pk) (w0 w : World) (eg : ∀ args w, (callFunc g args).run Tryz.prog w = .ok (.enter g args) w) (hcmp : CmpLays Tryz.prog g cb encP 2 cf blk 0 d0.size w0) (R : RowK encP 2 w0 blk 0 d0) (hs : d0.size = d.size) (S : SWK encP 2 w0 blk 0 d w) (ham : a + 1 < m) (hmb : m + 1 < b) (hb : b ≤ d.size) (hsz : d.size < 1000000) (hf : b - a ≤ f + 1)
    (IH : ∀ (d' : Array Pk) (w' : World) (a m b : Nat), d'.size = d.size → SWK encP 2 w0 blk 0 d' w' → a < m → m < b → b ≤ d.size → b - a ≤ f → Calls Tryz.prog 124 #[.slice (some ⟨blk, 0, none⟩) d.size cap, .int .i64 a, .int .i64 m, .int .i64 b, .func (.func g) #[] cb] w' fun e w'' => e = .returned (.tuple #[]) ∧ SWK encP 2 w0 blk 0 (symM (ltOf cf) f d' a m b) w'') :
    Calls Tryz.prog 124 #[.slice (some ⟨blk, 0, none⟩) d.size cap, .int .i64 a, .int .i64 m, .int .i64 b, .func (.func g) #[] cb] w fun e w' => e = .returned (.tuple #[]) ∧ SWK encP 2 w0 blk 0 (symM (ltOf cf) (f + 1) d a m b) w' := by
  have mixed : Tryz.prog.follows .mixedOrders = true := by kernel_rfl
  have S0 := Lib.hid S; clear S
  have HR := Lib.hid R; clear R
  have HS := Lib.hid hs; clear hs
  have HC := Lib.hid hcmp; clear hcmp
  have CR := Lib.hid (fun (x m y : Nat) (w1 : World) (S1 : SWK encP 2 w0 blk 0 d w1) (h1 : x < m) (h2 : m < y) (h3 : y ≤ d.size) => rotP (.func (.func g) #[] cb) blk cap x m y d0 d w0 w1 HR.out HS.out S1 h1 h2 h3 hsz)
  obtain ⟨z, hz⟩ : ∃ z, d.size = z := ⟨_, rfl⟩
  have HZ := Lib.hid hz
  rw [hz] at hb hsz IH CR ⊢
  clear hz
  have HI := Lib.hid IH; clear IH
  obtain ⟨T, hT⟩ : ∃ T, sStart (ltOf cf) d a m b = T := ⟨_, rfl⟩
  obtain ⟨mid, hmid⟩ : ∃ mid, (a + b) / 2 = mid := ⟨_, rfl⟩
  obtain ⟨n, hn⟩ : ∃ n, mid + m = n := ⟨_, rfl⟩
  obtain ⟨p, hp⟩ : ∃ p, n - 1 = p := ⟨_, rfl⟩
  obtain ⟨lo, hlo⟩ : ∃ lo, (if mid < m then n - b else a) = lo := ⟨_, rfl⟩
  obtain ⟨hi, hhi⟩ : ∃ hi, (if mid < m then mid else m) = hi := ⟨_, rfl⟩
  have HT : Hid (bs (fun c => !ltOf cf d[p - c]! d[c]!) (b - a) lo hi = T) := Lib.hid (by rw [← hT, sStart, hmid, hn, hp, hlo, hhi])
  have k1 : lo ≤ hi := by rw [← hlo, ← hhi]; split <;> omega
  have k2 : hi ≤ p := by rw [← hhi]; split <;> omega
  have k3 : p < b + lo := by rw [← hlo]; split <;> omega
  have k4 : hi ≤ m := by rw [← hhi]; split <;> omega
  have k5 : a ≤ lo := by rw [← hlo]; split <;> omega
  have k6 : hi - lo ≤ b - a := by omega
  have k7 : hi ≤ mid := by rw [← hhi]; split <;> omega
  have hT1 := bs_spec (fun c => !ltOf cf d[p - c]! d[c]!) (b - a) lo hi k1 k6
  rw [HT.out] at hT1
  obtain ⟨hT1, hT2, -⟩ := hT1
  obtain ⟨X, hX⟩ : ∃ X, symM (ltOf cf) (f + 1) d a m b = X := ⟨_, rfl⟩
  rw [hX]
  have HSym : Hid ((if mid < n - T ∧ n - T < b then symM (ltOf cf) f (if a < T ∧ T < mid then symM (ltOf cf) f (sTurn d T m (n - T)) a T mid else sTurn d T m (n - T)) mid (n - T) b else (if a < T ∧ T < mid then symM (ltOf cf) f (sTurn d T m (n - T)) a T mid else sTurn d T m (n - T))) = X) := Lib.hid (by
    refine Eq.trans (Eq.symm ?_) hX
    rw [symM, if_neg (by omega), if_neg (by omega)]
    simp only [hT, hmid, hn])
  clear hX
  obtain ⟨q, hq⟩ : ∃ q, n - T = q := ⟨_, rfl⟩
  rw [hq] at HSym
  have HQ := Lib.hid hq
  have HTT := Lib.hid hT; clear hT
  have m1 : a + 1 ≤ mid := by omega
  have m2 : mid + 1 ≤ b := by omega
  have m3 : q ≤ b := by omega
  have m4 : mid ≤ q := by omega
  have hp1 : p + 1 = n := by omega
  have wmid : ((a : Int) + b) / 2 = mid := by omega
  have wn : ((mid : Int) + m) = n := by omega
  have wp : ((n : Int) - 1) = p := by omega
  have wq : ((n : Int) - T) = q := by omega
  have HMN := Lib.hid (And.intro hmid (And.intro hn hp)); clear hmid hn hp hq
  have e1 : ((m : Int) - a == 1) = false := by simp; omega
  have e2 : ((b : Int) - m == 1) = false := by simp; omega
  have e3 : ¬ ((m : Int) - a = 1) := by omega
  have e4 : ¬ ((b : Int) - m = 1) := by omega
  go_enter Tryz.func124, Tryz.ntmps124
  by_cases hmm : mid < m
  · rw [if_pos hmm] at hlo hhi
    subst hhi
    have wlo : ((n : Int) - b) = lo := by omega
    clear hlo
    go_wp2_with fail
    go_loopw [20, 21] (fun vi vj wr => ∃ (i j f : Nat), vi = .int .i64 i ∧ vj = .int .i64 j ∧ lo ≤ i ∧ i ≤ j ∧ j ≤ mid ∧ j - i ≤ f ∧ bs (fun c => !ltOf cf d[p - c]! d[c]!) f i j = T ∧ SWK encP 2 w0 blk 0 d wr) (fun vi vj _ => (intOf vj).toNat - (intOf vi).toNat)
    case atStart => exact ⟨lo, mid, b - a, rfl, rfl, by omega, by omega, by omega, by omega, HT.out, S0.out⟩
    case round =>
      clear S0 HT
      obtain ⟨i, j, f2, rfl, rfl, hi, hj, hjb, hf2, hbs, hS⟩ := hrel
      have S1 := Lib.hid hS; clear hS
      have HB := Lib.hid hbs; clear hbs
      by_cases hij : i < j
      · obtain ⟨f', rfl⟩ : ∃ f', f2 = f' + 1 := ⟨f2 - 1, by omega⟩
        obtain ⟨h, hh⟩ : ∃ h, (i + j) / 2 = h := ⟨_, rfl⟩
        obtain ⟨u, hu⟩ : ∃ u, p - h = u := ⟨_, rfl⟩
        have hsz2 : d.size = d0.size := HS.out.symm
        have wh : ((i : Int) + j) / 2 = h := by omega
        have ra : IntKind.i64.wrap ((p : Int) - h) = u := by rw [IntWalk.i64_in _ (by omega)]; omega
        have ra2 : (p : Int) - h = u := by omega
        have ru : IntKind.i64.wrap (u : Int) = u := IntWalk.i64_in _ (by omega)
        have pa : (0 : Int) ≤ u := by omega
        have ba : (u : Int) < z := by omega
        have h0 : (0 : Int) ≤ h := by omega
        have hzz : (h : Int) < z := by omega
        obtain ⟨x, hx⟩ : ∃ x, x = d[h]! := ⟨_, rfl⟩
        obtain ⟨y, hy⟩ : ∃ x, x = d[u]! := ⟨_, rfl⟩
        have ch := fun n os => cellsP (S1.out.grown n os) HR.out hsz2 h (by rw [HZ.out]; omega)
        have ca := fun n os => cellsP (S1.out.grown n os) HR.out hsz2 u (by rw [HZ.out]; omega)
        rw [← hx] at ch
        rw [← hy] at ca
        obtain ⟨x1, x2⟩ := x
        obtain ⟨y1, y2⟩ := y
        have ch0 := fun n os => (ch n os).1
        have ch1 := fun n os => (ch n os).2.1
        have ca0 := fun n os => (ca n os).1
        have ca1 := fun n os => (ca n os).2.1
        simp only at ch0 ch1 ca0 ca1
        clear ch ca
        have hcm := S1.out.cmp HC.out hsz2 (y1, y2) (x1, x2)
        simp only [encP] at hcm
        have HXY := Lib.hid (And.intro hx hy)
        clear hx hy hsz2
        have HH := Lib.hid hh; clear hh
        have HU := Lib.hid hu; clear hu
        go_wp2_with fail
        clear wh
        go_quiet_grown (first | (go_at_fn g; refine Calls.grown_of (hcm _ _)))
        have S2 : Hid (SWK encP 2 w0 blk 0 d (grow (wr.drewN nq) osq)) := Lib.hid (S1.out.grown nq osq)
        clear ch0 ch1 ca0 ca1 hcm S1 ra ru ra2 pa ba
        generalize grow (wr.drewN nq) osq = w2 at S2 ⊢
        clear nq osq
        cases hlv : decide (cf (y1, y2) (x1, x2) < 0) with
        | true =>
          have HN : Hid (bs (fun c => !ltOf cf d[p - c]! d[c]!) f' i h = T) := Lib.hid (by
            rw [← HB.out, bs, if_pos hij, HH.out, if_neg (by show ¬ (!decide _) = true; rw [HU.out, ← HXY.out.1, ← HXY.out.2]; rw [hlv]; simp)])
          have hlv' : cf (y1, y2) (x1, x2) < 0 := of_decide_eq_true hlv
          clear hlv
          go_wp2_with fail
          go_roundw
          case rel => exact ⟨i, h, f', rfl, rfl, by omega, by have := HH.out; omega, by have := HH.out; omega, by have := HH.out; omega, HN.out, S2.out⟩
          case measure => have := HH.out; simp [intOf]; omega
        | false =>
          have HN : Hid (bs (fun c => !ltOf cf d[p - c]! d[c]!) f' (h + 1) j = T) := Lib.hid (by
            rw [← HB.out, bs, if_pos hij, HH.out, if_pos (by show (!decide _) = true; rw [HU.out, ← HXY.out.1, ← HXY.out.2]; rw [hlv]; rfl)])
          have hlv' : ¬ cf (y1, y2) (x1, x2) < 0 := of_decide_eq_false hlv
          clear hlv
          go_wp2_with fail
          go_roundw
          case rel => exact ⟨h + 1, j, f', by go_num, rfl, by have := HH.out; omega, by have := HH.out; omega, by omega, by have := HH.out; omega, HN.out, S2.out⟩
          case measure => have := HH.out; simp [intOf]; omega
      · obtain rfl : i = j := by omega
        have hiT : i = T := by rw [← HB.out]; cases f2 <;> simp [bs]
        clear HB hij
        subst hiT
        by_cases hc1 : i < m ∧ m < q
        · skip
          by_cases hc2 : a < i ∧ i < mid
          · skip
            by_cases hc3 : mid < q ∧ q < b
            · skip
              have HF : Hid ((if mid < q ∧ q < b then symM (ltOf cf) f (if a < i ∧ i < mid then symM (ltOf cf) f (sTurn d i m q) a i mid else sTurn d i m q) mid q b else (if a < i ∧ i < mid then symM (ltOf cf) f (sTurn d i m q) a i mid else sTurn d i m q)) = (symM (ltOf cf) f (symM (ltOf cf) f (rotL m (q - i) d (m - i) (q - m)) a i mid) mid q b)) := Lib.hid (by rw [if_pos hc3, if_pos hc2, sTurn, if_pos hc1])
              have f0a : (i : Int) < m := by omega
              have f0b : (m : Int) < q := by omega
              have f1a : (a : Int) < i := by omega
              have f1b : (i : Int) < mid := by omega
              have f2a : (mid : Int) < q := by omega
              have f2b : (q : Int) < b := by omega
              go_wp2_with (first | (go_at_call 126; refine (CR.out i m q _ S1.out (by omega) (by omega) (by omega)).mono ?_; rintro e w2 ⟨rfl, hS2⟩; have S2 := Lib.hid hS2; clear hS2 S1) | (go_at_call 124; refine (HI.out (rotL m (q - i) d (m - i) (q - m)) _ a i mid (by rw [rotL_size]; exact HZ.out) S2.out (by omega) (by omega) (by omega) (by omega)).mono ?_; rintro e w3 ⟨rfl, hS3⟩; have S3 := Lib.hid hS3; clear hS3 S2) | (go_at_call 124; refine (HI.out (symM (ltOf cf) f (rotL m (q - i) d (m - i) (q - m)) a i mid) _ mid q b (by rw [symM_size, rotL_size]; exact HZ.out) S3.out (by omega) (by omega) (by omega) (by omega)).mono ?_; rintro e w4 ⟨rfl, hS4⟩; have S4 := Lib.hid hS4; clear hS4 S3))
              all_goals (refine bodyPost_end (results_none rfl _ _ _) rfl ?_; exact ⟨rfl, by rw [← HSym.out, HF.out]; exact S4.out⟩)
            · by_cases hd3 : mid < q
              · have g2a : (mid : Int) < q := by omega
                have g2b : ¬ (q : Int) < b := by omega
                have HF : Hid ((if mid < q ∧ q < b then symM (ltOf cf) f (if a < i ∧ i < mid then symM (ltOf cf) f (sTurn d i m q) a i mid else sTurn d i m q) mid q b else (if a < i ∧ i < mid then symM (ltOf cf) f (sTurn d i m q) a i mid else sTurn d i m q)) = (symM (ltOf cf) f (rotL m (q - i) d (m - i) (q - m)) a i mid)) := Lib.hid (by rw [if_neg hc3, if_pos hc2, sTurn, if_pos hc1])
                have f0a : (i : Int) < m := by omega
                have f0b : (m : Int) < q := by omega
                have f1a : (a : Int) < i := by omega
                have f1b : (i : Int) < mid := by omega
                go_wp2_with (first | (go_at_call 126; refine (CR.out i m q _ S1.out (by omega) (by omega) (by omega)).mono ?_; rintro e w2 ⟨rfl, hS2⟩; have S2 := Lib.hid hS2; clear hS2 S1) | (go_at_call 124; refine (HI.out (rotL m (q - i) d (m - i) (q - m)) _ a i mid (by rw [rotL_size]; exact HZ.out) S2.out (by omega) (by omega) (by omega) (by omega)).mono ?_; rintro e w3 ⟨rfl, hS3⟩; have S3 := Lib.hid hS3; clear hS3 S2))
                all_goals (refine bodyPost_end (results_none rfl _ _ _) rfl ?_; exact ⟨rfl, by rw [← HSym.out, HF.out]; exact S3.out⟩)
              · have g2a : ¬ (mid : Int) < q := by omega
                have HF : Hid ((if mid < q ∧ q < b then symM (ltOf cf) f (if a < i ∧ i < mid then symM (ltOf cf) f (sTurn d i m q) a i mid else sTurn d i m q) mid q b else (if a < i ∧ i < mid then symM (ltOf cf) f (sTurn d i m q) a i mid else sTurn d i m q)) = (symM (ltOf cf) f (rotL m (q - i) d (m - i) (q - m)) a i mid)) := Lib.hid (by rw [if_neg hc3, if_pos hc2, sTurn, if_pos hc1])
                have f0a : (i : Int) < m := by omega
                have f0b : (m : Int) < q := by omega
                have f1a : (a : Int) < i := by omega
                have f1b : (i : Int) < mid := by omega
                go_wp2_with (first | (go_at_call 126; refine (CR.out i m q _ S1.out (by omega) (by omega) (by omega)).mono ?_; rintro e w2 ⟨rfl, hS2⟩; have S2 := Lib.hid hS2; clear hS2 S1) | (go_at_call 124; refine (HI.out (rotL m (q - i) d (m - i) (q - m)) _ a i mid (by rw [rotL_size]; exact HZ.out) S2.out (by omega) (by omega) (by omega) (by omega)).mono ?_; rintro e w3 ⟨rfl, hS3⟩; have S3 := Lib.hid hS3; clear hS3 S2))
                all_goals (refine bodyPost_end (results_none rfl _ _ _) rfl ?_; exact ⟨rfl, by rw [← HSym.out, HF.out]; exact S3.out⟩)
          · by_cases hd2 : a < i
            · have g1a : (a : Int) < i := by omega
              have g1b : ¬ (i : Int) < mid := by omega
              by_cases hc3 : mid < q ∧ q < b
              · skip
                have HF : Hid ((if mid < q ∧ q < b then symM (ltOf cf) f (if a < i ∧ i < mid then symM (ltOf cf) f (sTurn d i m q) a i mid else sTurn d i m q) mid q b else (if a < i ∧ i < mid then symM (ltOf cf) f (sTurn d i m q) a i mid else sTurn d i m q)) = (symM (ltOf cf) f (rotL m (q - i) d (m - i) (q - m)) mid q b)) := Lib.hid (by rw [if_pos hc3, if_neg hc2, sTurn, if_pos hc1])
                have f0a : (i : Int) < m := by omega
                have f0b : (m : Int) < q := by omega
                have f2a : (mid : Int) < q := by omega
                have f2b : (q : Int) < b := by omega
                go_wp2_with (first | (go_at_call 126; refine (CR.out i m q _ S1.out (by omega) (by omega) (by omega)).mono ?_; rintro e w2 ⟨rfl, hS2⟩; have S2 := Lib.hid hS2; clear hS2 S1) | (go_at_call 124; refine (HI.out (rotL m (q - i) d (m - i) (q - m)) _ mid q b (by rw [rotL_size]; exact HZ.out) S2.out (by omega) (by omega) (by omega) (by omega)).mono ?_; rintro e w3 ⟨rfl, hS3⟩; have S3 := Lib.hid hS3; clear hS3 S2))
                all_goals (refine bodyPost_end (results_none rfl _ _ _) rfl ?_; exact ⟨rfl, by rw [← HSym.out, HF.out]; exact S3.out⟩)
              · by_cases hd3 : mid < q
                · have g2a : (mid : Int) < q := by omega
                  have g2b : ¬ (q : Int) < b := by omega
                  have HF : Hid ((if mid < q ∧ q < b then symM (ltOf cf) f (if a < i ∧ i < mid then symM (ltOf cf) f (sTurn d i m q) a i mid else sTurn d i m q) mid q b else (if a < i ∧ i < mid then symM (ltOf cf) f (sTurn d i m q) a i mid else sTurn d i m q)) = (rotL m (q - i) d (m - i) (q - m))) := Lib.hid (by rw [if_neg hc3, if_neg hc2, sTurn, if_pos hc1])
                  have f0a : (i : Int) < m := by omega
                  have f0b : (m : Int) < q := by omega
                  go_wp2_with (first | (go_at_call 126; refine (CR.out i m q _ S1.out (by omega) (by omega) (by omega)).mono ?_; rintro e w2 ⟨rfl, hS2⟩; have S2 := Lib.hid hS2; clear hS2 S1))
                  all_goals (refine bodyPost_end (results_none rfl _ _ _) rfl ?_; exact ⟨rfl, by rw [← HSym.out, HF.out]; exact S2.out⟩)
                · have g2a : ¬ (mid : Int) < q := by omega
                  have HF : Hid ((if mid < q ∧ q < b then symM (ltOf cf) f (if a < i ∧ i < mid then symM (ltOf cf) f (sTurn d i m q) a i mid else sTurn d i m q) mid q b else (if a < i ∧ i < mid then symM (ltOf cf) f (sTurn d i m q) a i mid else sTurn d i m q)) = (rotL m (q - i) d (m - i) (q - m))) := Lib.hid (by rw [if_neg hc3, if_neg hc2, sTurn, if_pos hc1])
                  have f0a : (i : Int) < m := by omega
                  have f0b : (m : Int) < q := by omega
                  go_wp2_with (first | (go_at_call 126; refine (CR.out i m q _ S1.out (by omega) (by omega) (by omega)).mono ?_; rintro e w2 ⟨rfl, hS2⟩; have S2 := Lib.hid hS2; clear hS2 S1))
                  all_goals (refine bodyPost_end (results_none rfl _ _ _) rfl ?_; exact ⟨rfl, by rw [← HSym.out, HF.out]; exact S2.out⟩)
            · have g1a : ¬ (a : Int) < i := by omega
              by_cases hc3 : mid < q ∧ q < b
              · skip
                have HF : Hid ((if mid < q ∧ q < b then symM (ltOf cf) f (if a < i ∧ i < mid then symM (ltOf cf) f (sTurn d i m q) a i mid else sTurn d i m q) mid q b else (if a < i ∧ i < mid then symM (ltOf cf) f (sTurn d i m q) a i mid else sTurn d i m q)) = (symM (ltOf cf) f (rotL m (q - i) d (m - i) (q - m)) mid q b)) := Lib.hid (by rw [if_pos hc3, if_neg hc2, sTurn, if_pos hc1])
                have f0a : (i : Int) < m := by omega
                have f0b : (m : Int) < q := by omega
                have f2a : (mid : Int) < q := by omega
                have f2b : (q : Int) < b := by omega
                go_wp2_with (first | (go_at_call 126; refine (CR.out i m q _ S1.out (by omega) (by omega) (by omega)).mono ?_; rintro e w2 ⟨rfl, hS2⟩; have S2 := Lib.hid hS2; clear hS2 S1) | (go_at_call 124; refine (HI.out (rotL m (q - i) d (m - i) (q - m)) _ mid q b (by rw [rotL_size]; exact HZ.out) S2.out (by omega) (by omega) (by omega) (by omega)).mono ?_; rintro e w3 ⟨rfl, hS3⟩; have S3 := Lib.hid hS3; clear hS3 S2))
                all_goals (refine bodyPost_end (results_none rfl _ _ _) rfl ?_; exact ⟨rfl, by rw [← HSym.out, HF.out]; exact S3.out⟩)
              · by_cases hd3 : mid < q
                · have g2a : (mid : Int) < q := by omega
                  have g2b : ¬ (q : Int) < b := by omega
                  have HF : Hid ((if mid < q ∧ q < b then symM (ltOf cf) f (if a < i ∧ i < mid then symM (ltOf cf) f (sTurn d i m q) a i mid else sTurn d i m q) mid q b else (if a < i ∧ i < mid then symM (ltOf cf) f (sTurn d i m q) a i mid else sTurn d i m q)) = (rotL m (q - i) d (m - i) (q - m))) := Lib.hid (by rw [if_neg hc3, if_neg hc2, sTurn, if_pos hc1])
                  have f0a : (i : Int) < m := by omega
                  have f0b : (m : Int) < q := by omega
                  go_wp2_with (first | (go_at_call 126; refine (CR.out i m q _ S1.out (by omega) (by omega) (by omega)).mono ?_; rintro e w2 ⟨rfl, hS2⟩; have S2 := Lib.hid hS2; clear hS2 S1))
                  all_goals (refine bodyPost_end (results_none rfl _ _ _) rfl ?_; exact ⟨rfl, by rw [← HSym.out, HF.out]; exact S2.out⟩)
                · have g2a : ¬ (mid : Int) < q := by omega
                  have HF : Hid ((if mid < q ∧ q < b then symM (ltOf cf) f (if a < i ∧ i < mid then symM (ltOf cf) f (sTurn d i m q) a i mid else sTurn d i m q) mid q b else (if a < i ∧ i < mid then symM (ltOf cf) f (sTurn d i m q) a i mid else sTurn d i m q)) = (rotL m (q - i) d (m - i) (q - m))) := Lib.hid (by rw [if_neg hc3, if_neg hc2, sTurn, if_pos hc1])
                  have f0a : (i : Int) < m := by omega
                  have f0b : (m : Int) < q := by omega
                  go_wp2_with (first | (go_at_call 126; refine (CR.out i m q _ S1.out (by omega) (by omega) (by omega)).mono ?_; rintro e w2 ⟨rfl, hS2⟩; have S2 := Lib.hid hS2; clear hS2 S1))
                  all_goals (refine bodyPost_end (results_none rfl _ _ _) rfl ?_; exact ⟨rfl, by rw [← HSym.out, HF.out]; exact S2.out⟩)
        · by_cases hd1 : i < m
          · have g0a : (i : Int) < m := by omega
            have g0b : ¬ (m : Int) < q := by omega
            by_cases hc2 : a < i ∧ i < mid
            · skip
              by_cases hc3 : mid < q ∧ q < b
              · skip
                have HF : Hid ((if mid < q ∧ q < b then symM (ltOf cf) f (if a < i ∧ i < mid then symM (ltOf cf) f (sTurn d i m q) a i mid else sTurn d i m q) mid q b else (if a < i ∧ i < mid then symM (ltOf cf) f (sTurn d i m q) a i mid else sTurn d i m q)) = (symM (ltOf cf) f (symM (ltOf cf) f d a i mid) mid q b)) := Lib.hid (by rw [if_pos hc3, if_pos hc2, sTurn, if_neg hc1])
                have f1a : (a : Int) < i := by omega
                have f1b : (i : Int) < mid := by omega
                have f2a : (mid : Int) < q := by omega
                have f2b : (q : Int) < b := by omega
                go_wp2_with (first | (go_at_call 124; refine (HI.out d _ a i mid HZ.out S1.out (by omega) (by omega) (by omega) (by omega)).mono ?_; rintro e w2 ⟨rfl, hS2⟩; have S2 := Lib.hid hS2; clear hS2 S1) | (go_at_call 124; refine (HI.out (symM (ltOf cf) f d a i mid) _ mid q b (by rw [symM_size]; exact HZ.out) S2.out (by omega) (by omega) (by omega) (by omega)).mono ?_; rintro e w3 ⟨rfl, hS3⟩; have S3 := Lib.hid hS3; clear hS3 S2))
                all_goals (refine bodyPost_end (results_none rfl _ _ _) rfl ?_; exact ⟨rfl, by rw [← HSym.out, HF.out]; exact S3.out⟩)
              · by_cases hd3 : mid < q
                · have g2a : (mid : Int) < q := by omega
                  have g2b : ¬ (q : Int) < b := by omega
                  have HF : Hid ((if mid < q ∧ q < b then symM (ltOf cf) f (if a < i ∧ i < mid then symM (ltOf cf) f (sTurn d i m q) a i mid else sTurn d i m q) mid q b else (if a < i ∧ i < mid then symM (ltOf cf) f (sTurn d i m q) a i mid else sTurn d i m q)) = (symM (ltOf cf) f d a i mid)) := Lib.hid (by rw [if_neg hc3, if_pos hc2, sTurn, if_neg hc1])
                  have f1a : (a : Int) < i := by omega
                  have f1b : (i : Int) < mid := by omega
                  go_wp2_with (first | (go_at_call 124; refine (HI.out d _ a i mid HZ.out S1.out (by omega) (by omega) (by omega) (by omega)).mono ?_; rintro e w2 ⟨rfl, hS2⟩; have S2 := Lib.hid hS2; clear hS2 S1))
                  all_goals (refine bodyPost_end (results_none rfl _ _ _) rfl ?_; exact ⟨rfl, by rw [← HSym.out, HF.out]; exact S2.out⟩)
                · have g2a : ¬ (mid : Int) < q := by omega
                  have HF : Hid ((if mid < q ∧ q < b then symM (ltOf cf) f (if a < i ∧ i < mid then symM (ltOf cf) f (sTurn d i m q) a i mid else sTurn d i m q) mid q b else (if a < i ∧ i < mid then symM (ltOf cf) f (sTurn d i m q) a i mid else sTurn d i m q)) = (symM (ltOf cf) f d a i mid)) := Lib.hid (by rw [if_neg hc3, if_pos hc2, sTurn, if_neg hc1])
                  have f1a : (a : Int) < i := by omega
                  have f1b : (i : Int) < mid := by omega
                  go_wp2_with (first | (go_at_call 124; refine (HI.out d _ a i mid HZ.out S1.out (by omega) (by omega) (by omega) (by omega)).mono ?_; rintro e w2 ⟨rfl, hS2⟩; have S2 := Lib.hid hS2; clear hS2 S1))
                  all_goals (refine bodyPost_end (results_none rfl _ _ _) rfl ?_; exact ⟨rfl, by rw [← HSym.out, HF.out]; exact S2.out⟩)
            · by_cases hd2 : a < i
              · have g1a : (a : Int) < i := by omega
                have g1b : ¬ (i : Int) < mid := by omega
                by_cases hc3 : mid < q ∧ q < b
                · skip
                  have HF : Hid ((if mid < q ∧ q < b then symM (ltOf cf) f (if a < i ∧ i < mid then symM (ltOf cf) f (sTurn d i m q) a i mid else sTurn d i m q) mid q b else (if a < i ∧ i < mid then symM (ltOf cf) f (sTurn d i m q) a i mid else sTurn d i m q)) = (symM (ltOf cf) f d mid q b)) := Lib.hid (by rw [if_pos hc3, if_neg hc2, sTurn, if_neg hc1])
                  have f2a : (mid : Int) < q := by omega
                  have f2b : (q : Int) < b := by omega
                  go_wp2_with (first | (go_at_call 124; refine (HI.out d _ mid q b HZ.out S1.out (by omega) (by omega) (by omega) (by omega)).mono ?_; rintro e w2 ⟨rfl, hS2⟩; have S2 := Lib.hid hS2; clear hS2 S1))
                  all_goals (refine bodyPost_end (results_none rfl _ _ _) rfl ?_; exact ⟨rfl, by rw [← HSym.out, HF.out]; exact S2.out⟩)
                · by_cases hd3 : mid < q
                  · have g2a : (mid : Int) < q := by omega
                    have g2b : ¬ (q : Int) < b := by omega
                    have HF : Hid ((if mid < q ∧ q < b then symM (ltOf cf) f (if a < i ∧ i < mid then symM (ltOf cf) f (sTurn d i m q) a i mid else sTurn d i m q) mid q b else (if a < i ∧ i < mid then symM (ltOf cf) f (sTurn d i m q) a i mid else sTurn d i m q)) = d) := Lib.hid (by rw [if_neg hc3, if_neg hc2, sTurn, if_neg hc1])
                    go_wp2_with fail
                    all_goals (refine bodyPost_end (results_none rfl _ _ _) rfl ?_; exact ⟨rfl, by rw [← HSym.out, HF.out]; exact S1.out⟩)
                  · have g2a : ¬ (mid : Int) < q := by omega
                    have HF : Hid ((if mid < q ∧ q < b then symM (ltOf cf) f (if a < i ∧ i < mid then symM (ltOf cf) f (sTurn d i m q) a i mid else sTurn d i m q) mid q b else (if a < i ∧ i < mid then symM (ltOf cf) f (sTurn d i m q) a i mid else sTurn d i m q)) = d) := Lib.hid (by rw [if_neg hc3, if_neg hc2, sTurn, if_neg hc1])
                    go_wp2_with fail
                    all_goals (refine bodyPost_end (results_none rfl _ _ _) rfl ?_; exact ⟨rfl, by rw [← HSym.out, HF.out]; exact S1.out⟩)
              · have g1a : ¬ (a : Int) < i := by omega
                by_cases hc3 : mid < q ∧ q < b
                · skip
                  have HF : Hid ((if mid < q ∧ q < b then symM (ltOf cf) f (if a < i ∧ i < mid then symM (ltOf cf) f (sTurn d i m q) a i mid else sTurn d i m q) mid q b else (if a < i ∧ i < mid then symM (ltOf cf) f (sTurn d i m q) a i mid else sTurn d i m q)) = (symM (ltOf cf) f d mid q b)) := Lib.hid (by rw [if_pos hc3, if_neg hc2, sTurn, if_neg hc1])
                  have f2a : (mid : Int) < q := by omega
                  have f2b : (q : Int) < b := by omega
                  go_wp2_with (first | (go_at_call 124; refine (HI.out d _ mid q b HZ.out S1.out (by omega) (by omega) (by omega) (by omega)).mono ?_; rintro e w2 ⟨rfl, hS2⟩; have S2 := Lib.hid hS2; clear hS2 S1))
                  all_goals (refine bodyPost_end (results_none rfl _ _ _) rfl ?_; exact ⟨rfl, by rw [← HSym.out, HF.out]; exact S2.out⟩)
                · by_cases hd3 : mid < q
                  · have g2a : (mid : Int) < q := by omega
                    have g2b : ¬ (q : Int) < b := by omega
                    have HF : Hid ((if mid < q ∧ q < b then symM (ltOf cf) f (if a < i ∧ i < mid then symM (ltOf cf) f (sTurn d i m q) a i mid else sTurn d i m q) mid q b else (if a < i ∧ i < mid then symM (ltOf cf) f (sTurn d i m q) a i mid else sTurn d i m q)) = d) := Lib.hid (by rw [if_neg hc3, if_neg hc2, sTurn, if_neg hc1])
                    go_wp2_with fail
                    all_goals (refine bodyPost_end (results_none rfl _ _ _) rfl ?_; exact ⟨rfl, by rw [← HSym.out, HF.out]; exact S1.out⟩)
                  · have g2a : ¬ (mid : Int) < q := by omega
                    have HF : Hid ((if mid < q ∧ q < b then symM (ltOf cf) f (if a < i ∧ i < mid then symM (ltOf cf) f (sTurn d i m q) a i mid else sTurn d i m q) mid q b else (if a < i ∧ i < mid then symM (ltOf cf) f (sTurn d i m q) a i mid else sTurn d i m q)) = d) := Lib.hid (by rw [if_neg hc3, if_neg hc2, sTurn, if_neg hc1])
                    go_wp2_with fail
                    all_goals (refine bodyPost_end (results_none rfl _ _ _) rfl ?_; exact ⟨rfl, by rw [← HSym.out, HF.out]; exact S1.out⟩)
          · have g0a : ¬ (i : Int) < m := by omega
            by_cases hc2 : a < i ∧ i < mid
            · skip
              by_cases hc3 : mid < q ∧ q < b
              · skip
                have HF : Hid ((if mid < q ∧ q < b then symM (ltOf cf) f (if a < i ∧ i < mid then symM (ltOf cf) f (sTurn d i m q) a i mid else sTurn d i m q) mid q b else (if a < i ∧ i < mid then symM (ltOf cf) f (sTurn d i m q) a i mid else sTurn d i m q)) = (symM (ltOf cf) f (symM (ltOf cf) f d a i mid) mid q b)) := Lib.hid (by rw [if_pos hc3, if_pos hc2, sTurn, if_neg hc1])
                have f1a : (a : Int) < i := by omega
                have f1b : (i : Int) < mid := by omega
                have f2a : (mid : Int) < q := by omega
                have f2b : (q : Int) < b := by omega
                go_wp2_with (first | (go_at_call 124; refine (HI.out d _ a i mid HZ.out S1.out (by omega) (by omega) (by omega) (by omega)).mono ?_; rintro e w2 ⟨rfl, hS2⟩; have S2 := Lib.hid hS2; clear hS2 S1) | (go_at_call 124; refine (HI.out (symM (ltOf cf) f d a i mid) _ mid q b (by rw [symM_size]; exact HZ.out) S2.out (by omega) (by omega) (by omega) (by omega)).mono ?_; rintro e w3 ⟨rfl, hS3⟩; have S3 := Lib.hid hS3; clear hS3 S2))
                all_goals (refine bodyPost_end (results_none rfl _ _ _) rfl ?_; exact ⟨rfl, by rw [← HSym.out, HF.out]; exact S3.out⟩)
              · by_cases hd3 : mid < q
                · have g2a : (mid : Int) < q := by omega
                  have g2b : ¬ (q : Int) < b := by omega
                  have HF : Hid ((if mid < q ∧ q < b then symM (ltOf cf) f (if a < i ∧ i < mid then symM (ltOf cf) f (sTurn d i m q) a i mid else sTurn d i m q) mid q b else (if a < i ∧ i < mid then symM (ltOf cf) f (sTurn d i m q) a i mid else sTurn d i m q)) = (symM (ltOf cf) f d a i mid)) := Lib.hid (by rw [if_neg hc3, if_pos hc2, sTurn, if_neg hc1])
                  have f1a : (a : Int) < i := by omega
                  have f1b : (i : Int) < mid := by omega
                  go_wp2_with (first | (go_at_call 124; refine (HI.out d _ a i mid HZ.out S1.out (by omega) (by omega) (by omega) (by omega)).mono ?_; rintro e w2 ⟨rfl, hS2⟩; have S2 := Lib.hid hS2; clear hS2 S1))
                  all_goals (refine bodyPost_end (results_none rfl _ _ _) rfl ?_; exact ⟨rfl, by rw [← HSym.out, HF.out]; exact S2.out⟩)
                · have g2a : ¬ (mid : Int) < q := by omega
                  have HF : Hid ((if mid < q ∧ q < b then symM (ltOf cf) f (if a < i ∧ i < mid then symM (ltOf cf) f (sTurn d i m q) a i mid else sTurn d i m q) mid q b else (if a < i ∧ i < mid then symM (ltOf cf) f (sTurn d i m q) a i mid else sTurn d i m q)) = (symM (ltOf cf) f d a i mid)) := Lib.hid (by rw [if_neg hc3, if_pos hc2, sTurn, if_neg hc1])
                  have f1a : (a : Int) < i := by omega
                  have f1b : (i : Int) < mid := by omega
                  go_wp2_with (first | (go_at_call 124; refine (HI.out d _ a i mid HZ.out S1.out (by omega) (by omega) (by omega) (by omega)).mono ?_; rintro e w2 ⟨rfl, hS2⟩; have S2 := Lib.hid hS2; clear hS2 S1))
                  all_goals (refine bodyPost_end (results_none rfl _ _ _) rfl ?_; exact ⟨rfl, by rw [← HSym.out, HF.out]; exact S2.out⟩)
            · by_cases hd2 : a < i
              · have g1a : (a : Int) < i := by omega
                have g1b : ¬ (i : Int) < mid := by omega
                by_cases hc3 : mid < q ∧ q < b
                · skip
                  have HF : Hid ((if mid < q ∧ q < b then symM (ltOf cf) f (if a < i ∧ i < mid then symM (ltOf cf) f (sTurn d i m q) a i mid else sTurn d i m q) mid q b else (if a < i ∧ i < mid then symM (ltOf cf) f (sTurn d i m q) a i mid else sTurn d i m q)) = (symM (ltOf cf) f d mid q b)) := Lib.hid (by rw [if_pos hc3, if_neg hc2, sTurn, if_neg hc1])
                  have f2a : (mid : Int) < q := by omega
                  have f2b : (q : Int) < b := by omega
                  go_wp2_with (first | (go_at_call 124; refine (HI.out d _ mid q b HZ.out S1.out (by omega) (by omega) (by omega) (by omega)).mono ?_; rintro e w2 ⟨rfl, hS2⟩; have S2 := Lib.hid hS2; clear hS2 S1))
                  all_goals (refine bodyPost_end (results_none rfl _ _ _) rfl ?_; exact ⟨rfl, by rw [← HSym.out, HF.out]; exact S2.out⟩)
                · by_cases hd3 : mid < q
                  · have g2a : (mid : Int) < q := by omega
                    have g2b : ¬ (q : Int) < b := by omega
                    have HF : Hid ((if mid < q ∧ q < b then symM (ltOf cf) f (if a < i ∧ i < mid then symM (ltOf cf) f (sTurn d i m q) a i mid else sTurn d i m q) mid q b else (if a < i ∧ i < mid then symM (ltOf cf) f (sTurn d i m q) a i mid else sTurn d i m q)) = d) := Lib.hid (by rw [if_neg hc3, if_neg hc2, sTurn, if_neg hc1])
                    go_wp2_with fail
                    all_goals (refine bodyPost_end (results_none rfl _ _ _) rfl ?_; exact ⟨rfl, by rw [← HSym.out, HF.out]; exact S1.out⟩)
                  · have g2a : ¬ (mid : Int) < q := by omega
                    have HF : Hid ((if mid < q ∧ q < b then symM (ltOf cf) f (if a < i ∧ i < mid then symM (ltOf cf) f (sTurn d i m q) a i mid else sTurn d i m q) mid q b else (if a < i ∧ i < mid then symM (ltOf cf) f (sTurn d i m q) a i mid else sTurn d i m q)) = d) := Lib.hid (by rw [if_neg hc3, if_neg hc2, sTurn, if_neg hc1])
                    go_wp2_with fail
                    all_goals (refine bodyPost_end (results_none rfl _ _ _) rfl ?_; exact ⟨rfl, by rw [← HSym.out, HF.out]; exact S1.out⟩)
              · have g1a : ¬ (a : Int) < i := by omega
                by_cases hc3 : mid < q ∧ q < b
                · skip
                  have HF : Hid ((if mid < q ∧ q < b then symM (ltOf cf) f (if a < i ∧ i < mid then symM (ltOf cf) f (sTurn d i m q) a i mid else sTurn d i m q) mid q b else (if a < i ∧ i < mid then symM (ltOf cf) f (sTurn d i m q) a i mid else sTurn d i m q)) = (symM (ltOf cf) f d mid q b)) := Lib.hid (by rw [if_pos hc3, if_neg hc2, sTurn, if_neg hc1])
                  have f2a : (mid : Int) < q := by omega
                  have f2b : (q : Int) < b := by omega
                  go_wp2_with (first | (go_at_call 124; refine (HI.out d _ mid q b HZ.out S1.out (by omega) (by omega) (by omega) (by omega)).mono ?_; rintro e w2 ⟨rfl, hS2⟩; have S2 := Lib.hid hS2; clear hS2 S1))
                  all_goals (refine bodyPost_end (results_none rfl _ _ _) rfl ?_; exact ⟨rfl, by rw [← HSym.out, HF.out]; exact S2.out⟩)
                · by_cases hd3 : mid < q
                  · have g2a : (mid : Int) < q := by omega
                    have g2b : ¬ (q : Int) < b := by omega
                    have HF : Hid ((if mid < q ∧ q < b then symM (ltOf cf) f (if a < i ∧ i < mid then symM (ltOf cf) f (sTurn d i m q) a i mid else sTurn d i m q) mid q b else (if a < i ∧ i < mid then symM (ltOf cf) f (sTurn d i m q) a i mid else sTurn d i m q)) = d) := Lib.hid (by rw [if_neg hc3, if_neg hc2, sTurn, if_neg hc1])
                    go_wp2_with fail
                    all_goals (refine bodyPost_end (results_none rfl _ _ _) rfl ?_; exact ⟨rfl, by rw [← HSym.out, HF.out]; exact S1.out⟩)
                  · have g2a : ¬ (mid : Int) < q := by omega
                    have HF : Hid ((if mid < q ∧ q < b then symM (ltOf cf) f (if a < i ∧ i < mid then symM (ltOf cf) f (sTurn d i m q) a i mid else sTurn d i m q) mid q b else (if a < i ∧ i < mid then symM (ltOf cf) f (sTurn d i m q) a i mid else sTurn d i m q)) = d) := Lib.hid (by rw [if_neg hc3, if_neg hc2, sTurn, if_neg hc1])
                    go_wp2_with fail
                    all_goals (refine bodyPost_end (results_none rfl _ _ _) rfl ?_; exact ⟨rfl, by rw [← HSym.out, HF.out]; exact S1.out⟩)
  · rw [if_neg hmm] at hlo hhi
    subst hlo
    subst hhi
    go_wp2_with fail
    go_loopw [20, 21] (fun vi vj wr => ∃ (i j f : Nat), vi = .int .i64 i ∧ vj = .int .i64 j ∧ a ≤ i ∧ i ≤ j ∧ j ≤ m ∧ j - i ≤ f ∧ bs (fun c => !ltOf cf d[p - c]! d[c]!) f i j = T ∧ SWK encP 2 w0 blk 0 d wr) (fun vi vj _ => (intOf vj).toNat - (intOf vi).toNat)
    case atStart => exact ⟨a, m, b - a, rfl, rfl, by omega, by omega, by omega, by omega, HT.out, S0.out⟩
    case round =>
      clear S0 HT
      obtain ⟨i, j, f2, rfl, rfl, hi, hj, hjb, hf2, hbs, hS⟩ := hrel
      have S1 := Lib.hid hS; clear hS
      have HB := Lib.hid hbs; clear hbs
      by_cases hij : i < j
      · obtain ⟨f', rfl⟩ : ∃ f', f2 = f' + 1 := ⟨f2 - 1, by omega⟩
        obtain ⟨h, hh⟩ : ∃ h, (i + j) / 2 = h := ⟨_, rfl⟩
        obtain ⟨u, hu⟩ : ∃ u, p - h = u := ⟨_, rfl⟩
        have hsz2 : d.size = d0.size := HS.out.symm
        have wh : ((i : Int) + j) / 2 = h := by omega
        have ra : IntKind.i64.wrap ((p : Int) - h) = u := by rw [IntWalk.i64_in _ (by omega)]; omega
        have ra2 : (p : Int) - h = u := by omega
        have ru : IntKind.i64.wrap (u : Int) = u := IntWalk.i64_in _ (by omega)
        have pa : (0 : Int) ≤ u := by omega
        have ba : (u : Int) < z := by omega
        have h0 : (0 : Int) ≤ h := by omega
        have hzz : (h : Int) < z := by omega
        obtain ⟨x, hx⟩ : ∃ x, x = d[h]! := ⟨_, rfl⟩
        obtain ⟨y, hy⟩ : ∃ x, x = d[u]! := ⟨_, rfl⟩
        have ch := fun n os => cellsP (S1.out.grown n os) HR.out hsz2 h (by rw [HZ.out]; omega)
        have ca := fun n os => cellsP (S1.out.grown n os) HR.out hsz2 u (by rw [HZ.out]; omega)
        rw [← hx] at ch
        rw [← hy] at ca
        obtain ⟨x1, x2⟩ := x
        obtain ⟨y1, y2⟩ := y
        have ch0 := fun n os => (ch n os).1
        have ch1 := fun n os => (ch n os).2.1
        have ca0 := fun n os => (ca n os).1
        have ca1 := fun n os => (ca n os).2.1
        simp only at ch0 ch1 ca0 ca1
        clear ch ca
        have hcm := S1.out.cmp HC.out hsz2 (y1, y2) (x1, x2)
        simp only [encP] at hcm
        have HXY := Lib.hid (And.intro hx hy)
        clear hx hy hsz2
        have HH := Lib.hid hh; clear hh
        have HU := Lib.hid hu; clear hu
        go_wp2_with fail
        clear wh
        go_quiet_grown (first | (go_at_fn g; refine Calls.grown_of (hcm _ _)))
        have S2 : Hid (SWK encP 2 w0 blk 0 d (grow (wr.drewN nq) osq)) := Lib.hid (S1.out.grown nq osq)
        clear ch0 ch1 ca0 ca1 hcm S1 ra ru ra2 pa ba
        generalize grow (wr.drewN nq) osq = w2 at S2 ⊢
        clear nq osq
        cases hlv : decide (cf (y1, y2) (x1, x2) < 0) with
        | true =>
          have HN : Hid (bs (fun c => !ltOf cf d[p - c]! d[c]!) f' i h = T) := Lib.hid (by
            rw [← HB.out, bs, if_pos hij, HH.out, if_neg (by show ¬ (!decide _) = true; rw [HU.out, ← HXY.out.1, ← HXY.out.2]; rw [hlv]; simp)])
          have hlv' : cf (y1, y2) (x1, x2) < 0 := of_decide_eq_true hlv
          clear hlv
          go_wp2_with fail
          go_roundw
          case rel => exact ⟨i, h, f', rfl, rfl, by omega, by have := HH.out; omega, by have := HH.out; omega, by have := HH.out; omega, HN.out, S2.out⟩
          case measure => have := HH.out; simp [intOf]; omega
        | false =>
          have HN : Hid (bs (fun c => !ltOf cf d[p - c]! d[c]!) f' (h + 1) j = T) := Lib.hid (by
            rw [← HB.out, bs, if_pos hij, HH.out, if_pos (by show (!decide _) = true; rw [HU.out, ← HXY.out.1, ← HXY.out.2]; rw [hlv]; rfl)])
          have hlv' : ¬ cf (y1, y2) (x1, x2) < 0 := of_decide_eq_false hlv
          clear hlv
          go_wp2_with fail
          go_roundw
          case rel => exact ⟨h + 1, j, f', by go_num, rfl, by have := HH.out; omega, by have := HH.out; omega, by omega, by have := HH.out; omega, HN.out, S2.out⟩
          case measure => have := HH.out; simp [intOf]; omega
      · obtain rfl : i = j := by omega
        have hiT : i = T := by rw [← HB.out]; cases f2 <;> simp [bs]
        clear HB hij
        subst hiT
        by_cases hc1 : i < m ∧ m < q
        · skip
          by_cases hc2 : a < i ∧ i < mid
          · skip
            by_cases hc3 : mid < q ∧ q < b
            · skip
              have HF : Hid ((if mid < q ∧ q < b then symM (ltOf cf) f (if a < i ∧ i < mid then symM (ltOf cf) f (sTurn d i m q) a i mid else sTurn d i m q) mid q b else (if a < i ∧ i < mid then symM (ltOf cf) f (sTurn d i m q) a i mid else sTurn d i m q)) = (symM (ltOf cf) f (symM (ltOf cf) f (rotL m (q - i) d (m - i) (q - m)) a i mid) mid q b)) := Lib.hid (by rw [if_pos hc3, if_pos hc2, sTurn, if_pos hc1])
              have f0a : (i : Int) < m := by omega
              have f0b : (m : Int) < q := by omega
              have f1a : (a : Int) < i := by omega
              have f1b : (i : Int) < mid := by omega
              have f2a : (mid : Int) < q := by omega
              have f2b : (q : Int) < b := by omega
              go_wp2_with (first | (go_at_call 126; refine (CR.out i m q _ S1.out (by omega) (by omega) (by omega)).mono ?_; rintro e w2 ⟨rfl, hS2⟩; have S2 := Lib.hid hS2; clear hS2 S1) | (go_at_call 124; refine (HI.out (rotL m (q - i) d (m - i) (q - m)) _ a i mid (by rw [rotL_size]; exact HZ.out) S2.out (by omega) (by omega) (by omega) (by omega)).mono ?_; rintro e w3 ⟨rfl, hS3⟩; have S3 := Lib.hid hS3; clear hS3 S2) | (go_at_call 124; refine (HI.out (symM (ltOf cf) f (rotL m (q - i) d (m - i) (q - m)) a i mid) _ mid q b (by rw [symM_size, rotL_size]; exact HZ.out) S3.out (by omega) (by omega) (by omega) (by omega)).mono ?_; rintro e w4 ⟨rfl, hS4⟩; have S4 := Lib.hid hS4; clear hS4 S3))
              all_goals (refine bodyPost_end (results_none rfl _ _ _) rfl ?_; exact ⟨rfl, by rw [← HSym.out, HF.out]; exact S4.out⟩)
            · by_cases hd3 : mid < q
              · have g2a : (mid : Int) < q := by omega
                have g2b : ¬ (q : Int) < b := by omega
                have HF : Hid ((if mid < q ∧ q < b then symM (ltOf cf) f (if a < i ∧ i < mid then symM (ltOf cf) f (sTurn d i m q) a i mid else sTurn d i m q) mid q b else (if a < i ∧ i < mid then symM (ltOf cf) f (sTurn d i m q) a i mid else sTurn d i m q)) = (symM (ltOf cf) f (rotL m (q - i) d (m - i) (q - m)) a i mid)) := Lib.hid (by rw [if_neg hc3, if_pos hc2, sTurn, if_pos hc1])
                have f0a : (i : Int) < m := by omega
                have f0b : (m : Int) < q := by omega
                have f1a : (a : Int) < i := by omega
                have f1b : (i : Int) < mid := by omega
                go_wp2_with (first | (go_at_call 126; refine (CR.out i m q _ S1.out (by omega) (by omega) (by omega)).mono ?_; rintro e w2 ⟨rfl, hS2⟩; have S2 := Lib.hid hS2; clear hS2 S1) | (go_at_call 124; refine (HI.out (rotL m (q - i) d (m - i) (q - m)) _ a i mid (by rw [rotL_size]; exact HZ.out) S2.out (by omega) (by omega) (by omega) (by omega)).mono ?_; rintro e w3 ⟨rfl, hS3⟩; have S3 := Lib.hid hS3; clear hS3 S2))
                all_goals (refine bodyPost_end (results_none rfl _ _ _) rfl ?_; exact ⟨rfl, by rw [← HSym.out, HF.out]; exact S3.out⟩)
              · have g2a : ¬ (mid : Int) < q := by omega
                have HF : Hid ((if mid < q ∧ q < b then symM (ltOf cf) f (if a < i ∧ i < mid then symM (ltOf cf) f (sTurn d i m q) a i mid else sTurn d i m q) mid q b else (if a < i ∧ i < mid then symM (ltOf cf) f (sTurn d i m q) a i mid else sTurn d i m q)) = (symM (ltOf cf) f (rotL m (q - i) d (m - i) (q - m)) a i mid)) := Lib.hid (by rw [if_neg hc3, if_pos hc2, sTurn, if_pos hc1])
                have f0a : (i : Int) < m := by omega
                have f0b : (m : Int) < q := by omega
                have f1a : (a : Int) < i := by omega
                have f1b : (i : Int) < mid := by omega
                go_wp2_with (first | (go_at_call 126; refine (CR.out i m q _ S1.out (by omega) (by omega) (by omega)).mono ?_; rintro e w2 ⟨rfl, hS2⟩; have S2 := Lib.hid hS2; clear hS2 S1) | (go_at_call 124; refine (HI.out (rotL m (q - i) d (m - i) (q - m)) _ a i mid (by rw [rotL_size]; exact HZ.out) S2.out (by omega) (by omega) (by omega) (by omega)).mono ?_; rintro e w3 ⟨rfl, hS3⟩; have S3 := Lib.hid hS3; clear hS3 S2))
                all_goals (refine bodyPost_end (results_none rfl _ _ _) rfl ?_; exact ⟨rfl, by rw [← HSym.out, HF.out]; exact S3.out⟩)
          · by_cases hd2 : a < i
            · have g1a : (a : Int) < i := by omega
              have g1b : ¬ (i : Int) < mid := by omega
              by_cases hc3 : mid < q ∧ q < b
              · skip
                have HF : Hid ((if mid < q ∧ q < b then symM (ltOf cf) f (if a < i ∧ i < mid then symM (ltOf cf) f (sTurn d i m q) a i mid else sTurn d i m q) mid q b else (if a < i ∧ i < mid then symM (ltOf cf) f (sTurn d i m q) a i mid else sTurn d i m q)) = (symM (ltOf cf) f (rotL m (q - i) d (m - i) (q - m)) mid q b)) := Lib.hid (by rw [if_pos hc3, if_neg hc2, sTurn, if_pos hc1])
                have f0a : (i : Int) < m := by omega
                have f0b : (m : Int) < q := by omega
                have f2a : (mid : Int) < q := by omega
                have f2b : (q : Int) < b := by omega
                go_wp2_with (first | (go_at_call 126; refine (CR.out i m q _ S1.out (by omega) (by omega) (by omega)).mono ?_; rintro e w2 ⟨rfl, hS2⟩; have S2 := Lib.hid hS2; clear hS2 S1) | (go_at_call 124; refine (HI.out (rotL m (q - i) d (m - i) (q - m)) _ mid q b (by rw [rotL_size]; exact HZ.out) S2.out (by omega) (by omega) (by omega) (by omega)).mono ?_; rintro e w3 ⟨rfl, hS3⟩; have S3 := Lib.hid hS3; clear hS3 S2))
                all_goals (refine bodyPost_end (results_none rfl _ _ _) rfl ?_; exact ⟨rfl, by rw [← HSym.out, HF.out]; exact S3.out⟩)
              · by_cases hd3 : mid < q
                · have g2a : (mid : Int) < q := by omega
                  have g2b : ¬ (q : Int) < b := by omega
                  have HF : Hid ((if mid < q ∧ q < b then symM (ltOf cf) f (if a < i ∧ i < mid then symM (ltOf cf) f (sTurn d i m q) a i mid else sTurn d i m q) mid q b else (if a < i ∧ i < mid then symM (ltOf cf) f (sTurn d i m q) a i mid else sTurn d i m q)) = (rotL m (q - i) d (m - i) (q - m))) := Lib.hid (by rw [if_neg hc3, if_neg hc2, sTurn, if_pos hc1])
                  have f0a : (i : Int) < m := by omega
                  have f0b : (m : Int) < q := by omega
                  go_wp2_with (first | (go_at_call 126; refine (CR.out i m q _ S1.out (by omega) (by omega) (by omega)).mono ?_; rintro e w2 ⟨rfl, hS2⟩; have S2 := Lib.hid hS2; clear hS2 S1))
                  all_goals (refine bodyPost_end (results_none rfl _ _ _) rfl ?_; exact ⟨rfl, by rw [← HSym.out, HF.out]; exact S2.out⟩)
                · have g2a : ¬ (mid : Int) < q := by omega
                  have HF : Hid ((if mid < q ∧ q < b then symM (ltOf cf) f (if a < i ∧ i < mid then symM (ltOf cf) f (sTurn d i m q) a i mid else sTurn d i m q) mid q b else (if a < i ∧ i < mid then symM (ltOf cf) f (sTurn d i m q) a i mid else sTurn d i m q)) = (rotL m (q - i) d (m - i) (q - m))) := Lib.hid (by rw [if_neg hc3, if_neg hc2, sTurn, if_pos hc1])
                  have f0a : (i : Int) < m := by omega
                  have f0b : (m : Int) < q := by omega
                  go_wp2_with (first | (go_at_call 126; refine (CR.out i m q _ S1.out (by omega) (by omega) (by omega)).mono ?_; rintro e w2 ⟨rfl, hS2⟩; have S2 := Lib.hid hS2; clear hS2 S1))
                  all_goals (refine bodyPost_end (results_none rfl _ _ _) rfl ?_; exact ⟨rfl, by rw [← HSym.out, HF.out]; exact S2.out⟩)
            · have g1a : ¬ (a : Int) < i := by omega
              by_cases hc3 : mid < q ∧ q < b
              · skip
                have HF : Hid ((if mid < q ∧ q < b then symM (ltOf cf) f (if a < i ∧ i < mid then symM (ltOf cf) f (sTurn d i m q) a i mid else sTurn d i m q) mid q b else (if a < i ∧ i < mid then symM (ltOf cf) f (sTurn d i m q) a i mid else sTurn d i m q)) = (symM (ltOf cf) f (rotL m (q - i) d (m - i) (q - m)) mid q b)) := Lib.hid (by rw [if_pos hc3, if_neg hc2, sTurn, if_pos hc1])
                have f0a : (i : Int) < m := by omega
                have f0b : (m : Int) < q := by omega
                have f2a : (mid : Int) < q := by omega
                have f2b : (q : Int) < b := by omega
                go_wp2_with (first | (go_at_call 126; refine (CR.out i m q _ S1.out (by omega) (by omega) (by omega)).mono ?_; rintro e w2 ⟨rfl, hS2⟩; have S2 := Lib.hid hS2; clear hS2 S1) | (go_at_call 124; refine (HI.out (rotL m (q - i) d (m - i) (q - m)) _ mid q b (by rw [rotL_size]; exact HZ.out) S2.out (by omega) (by omega) (by omega) (by omega)).mono ?_; rintro e w3 ⟨rfl, hS3⟩; have S3 := Lib.hid hS3; clear hS3 S2))
                all_goals (refine bodyPost_end (results_none rfl _ _ _) rfl ?_; exact ⟨rfl, by rw [← HSym.out, HF.out]; exact S3.out⟩)
              · by_cases hd3 : mid < q
                · have g2a : (mid : Int) < q := by omega
                  have g2b : ¬ (q : Int) < b := by omega
                  have HF : Hid ((if mid < q ∧ q < b then symM (ltOf cf) f (if a < i ∧ i < mid then symM (ltOf cf) f (sTurn d i m q) a i mid else sTurn d i m q) mid q b else (if a < i ∧ i < mid then symM (ltOf cf) f (sTurn d i m q) a i mid else sTurn d i m q)) = (rotL m (q - i) d (m - i) (q - m))) := Lib.hid (by rw [if_neg hc3, if_neg hc2, sTurn, if_pos hc1])
                  have f0a : (i : Int) < m := by omega
                  have f0b : (m : Int) < q := by omega
                  go_wp2_with (first | (go_at_call 126; refine (CR.out i m q _ S1.out (by omega) (by omega) (by omega)).mono ?_; rintro e w2 ⟨rfl, hS2⟩; have S2 := Lib.hid hS2; clear hS2 S1))
                  all_goals (refine bodyPost_end (results_none rfl _ _ _) rfl ?_; exact ⟨rfl, by rw [← HSym.out, HF.out]; exact S2.out⟩)
                · have g2a : ¬ (mid : Int) < q := by omega
                  have HF : Hid ((if mid < q ∧ q < b then symM (ltOf cf) f (if a < i ∧ i < mid then symM (ltOf cf) f (sTurn d i m q) a i mid else sTurn d i m q) mid q b else (if a < i ∧ i < mid then symM (ltOf cf) f (sTurn d i m q) a i mid else sTurn d i m q)) = (rotL m (q - i) d (m - i) (q - m))) := Lib.hid (by rw [if_neg hc3, if_neg hc2, sTurn, if_pos hc1])
                  have f0a : (i : Int) < m := by omega
                  have f0b : (m : Int) < q := by omega
                  go_wp2_with (first | (go_at_call 126; refine (CR.out i m q _ S1.out (by omega) (by omega) (by omega)).mono ?_; rintro e w2 ⟨rfl, hS2⟩; have S2 := Lib.hid hS2; clear hS2 S1))
                  all_goals (refine bodyPost_end (results_none rfl _ _ _) rfl ?_; exact ⟨rfl, by rw [← HSym.out, HF.out]; exact S2.out⟩)
        · by_cases hd1 : i < m
          · have g0a : (i : Int) < m := by omega
            have g0b : ¬ (m : Int) < q := by omega
            by_cases hc2 : a < i ∧ i < mid
            · skip
              by_cases hc3 : mid < q ∧ q < b
              · skip
                have HF : Hid ((if mid < q ∧ q < b then symM (ltOf cf) f (if a < i ∧ i < mid then symM (ltOf cf) f (sTurn d i m q) a i mid else sTurn d i m q) mid q b else (if a < i ∧ i < mid then symM (ltOf cf) f (sTurn d i m q) a i mid else sTurn d i m q)) = (symM (ltOf cf) f (symM (ltOf cf) f d a i mid) mid q b)) := Lib.hid (by rw [if_pos hc3, if_pos hc2, sTurn, if_neg hc1])
                have f1a : (a : Int) < i := by omega
                have f1b : (i : Int) < mid := by omega
                have f2a : (mid : Int) < q := by omega
                have f2b : (q : Int) < b := by omega
                go_wp2_with (first | (go_at_call 124; refine (HI.out d _ a i mid HZ.out S1.out (by omega) (by omega) (by omega) (by omega)).mono ?_; rintro e w2 ⟨rfl, hS2⟩; have S2 := Lib.hid hS2; clear hS2 S1) | (go_at_call 124; refine (HI.out (symM (ltOf cf) f d a i mid) _ mid q b (by rw [symM_size]; exact HZ.out) S2.out (by omega) (by omega) (by omega) (by omega)).mono ?_; rintro e w3 ⟨rfl, hS3⟩; have S3 := Lib.hid hS3; clear hS3 S2))
                all_goals (refine bodyPost_end (results_none rfl _ _ _) rfl ?_; exact ⟨rfl, by rw [← HSym.out, HF.out]; exact S3.out⟩)
              · by_cases hd3 : mid < q
                · have g2a : (mid : Int) < q := by omega
                  have g2b : ¬ (q : Int) < b := by omega
                  have HF : Hid ((if mid < q ∧ q < b then symM (ltOf cf) f (if a < i ∧ i < mid then symM (ltOf cf) f (sTurn d i m q) a i mid else sTurn d i m q) mid q b else (if a < i ∧ i < mid then symM (ltOf cf) f (sTurn d i m q) a i mid else sTurn d i m q)) = (symM (ltOf cf) f d a i mid)) := Lib.hid (by rw [if_neg hc3, if_pos hc2, sTurn, if_neg hc1])
                  have f1a : (a : Int) < i := by omega
                  have f1b : (i : Int) < mid := by omega
                  go_wp2_with (first | (go_at_call 124; refine (HI.out d _ a i mid HZ.out S1.out (by omega) (by omega) (by omega) (by omega)).mono ?_; rintro e w2 ⟨rfl, hS2⟩; have S2 := Lib.hid hS2; clear hS2 S1))
                  all_goals (refine bodyPost_end (results_none rfl _ _ _) rfl ?_; exact ⟨rfl, by rw [← HSym.out, HF.out]; exact S2.out⟩)
                · have g2a : ¬ (mid : Int) < q := by omega
                  have HF : Hid ((if mid < q ∧ q < b then symM (ltOf cf) f (if a < i ∧ i < mid then symM (ltOf cf) f (sTurn d i m q) a i mid else sTurn d i m q) mid q b else (if a < i ∧ i < mid then symM (ltOf cf) f (sTurn d i m q) a i mid else sTurn d i m q)) = (symM (ltOf cf) f d a i mid)) := Lib.hid (by rw [if_neg hc3, if_pos hc2, sTurn, if_neg hc1])
                  have f1a : (a : Int) < i := by omega
                  have f1b : (i : Int) < mid := by omega
                  go_wp2_with (first | (go_at_call 124; refine (HI.out d _ a i mid HZ.out S1.out (by omega) (by omega) (by omega) (by omega)).mono ?_; rintro e w2 ⟨rfl, hS2⟩; have S2 := Lib.hid hS2; clear hS2 S1))
                  all_goals (refine bodyPost_end (results_none rfl _ _ _) rfl ?_; exact ⟨rfl, by rw [← HSym.out, HF.out]; exact S2.out⟩)
            · by_cases hd2 : a < i
              · have g1a : (a : Int) < i := by omega
                have g1b : ¬ (i : Int) < mid := by omega
                by_cases hc3 : mid < q ∧ q < b
                · skip
                  have HF : Hid ((if mid < q ∧ q < b then symM (ltOf cf) f (if a < i ∧ i < mid then symM (ltOf cf) f (sTurn d i m q) a i mid else sTurn d i m q) mid q b else (if a < i ∧ i < mid then symM (ltOf cf) f (sTurn d i m q) a i mid else sTurn d i m q)) = (symM (ltOf cf) f d mid q b)) := Lib.hid (by rw [if_pos hc3, if_neg hc2, sTurn, if_neg hc1])
                  have f2a : (mid : Int) < q := by omega
                  have f2b : (q : Int) < b := by omega
                  go_wp2_with (first | (go_at_call 124; refine (HI.out d _ mid q b HZ.out S1.out (by omega) (by omega) (by omega) (by omega)).mono ?_; rintro e w2 ⟨rfl, hS2⟩; have S2 := Lib.hid hS2; clear hS2 S1))
                  all_goals (refine bodyPost_end (results_none rfl _ _ _) rfl ?_; exact ⟨rfl, by rw [← HSym.out, HF.out]; exact S2.out⟩)
                · by_cases hd3 : mid < q
                  · have g2a : (mid : Int) < q := by omega
                    have g2b : ¬ (q : Int) < b := by omega
                    have HF : Hid ((if mid < q ∧ q < b then symM (ltOf cf) f (if a < i ∧ i < mid then symM (ltOf cf) f (sTurn d i m q) a i mid else sTurn d i m q) mid q b else (if a < i ∧ i < mid then symM (ltOf cf) f (sTurn d i m q) a i mid else sTurn d i m q)) = d) := Lib.hid (by rw [if_neg hc3, if_neg hc2, sTurn, if_neg hc1])
                    go_wp2_with fail
                    all_goals (refine bodyPost_end (results_none rfl _ _ _) rfl ?_; exact ⟨rfl, by rw [← HSym.out, HF.out]; exact S1.out⟩)
                  · have g2a : ¬ (mid : Int) < q := by omega
                    have HF : Hid ((if mid < q ∧ q < b then symM (ltOf cf) f (if a < i ∧ i < mid then symM (ltOf cf) f (sTurn d i m q) a i mid else sTurn d i m q) mid q b else (if a < i ∧ i < mid then symM (ltOf cf) f (sTurn d i m q) a i mid else sTurn d i m q)) = d) := Lib.hid (by rw [if_neg hc3, if_neg hc2, sTurn, if_neg hc1])
                    go_wp2_with fail
                    all_goals (refine bodyPost_end (results_none rfl _ _ _) rfl ?_; exact ⟨rfl, by rw [← HSym.out, HF.out]; exact S1.out⟩)
              · have g1a : ¬ (a : Int) < i := by omega
                by_cases hc3 : mid < q ∧ q < b
                · skip
                  have HF : Hid ((if mid < q ∧ q < b then symM (ltOf cf) f (if a < i ∧ i < mid then symM (ltOf cf) f (sTurn d i m q) a i mid else sTurn d i m q) mid q b else (if a < i ∧ i < mid then symM (ltOf cf) f (sTurn d i m q) a i mid else sTurn d i m q)) = (symM (ltOf cf) f d mid q b)) := Lib.hid (by rw [if_pos hc3, if_neg hc2, sTurn, if_neg hc1])
                  have f2a : (mid : Int) < q := by omega
                  have f2b : (q : Int) < b := by omega
                  go_wp2_with (first | (go_at_call 124; refine (HI.out d _ mid q b HZ.out S1.out (by omega) (by omega) (by omega) (by omega)).mono ?_; rintro e w2 ⟨rfl, hS2⟩; have S2 := Lib.hid hS2; clear hS2 S1))
                  all_goals (refine bodyPost_end (results_none rfl _ _ _) rfl ?_; exact ⟨rfl, by rw [← HSym.out, HF.out]; exact S2.out⟩)
                · by_cases hd3 : mid < q
                  · have g2a : (mid : Int) < q := by omega
                    have g2b : ¬ (q : Int) < b := by omega
                    have HF : Hid ((if mid < q ∧ q < b then symM (ltOf cf) f (if a < i ∧ i < mid then symM (ltOf cf) f (sTurn d i m q) a i mid else sTurn d i m q) mid q b else (if a < i ∧ i < mid then symM (ltOf cf) f (sTurn d i m q) a i mid else sTurn d i m q)) = d) := Lib.hid (by rw [if_neg hc3, if_neg hc2, sTurn, if_neg hc1])
                    go_wp2_with fail
                    all_goals (refine bodyPost_end (results_none rfl _ _ _) rfl ?_; exact ⟨rfl, by rw [← HSym.out, HF.out]; exact S1.out⟩)
                  · have g2a : ¬ (mid : Int) < q := by omega
                    have HF : Hid ((if mid < q ∧ q < b then symM (ltOf cf) f (if a < i ∧ i < mid then symM (ltOf cf) f (sTurn d i m q) a i mid else sTurn d i m q) mid q b else (if a < i ∧ i < mid then symM (ltOf cf) f (sTurn d i m q) a i mid else sTurn d i m q)) = d) := Lib.hid (by rw [if_neg hc3, if_neg hc2, sTurn, if_neg hc1])
                    go_wp2_with fail
                    all_goals (refine bodyPost_end (results_none rfl _ _ _) rfl ?_; exact ⟨rfl, by rw [← HSym.out, HF.out]; exact S1.out⟩)
          · have g0a : ¬ (i : Int) < m := by omega
            by_cases hc2 : a < i ∧ i < mid
            · skip
              by_cases hc3 : mid < q ∧ q < b
              · skip
                have HF : Hid ((if mid < q ∧ q < b then symM (ltOf cf) f (if a < i ∧ i < mid then symM (ltOf cf) f (sTurn d i m q) a i mid else sTurn d i m q) mid q b else (if a < i ∧ i < mid then symM (ltOf cf) f (sTurn d i m q) a i mid else sTurn d i m q)) = (symM (ltOf cf) f (symM (ltOf cf) f d a i mid) mid q b)) := Lib.hid (by rw [if_pos hc3, if_pos hc2, sTurn, if_neg hc1])
                have f1a : (a : Int) < i := by omega
                have f1b : (i : Int) < mid := by omega
                have f2a : (mid : Int) < q := by omega
                have f2b : (q : Int) < b := by omega
                go_wp2_with (first | (go_at_call 124; refine (HI.out d _ a i mid HZ.out S1.out (by omega) (by omega) (by omega) (by omega)).mono ?_; rintro e w2 ⟨rfl, hS2⟩; have S2 := Lib.hid hS2; clear hS2 S1) | (go_at_call 124; refine (HI.out (symM (ltOf cf) f d a i mid) _ mid q b (by rw [symM_size]; exact HZ.out) S2.out (by omega) (by omega) (by omega) (by omega)).mono ?_; rintro e w3 ⟨rfl, hS3⟩; have S3 := Lib.hid hS3; clear hS3 S2))
                all_goals (refine bodyPost_end (results_none rfl _ _ _) rfl ?_; exact ⟨rfl, by rw [← HSym.out, HF.out]; exact S3.out⟩)
              · by_cases hd3 : mid < q
                · have g2a : (mid : Int) < q := by omega
                  have g2b : ¬ (q : Int) < b := by omega
                  have HF : Hid ((if mid < q ∧ q < b then symM (ltOf cf) f (if a < i ∧ i < mid then symM (ltOf cf) f (sTurn d i m q) a i mid else sTurn d i m q) mid q b else (if a < i ∧ i < mid then symM (ltOf cf) f (sTurn d i m q) a i mid else sTurn d i m q)) = (symM (ltOf cf) f d a i mid)) := Lib.hid (by rw [if_neg hc3, if_pos hc2, sTurn, if_neg hc1])
                  have f1a : (a : Int) < i := by omega
                  have f1b : (i : Int) < mid := by omega
                  go_wp2_with (first | (go_at_call 124; refine (HI.out d _ a i mid HZ.out S1.out (by omega) (by omega) (by omega) (by omega)).mono ?_; rintro e w2 ⟨rfl, hS2⟩; have S2 := Lib.hid hS2; clear hS2 S1))
                  all_goals (refine bodyPost_end (results_none rfl _ _ _) rfl ?_; exact ⟨rfl, by rw [← HSym.out, HF.out]; exact S2.out⟩)
                · have g2a : ¬ (mid : Int) < q := by omega
                  have HF : Hid ((if mid < q ∧ q < b then symM (ltOf cf) f (if a < i ∧ i < mid then symM (ltOf cf) f (sTurn d i m q) a i mid else sTurn d i m q) mid q b else (if a < i ∧ i < mid then symM (ltOf cf) f (sTurn d i m q) a i mid else sTurn d i m q)) = (symM (ltOf cf) f d a i mid)) := Lib.hid (by rw [if_neg hc3, if_pos hc2, sTurn, if_neg hc1])
                  have f1a : (a : Int) < i := by omega
                  have f1b : (i : Int) < mid := by omega
                  go_wp2_with (first | (go_at_call 124; refine (HI.out d _ a i mid HZ.out S1.out (by omega) (by omega) (by omega) (by omega)).mono ?_; rintro e w2 ⟨rfl, hS2⟩; have S2 := Lib.hid hS2; clear hS2 S1))
                  all_goals (refine bodyPost_end (results_none rfl _ _ _) rfl ?_; exact ⟨rfl, by rw [← HSym.out, HF.out]; exact S2.out⟩)
            · by_cases hd2 : a < i
              · have g1a : (a : Int) < i := by omega
                have g1b : ¬ (i : Int) < mid := by omega
                by_cases hc3 : mid < q ∧ q < b
                · skip
                  have HF : Hid ((if mid < q ∧ q < b then symM (ltOf cf) f (if a < i ∧ i < mid then symM (ltOf cf) f (sTurn d i m q) a i mid else sTurn d i m q) mid q b else (if a < i ∧ i < mid then symM (ltOf cf) f (sTurn d i m q) a i mid else sTurn d i m q)) = (symM (ltOf cf) f d mid q b)) := Lib.hid (by rw [if_pos hc3, if_neg hc2, sTurn, if_neg hc1])
                  have f2a : (mid : Int) < q := by omega
                  have f2b : (q : Int) < b := by omega
                  go_wp2_with (first | (go_at_call 124; refine (HI.out d _ mid q b HZ.out S1.out (by omega) (by omega) (by omega) (by omega)).mono ?_; rintro e w2 ⟨rfl, hS2⟩; have S2 := Lib.hid hS2; clear hS2 S1))
                  all_goals (refine bodyPost_end (results_none rfl _ _ _) rfl ?_; exact ⟨rfl, by rw [← HSym.out, HF.out]; exact S2.out⟩)
                · by_cases hd3 : mid < q
                  · have g2a : (mid : Int) < q := by omega
                    have g2b : ¬ (q : Int) < b := by omega
                    have HF : Hid ((if mid < q ∧ q < b then symM (ltOf cf) f (if a < i ∧ i < mid then symM (ltOf cf) f (sTurn d i m q) a i mid else sTurn d i m q) mid q b else (if a < i ∧ i < mid then symM (ltOf cf) f (sTurn d i m q) a i mid else sTurn d i m q)) = d) := Lib.hid (by rw [if_neg hc3, if_neg hc2, sTurn, if_neg hc1])
                    go_wp2_with fail
                    all_goals (refine bodyPost_end (results_none rfl _ _ _) rfl ?_; exact ⟨rfl, by rw [← HSym.out, HF.out]; exact S1.out⟩)
                  · have g2a : ¬ (mid : Int) < q := by omega
                    have HF : Hid ((if mid < q ∧ q < b then symM (ltOf cf) f (if a < i ∧ i < mid then symM (ltOf cf) f (sTurn d i m q) a i mid else sTurn d i m q) mid q b else (if a < i ∧ i < mid then symM (ltOf cf) f (sTurn d i m q) a i mid else sTurn d i m q)) = d) := Lib.hid (by rw [if_neg hc3, if_neg hc2, sTurn, if_neg hc1])
                    go_wp2_with fail
                    all_goals (refine bodyPost_end (results_none rfl _ _ _) rfl ?_; exact ⟨rfl, by rw [← HSym.out, HF.out]; exact S1.out⟩)
              · have g1a : ¬ (a : Int) < i := by omega
                by_cases hc3 : mid < q ∧ q < b
                · skip
                  have HF : Hid ((if mid < q ∧ q < b then symM (ltOf cf) f (if a < i ∧ i < mid then symM (ltOf cf) f (sTurn d i m q) a i mid else sTurn d i m q) mid q b else (if a < i ∧ i < mid then symM (ltOf cf) f (sTurn d i m q) a i mid else sTurn d i m q)) = (symM (ltOf cf) f d mid q b)) := Lib.hid (by rw [if_pos hc3, if_neg hc2, sTurn, if_neg hc1])
                  have f2a : (mid : Int) < q := by omega
                  have f2b : (q : Int) < b := by omega
                  go_wp2_with (first | (go_at_call 124; refine (HI.out d _ mid q b HZ.out S1.out (by omega) (by omega) (by omega) (by omega)).mono ?_; rintro e w2 ⟨rfl, hS2⟩; have S2 := Lib.hid hS2; clear hS2 S1))
                  all_goals (refine bodyPost_end (results_none rfl _ _ _) rfl ?_; exact ⟨rfl, by rw [← HSym.out, HF.out]; exact S2.out⟩)
                · by_cases hd3 : mid < q
                  · have g2a : (mid : Int) < q := by omega
                    have g2b : ¬ (q : Int) < b := by omega
                    have HF : Hid ((if mid < q ∧ q < b then symM (ltOf cf) f (if a < i ∧ i < mid then symM (ltOf cf) f (sTurn d i m q) a i mid else sTurn d i m q) mid q b else (if a < i ∧ i < mid then symM (ltOf cf) f (sTurn d i m q) a i mid else sTurn d i m q)) = d) := Lib.hid (by rw [if_neg hc3, if_neg hc2, sTurn, if_neg hc1])
                    go_wp2_with fail
                    all_goals (refine bodyPost_end (results_none rfl _ _ _) rfl ?_; exact ⟨rfl, by rw [← HSym.out, HF.out]; exact S1.out⟩)
                  · have g2a : ¬ (mid : Int) < q := by omega
                    have HF : Hid ((if mid < q ∧ q < b then symM (ltOf cf) f (if a < i ∧ i < mid then symM (ltOf cf) f (sTurn d i m q) a i mid else sTurn d i m q) mid q b else (if a < i ∧ i < mid then symM (ltOf cf) f (sTurn d i m q) a i mid else sTurn d i m q)) = d) := Lib.hid (by rw [if_neg hc3, if_neg hc2, sTurn, if_neg hc1])
                    go_wp2_with fail
                    all_goals (refine bodyPost_end (results_none rfl _ _ _) rfl ?_; exact ⟨rfl, by rw [← HSym.out, HF.out]; exact S1.out⟩)
theorem symP (cf : Pk → Pk → Int) (g : Nat) (cb : Array Value) (blk cap : Nat) (d0 : Array Pk) (w0 : World) (eg : ∀ args w, (callFunc g args).run Tryz.prog w = .ok (.enter g args) w) (hcmp : CmpLays Tryz.prog g cb encP 2 cf blk 0 d0.size w0) (R : RowK encP 2 w0 blk 0 d0) (hsz : d0.size < 1000000) :
    ∀ (f : Nat) (d : Array Pk) (w : World) (a m b : Nat), d.size = d0.size → SWK encP 2 w0 blk 0 d w → a < m → m < b → b ≤ d0.size → b - a ≤ f →
    Calls Tryz.prog 124 #[.slice (some ⟨blk, 0, none⟩) d0.size cap, .int .i64 a, .int .i64 m, .int .i64 b, .func (.func g) #[] cb] w fun e w' => e = .returned (.tuple #[]) ∧ SWK encP 2 w0 blk 0 (symM (ltOf cf) f d a m b) w'
  | 0, d, w, a, m, b, h1, S, h2, h3, h4, h5 => by omega
  | f + 1, d, w, a, m, b, h1, S, h2, h3, h4, h5 => by
    by_cases c1 : m - a = 1
    · have := symP_one cf g cb blk cap a m b d0 d w0 w eg hcmp R h1.symm S (by omega) h3 (by omega) (by omega)
      rw [h1] at this
      rw [symM, if_pos c1]
      exact this
    · by_cases c2 : b - m = 1
      · have := symP_last cf g cb blk cap a m b d0 d w0 w eg hcmp R h1.symm S (by omega) (by omega) (by omega) (by omega)
        rw [h1] at this
        rw [symM, if_neg c1, if_pos c2]
        exact this
      · have := symP_gen cf g cb blk cap f a m b d0 d w0 w eg hcmp R h1.symm S (by omega) (by omega) (by omega) (by omega) h5 (by
          intro d' w' a' m' b' k1 k2 k3 k4 k5 k6
          rw [h1]
          exact symP cf g cb blk cap d0 w0 eg hcmp R hsz f d' w' a' m' b' (by omega) k2 k3 k4 (by omega) k6)
        rw [h1] at this
        exact this
end Go.Proofs.YtkjhefjjacokjaaGreat
