/-
  PoolBack: a pool that holds, of texts that are right, and numbers in their bounds, is read of its bytes as it was. No conditions.
-/
import Derived.Test.YtmojclbejmnikaaPW
import Derived.Test.YtmojclbejmnikaaYF
namespace Go.Proofs.Ytmojclbejmnikaa
open Go Go.RowKit
set_option maxRecDepth 100000

theorem few_true {l : List Raw} (h : fewM l = true) : (∀ r ∈ l, r.text.size ≤ 200) ∧ l.length ≤ 100 := by
  unfold fewM at h
  rw [Bool.and_eq_true, List.all_eq_true, decide_eq_true_iff] at h
  exact ⟨fun r hr => of_decide_eq_true (h.1 r hr), h.2⟩
theorem bytes_len {l : List Raw} (h : (∀ r ∈ l, r.text.size ≤ 200) ∧ l.length ≤ 100) : (bytesM l).length ≤ 20400 := by
  unfold bytesM
  have h1 := raws_len (l.drop 1) (fun r hr => h.1 r (List.mem_of_mem_drop hr))
  rw [List.length_append, beN_len]
  have h2 : (l.drop 1).length ≤ 100 := by rw [List.length_drop]; omega
  omega
theorem holds_some {l : List Raw} (h : holdsM l = true) : l ≠ [] := by
  rintro rfl; exact absurd h (by decide)

set_option maxHeartbeats 16000000 in
theorem back_law (A : Option Addr) (n c : Nat) (_hm : n ≤ 9223372036854775807) (w : World) (l : List Raw) (hn : l.length = n) (hin : ∀ r ∈ l, RawIn r) (hs : Seen w w.heap.size 5 A n c (rv l)) :
    Calls Try.prog 4 #[.slice A n c] w (Gives w (.bool true)) := by
  have FX := Lib.hid (fixed_any w)
  have HS := Lib.hid hs
  have FW := Lib.hid (fun W (hW : Below w.heap.size w W) => few_any l A n c w.heap.size hn _hm (fun r hr => by have := (hin r hr).1; unfold maxLen at this; omega) W (HS.out.below hW) hW.size)
  clear hs
  go_enter Try.func4, Try.ntmps4
  go_wp2_with fail
  refine FX.out.mono ?_
  rintro e w1 ⟨rfl, hb1⟩
  have B1 := Lib.hid hb1
  have F1 := Lib.hid (FW.out w1 hb1)
  clear hb1
  cases hf : fewM l
  · rw [hf] at F1
    clear hf
    go_wp2_with fail
    refine F1.out.mono ?_
    rintro e w2 ⟨rfl, hb2⟩
    have B2 := Lib.hid (B1.out.trans (hb2.mono B1.out.size))
    clear hb2
    go_wp2_with fail
    go_ret
    exact ⟨rfl, B2.out⟩
  rw [hf] at F1
  have FT := Lib.hid (few_true hf)
  have hn1 : n ≤ 100 := by rw [← hn]; exact FT.out.2
  clear hf
  go_wp2_with fail
  refine F1.out.mono ?_
  rintro e w2 ⟨rfl, hb2⟩
  have B2 := Lib.hid (B1.out.trans (hb2.mono B1.out.size))
  have H2 := Lib.hid (holds_any l A n c w.heap.size hn (by omega) w2 (HS.out.below B2.out) B2.out.size)
  clear hb2
  cases hh : holdsM l
  · rw [hh] at H2
    clear hh
    go_wp2_with fail
    refine H2.out.mono ?_
    rintro e w3 ⟨rfl, hb3⟩
    have B3 := Lib.hid (B2.out.trans (hb3.mono B2.out.size))
    clear hb3
    go_wp2_with fail
    go_ret
    exact ⟨rfl, B3.out⟩
  rw [hh] at H2
  have HH := Lib.hid (holds_some hh)
  clear hh
  go_wp2_with fail
  refine H2.out.mono ?_
  rintro e w3 ⟨rfl, hb3⟩
  have B3 := Lib.hid (B2.out.trans (hb3.mono B2.out.size))
  have BY := Lib.hid (bytes_any l A n c w.heap.size hn hn1 FT.out.1 (fun r hr => (hin r hr).2.1) w3 (HS.out.below B3.out) B3.out.size)
  have HBL := Lib.hid (bytes_len FT.out)
  obtain ⟨bs, hbs⟩ : ∃ bs, bytesM l = bs := ⟨_, rfl⟩
  have HBY : Hid (∀ x ∈ bs, x < 256) := Lib.hid (hbs ▸ bytes_byte l)
  have HBK : Hid (∀ a e, readM bs = (some l, a, e) → e = 0 ∧ a = bs.length) := Lib.hid (fun a e h => by rw [← hbs] at h ⊢; exact read_back h)
  have PB := Lib.hid (fun W (hW : Below w.heap.size w W) => pbytes_any l A n c w.heap.size hn (by omega) (fun r hr => Nat.le_trans (FT.out.1 r hr) (by decide)) W (HS.out.below hW) hW.size)
  rw [hbs] at BY HBL PB
  obtain ⟨N, hN⟩ : ∃ N, bs.length = N := ⟨_, rfl⟩
  rw [hN] at BY HBL PB HBK
  have HN := Lib.hid hN
  clear hb3 hbs hN
  go_wp2_with fail
  refine BY.out.mono ?_
  rintro e w4 ⟨v4, rfl, ho4, hb4⟩
  have B4 := Lib.hid (B3.out.trans (hb4.mono B3.out.size))
  obtain ⟨A4, c4, rfl, hc4, hs4⟩ := own_seen ho4
  obtain ⟨w5, hw5⟩ : ∃ W, w4.alloc (.cells #[.slice A4 N c4, .int .i64 0, .int .i64 0] 29) = W := ⟨_, rfl⟩
  obtain ⟨gr, hgr⟩ : ∃ q, w4.heap.size = q := ⟨_, rfl⟩
  have R5 : Hid (RCur w5 gr A4 c4 bs 0 0) := Lib.hid (by unfold RCur; rw [HN.out, ← hw5, ← hgr]; exact Whole.new w4 29 _)
  have b5 : Below w4.heap.size w4 w5 := hw5 ▸ (Below.refl _ _).alloc (Nat.le_refl _) _
  have B5 := Lib.hid (B4.out.trans (b5.mono B4.out.size))
  have hle : Hid (w.heap.size ≤ gr) := Lib.hid (hgr ▸ B4.out.size)
  have RR := Lib.hid (read_any gr gr A4 c4 bs w5 R5.out (by rw [HN.out, ← hgr]; exact hs4.below b5) (Nat.le_refl _) (by rw [HN.out]; have := HBL.out; omega) (by unfold maxLen at hc4; omega) HBY.out)
  clear hb4 ho4 hs4 b5
  go_wp2_with fail
  refine RR.out.mono ?_
  rintro e w6 ⟨v6, rfl, R6, O6, hn6, hl6⟩
  have B6 := Lib.hid (B5.out.trans (O6.below B5.out.size (fun k e => by have := hle.out; omega)))
  obtain ⟨A6, n6, c6, rfl, hln6, hm6, hs6⟩ := res_seen hn6 hl6
  have HS6 := Lib.hid (HS.out.below B6.out)
  have SM := Lib.hid (same_any ((readM bs).1.getD []) l A6 A n6 c6 n c w6.heap.size hln6 hn hm6 _hm w6 hs6 (HS6.out.more B6.out.size) (Nat.le_refl _))
  clear R6 O6 hn6 hl6 hs6
  cases hsm : sameM ((readM bs).1.getD []) l
  · rw [hsm] at SM
    clear hsm
    go_wp2_with fail
    refine SM.out.mono ?_
    rintro e w7 ⟨rfl, hb7⟩
    have B7 := Lib.hid (B6.out.trans (hb7.mono B6.out.size))
    clear hb7
    go_wp2_with fail
    go_ret
    exact ⟨rfl, B7.out⟩
  rw [hsm] at SM
  have HRD : Hid (readM bs = (some l, N, 0)) := Lib.hid (by
    have h1 := (sameM_true _ _).1 hsm
    obtain ⟨r, hr⟩ : ∃ r, readM bs = r := ⟨_, rfl⟩
    rw [hr] at h1
    obtain ⟨o, a, e⟩ := r
    cases o with
    | none => exact absurd h1.symm HH.out
    | some x =>
      simp only [Option.getD_some] at h1
      subst h1
      obtain ⟨rfl, rfl⟩ := HBK.out a e hr
      exact hr)
  clear hsm
  go_wp2_with fail
  refine SM.out.mono ?_
  rintro e w7 ⟨rfl, hb7⟩
  have B7 := Lib.hid (B6.out.trans (hb7.mono B6.out.size))
  have PB7 := Lib.hid (PB.out w7 B7.out)
  clear hb7
  go_wp2_with fail
  refine PB7.out.mono ?_
  rintro e w8 ⟨A8, c8, rfl, _, o8, hb8⟩
  have B8 := Lib.hid (B7.out.trans (hb8.mono B7.out.size))
  have NC := Lib.hid (newC_any A8 c8 w8.heap.size bs w8 (by rw [HN.out]; exact GivesB.seen o8) (Nat.le_refl _) (by rw [HN.out]; have := HBL.out; omega))
  rw [HN.out] at NC
  clear hb8 o8
  go_wp2_with fail
  refine NC.out.mono ?_
  rintro e w9 ⟨gc, sv, rfl, C9, hb9⟩
  have B9 := Lib.hid (B8.out.trans (hb9.mono B8.out.size))
  have hgc : Hid (w.heap.size ≤ gc) := Lib.hid (by have := C9.1; have := B8.out.size; omega)
  have RD := Lib.hid (pread_any w8.heap.size gc sv bs w9 C9 (by rw [HN.out]; have := HBL.out; omega) HBY.out)
  rw [HRD.out] at RD
  clear C9 hb9
  go_wp2_with fail
  refine RD.out.mono ?_
  rintro e w10 ⟨v10, rfl, C10', O10, _, hl10⟩
  have C10 := Lib.hid C10'
  have B10 := Lib.hid (B9.out.trans (O10.below B9.out.size (fun k e => by have := hgc.out; omega)))
  have o10 := hl10 l rfl
  rw [hn] at o10
  obtain ⟨A10, c10, rfl, _, hs10⟩ := own_seen o10
  have SM2 := Lib.hid (same_any l l A10 A n c10 n c w10.heap.size hn hn _hm _hm w10 hs10 ((HS.out.below B10.out).more B10.out.size) (Nat.le_refl _))
  rw [sameM_self] at SM2
  clear C10' O10 hl10 o10 hs10
  go_wp2_with fail
  refine SM2.out.mono ?_
  rintro e w11 ⟨rfl, hb11⟩
  have B11 := Lib.hid (B10.out.trans (hb11.mono B10.out.size))
  have C11 := Lib.hid (C10.out.only (Only.of_below hb11 Nob) (fun _ _ h => h))
  have EN := Lib.hid (endC_any w8.heap.size gc sv bs N 0 w11 C11.out (by rw [HN.out]; have := HBL.out; omega) (by rw [HN.out]; omega))
  rw [show endErr bs N 0 = 0 by unfold endErr; rw [HN.out, if_neg (Nat.lt_irrefl _)]] at EN
  clear hb11
  go_wp2_with fail
  refine EN.out.mono ?_
  rintro e w12 ⟨rfl, _, O12⟩
  have B12 := Lib.hid (B11.out.trans (O12.below B11.out.size (fun k e => by have := hgc.out; omega)))
  clear O12
  go_wp2_with fail
  go_ret
  exact ⟨rfl, B12.out⟩
end Go.Proofs.Ytmojclbejmnikaa
