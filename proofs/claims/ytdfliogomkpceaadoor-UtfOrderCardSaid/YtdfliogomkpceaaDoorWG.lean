/-
  The program's Encode. Conditions: a text of at most a hundred thousand bytes, and unicode/utf8's tables as they are laid.
-/
import Derived.Test.YtdfliogomkpceaaDoorWF
namespace Go.Proofs.YtdfliogomkpceaaDoor
open Go Go.RowKit
set_option maxRecDepth 100000

set_option maxHeartbeats 8000000 in
theorem pEncode_any (l : List UInt8) (n : Nat) (hn : l.length = n) (hs : n ≤ 100000) (w : World) (hT : Lib.Utf8Tabs 0 1 w) : Calls Tryd.prog 10 #[.string (tx l)] w (GivesText w (encodeM l)) := by
  have hts : (tx l).size = n := by rw [tx_size, hn]
  have CV := Lib.hid (Tryd.utf8_ValidString (tx l) w (by rw [hts]; omega) hT)
  rw [tx_list, valid_sg l.length [] l (Nat.le_refl _)] at CV
  have hA : ∀ u, sgM [] l = some u → (∀ x ∈ u, x < 1114112) ∧ u.length ≤ 100000 := fun u h => by
    obtain ⟨h1, h2⟩ := sg_facts l.length [] l (Nat.le_refl _) (fun x hx => by cases hx) h
    exact ⟨h1, by simp at h2; omega⟩
  obtain ⟨ra, hra⟩ : ∃ r, sgM [] l = r := ⟨_, rfl⟩
  obtain ⟨R, hR⟩ : ∃ r, encodeM l = r := ⟨_, rfl⟩
  rw [hR]
  rw [hra] at CV hA
  unfold encodeM at hR
  rw [hra] at hR
  have HA := Lib.hid hA
  have HRA := Lib.hid hra
  clear hA hra hT
  go_enter Tryd.func10, Tryd.ntmps10
  go_wp2_with fail
  refine CV.out.mono ?_
  rintro e w1 ⟨rfl, b1⟩
  cases ra with
  | none =>
    subst hR
    go_wp2_with fail
    go_ret2
    exact ⟨rfl, b1⟩
  | some u =>
    have hR2 : R = some (uBs (uOfs u)) := hR.symm
    have HR := Lib.hid hR2
    have B1 := Lib.hid b1
    clear hR hR2 b1
    go_wp2_with fail
    go_loopg [4] n (fun j v4 wr => ∃ (k : Nat) (p : List Nat), k ≤ n ∧ j = n - k ∧ wr.heap[w1.heap.size]? = some (.stringIter (tx l) k) ∧ Below w1.heap.size w1 wr ∧ wr.ownsRow (w1.heap.size + 1) 27 1 v4 (uOfs p).length (uv (uOfs p)) ∧ (uOfs p).length ≤ 2 * k ∧ sgM [] l = sgM p (l.drop k))
    case atStart => exact ⟨0, [], by omega, rfl, World.iter_heap w1 (tx l) 0, (Below.refl _ _).alloc (Nat.le_refl _) _, World.ownsRow_nil _ _ _ _, Nat.le_refl _, rfl⟩
    case round =>
      obtain ⟨k, p, hk, rfl, hit, hbl, ho, hpl, hd⟩ := hrel
      obtain ⟨U, hU⟩ : ∃ U, uOfs p = U := ⟨_, rfl⟩
      obtain ⟨P, hP⟩ : ∃ P, U.length = P := ⟨_, rfl⟩
      rw [hU] at ho hpl
      rw [hP] at ho hpl
      obtain ⟨A4, c4, rfl, _⟩ := own_form ho
      have HBL := Lib.hid hbl
      have HO := Lib.hid ho
      have HD := Lib.hid hd
      have HU := Lib.hid hU
      have HP := Lib.hid hP
      clear hbl ho hd hP hU
      by_cases hlt : k < n
      · have hkl : k < l.length := by omega
        have hnx := fun ty => Lib.run_next_any_at (P := Tryd.prog) wr w1.heap.size (tx l) k ty hit (by rw [hts]; exact hlt)
        obtain ⟨d, hdd⟩ : ∃ d, Utf8.decode (tx l) k = d := ⟨_, rfl⟩
        rw [hdd] at hnx
        rw [dec_drop] at hdd
        have hdp := dec_pos l k hkl
        rw [hdd] at hdp
        obtain ⟨c, m⟩ := d
        simp only at hnx hdp
        have hcb : c < 1114112 := dec_bound hdd
        have hst := sgM_step (p := p) hkl hdd
        have hnb : ¬ badS (l.drop k) := fun h => by
          rw [if_pos h, ← HD.out, HRA.out] at hst
          cases hst
        rw [if_neg hnb] at hst
        have hlt0 : w1.heap.size < wr.heap.size := (Array.getElem?_eq_some_iff.1 hit).1
        have HIT := Lib.hid (Lib.iterAt_heap wr w1.heap.size (tx l) k (k + m) hit)
        have HB2 := Lib.hid (Lib.below_iterAt HBL.out (Nat.le_refl _) (tx l) (k + m))
        have HO2 := Lib.hid (own_only HO.out (iter_only wr w1.heap.size (tx l) (k + m)) (fun j hj hj2 => by have := (own_whole HO.out hj).1; omega))
        have HNX := Lib.hid (HD.out.trans hst)
        have HDP := Lib.hid hdp
        clear hst hdp hdd hit hnb
        generalize wr.iterAt w1.heap.size (tx l) (k + m) = W1 at hnx HIT HB2 HO2
        have hlt1 : w1.heap.size < W1.heap.size := (Array.getElem?_eq_some_iff.1 HIT.out).1
        have CA := Lib.hid (appendSign_any c hcb (w1.heap.size + 1) _ P _ W1 HO2.out (by omega) (by omega))
        have HX := Lib.hid (uOfs_snoc p c)
        have HL := Lib.hid (uOf_le c)
        clear hlt0
        go_wp2_with fail
        refine CA.out.mono ?_
        rintro e w2 ⟨v2, rfl, ho2, hb2⟩
        have hdp := HDP.out
        have HB3 := Lib.hid hb2
        have HO3 := Lib.hid ho2
        clear ho2 hb2
        go_wp2_with fail
        go_roundg (n - (k + m))
        case measure => omega
        case rel =>
          refine ⟨k + m, p ++ [c], by omega, rfl, (HB3.out.block w1.heap.size (by omega)).trans HIT.out, HB2.out.trans (HB3.out.mono (by omega)), ?_, ?_, HNX.out⟩
          · rw [HX.out, HU.out, uv_app, List.length_append, HP.out]; exact HO3.out
          · rw [HX.out, HU.out, List.length_append, HP.out]; have := HL.out; omega
      · obtain rfl : k = n := by omega
        have hr : sgM [] l = some p := by rw [HD.out, List.drop_eq_nil_of_le (by omega), sgM]
        rw [HRA.out] at hr
        injection hr with hr
        subst hr
        have hnx := fun ty => Lib.run_next_end_at (P := Tryd.prog) wr w1.heap.size (tx l) k ty hit (by omega)
        have hlt' : ∀ x ∈ U, x < 65536 := by rw [← HU.out]; exact uOfs_lt (HA.out u rfl).1
        have hsz := HBL.out.size
        have CB := Lib.hid (pBytes_any U hlt' A4 P c4 wr.heap.size HP.out (by omega) wr (Seen.of_own HO.out) (Nat.le_refl _))
        clear hit
        go_wp2_with fail
        refine CB.out.mono ?_
        rintro e w2 ⟨rfl, hb2⟩
        go_wp2_with fail
        go_ret2
        rw [HR.out, HU.out]
        exact ⟨rfl, B1.out.trans ((HBL.out.trans (hb2.mono hsz)).mono B1.out.size)⟩
end Go.Proofs.YtdfliogomkpceaaDoor
