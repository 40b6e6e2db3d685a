/-
  The walk of CrcOpens: it answers true, and changes nothing that was there. Conditions: the slices are read as told (Seen).
-/
import Derived.Test.YtdpdfnekokmgoaaL3
import Derived.Test.YtdpdfnekokmgoaaH
namespace Go.Proofs.Ytdpdfnekokmgoaa
open Go.RowKit

theorem leb_len (l : List Nat) (h : ∀ x ∈ l, x < 256) : leb (len_ l) l.length = l := by
  induction l with
  | nil => rfl
  | cons x l ih =>
    have e : len_ (x :: l) = x + 256 * len_ l := rfl
    have hx := h x (by simp)
    rw [e, List.length_cons, leb, show (x + 256 * len_ l) % 256 = x by omega, show (x + 256 * len_ l) / 256 = len_ l by omega, ih (fun y hy => h y (by simp [hy]))]

theorem opened_iff (bs : List Nat) (h256 : ∀ x ∈ bs, x < 256) (m : Nat) (hm : bs.length = m + 4) : len_ (bs.drop m) = crc (bs.take m) ↔ bs.take m ++ leb (crc (bs.take m)) 4 = bs := by
  have hl : (bs.drop m).length = 4 := by simp; omega
  have hd := leb_len (bs.drop m) (fun x hx => h256 x (List.mem_of_mem_drop hx))
  rw [hl] at hd
  constructor
  · intro h
    rw [← h, hd, List.take_append_drop]
  · intro h
    have h2 : bs.take m ++ leb (crc (bs.take m)) 4 = bs.take m ++ bs.drop m := by rw [h, List.take_append_drop]
    have h3 := List.append_cancel_left h2
    rw [← h3, len_leb]
    exact Nat.mod_eq_of_lt (crc_lt _)

theorem refSeal_len {A : Option Addr} {n c B N : Nat} {bs : List Nat} {w : World} (hl : bs.length = n) (hN : n + 4 = N) (h256 : ∀ x ∈ bs, x < 256) (hn : n ≤ 1000) (hs : Seen w B 1 A n c (bv bs)) (hB : B ≤ w.heap.size) :
    Calls Try.prog 15 #[.slice A n c] w (GivesRow w 5 1 N (bv (bs ++ leb (crc bs) 4))) := by
  subst hl
  subst hN
  exact refSeal_any A c B bs h256 hn w hs hB

theorem opens_long (A : Option Addr) (n c : Nat) (hn : 300 < n) (w : World) : Calls Try.prog 5 #[.slice A n c] w (LawPost w) := by
  have hd : decide ((300 : Int) < n) = true := by simp; omega
  go_enter Try.func5, Try.ntmps5
  go_wp2_with (go_at_call 8; refine (fixed_yes _).mono ?_; rintro e w1 ⟨rfl, hb1⟩)
  go_ret
  exact ⟨rfl, hb1⟩

set_option linter.unusedSimpArgs false in
set_option maxHeartbeats 2000000 in
theorem opens_short (A : Option Addr) (n c : Nat) (bs : List Nat) (hl : bs.length = n) (h256 : ∀ x ∈ bs, x < 256) (hn : n ≤ 300) (r : List Nat) (er : Int) (hop : opened bs = (r, er)) (w : World) (hs : Seen w w.heap.size 1 A n c (bv bs))
    (hcase : (n < 4 ∧ r = [] ∧ er = 6) ∨ (∃ m, n = m + 4 ∧ bs.take m ++ leb (crc (bs.take m)) 4 ≠ bs ∧ r = [] ∧ er = 7) ∨ (∃ m, n = m + 4 ∧ bs.take m ++ leb (crc (bs.take m)) 4 = bs ∧ r = bs.take m ∧ er = 0)) :
    Calls Try.prog 5 #[.slice A n c] w (LawPost w) := by
  have hnc := hs.2.1
  have hd : decide ((300 : Int) < n) = false := by simp; omega
  have HS := Lib.hid hs; clear hs
  have HL := Lib.hid hl; clear hl
  have H256 := Lib.hid h256; clear h256
  have HCS := Lib.hid hcase; clear hcase
  obtain ⟨N, hN⟩ : ∃ N, n + 4 = N := ⟨_, rfl⟩
  obtain ⟨s, hse⟩ : ∃ s, bs ++ leb (crc bs) 4 = s := ⟨_, rfl⟩
  have LS : Hid (s.length = N) := Lib.hid (by rw [← hse, ← hN]; simp [HL.out])
  have TS : Hid (∀ x ∈ s, x < 256) := Lib.hid (by rw [← hse]; exact seal_lt bs H256.out)
  have OPS : Hid (opened s = (bs, 0)) := Lib.hid (by rw [← hse]; exact opened_sealed bs)
  have OPB := Lib.hid hop; clear hop
  have HSE := Lib.hid hse; clear hse
  have HN := Lib.hid hN; clear hN
  have RL : Hid (r.length ≤ 300) := Lib.hid (by
    rcases HCS.out with ⟨_, h, _⟩ | ⟨_, _, _, h, _⟩ | ⟨_, _, _, h, _⟩ <;> rw [h]
    · simp
    · simp
    · have := HL.out; simp; omega)
  have OA : Hid (∀ W, Seen W w.heap.size 1 A n c (bv bs) → w.heap.size ≤ W.heap.size → Calls Try.prog 13 #[.slice A n c] W fun e w' => ∃ v : Value, e = .returned (.tuple #[v, .int .i64 er]) ∧ w'.ownsRow W.heap.size 5 1 v r.length (bv r) ∧ Below W.heap.size W w') :=
    Lib.hid (fun W h3 h4 => by
      refine (open_all A n c w.heap.size bs HL.out H256.out (by omega) W h3 h4).mono ?_
      rintro e w' ⟨v, h5, h6, h7⟩
      rw [OPB.out] at h5 h6
      exact ⟨v, h5, h6, h7⟩)
  have SA : Hid (∀ (W : World), Seen W w.heap.size 1 A n c (bv bs) → w.heap.size ≤ W.heap.size → Calls Try.prog 14 #[.slice A n c] W (GivesRow W 5 1 N (bv s))) :=
    Lib.hid (fun W h3 h4 => by
      have h5 := seal_len HL.out HN.out H256.out (by omega) h3 h4
      rw [HSE.out] at h5
      exact h5)
  have RA : Hid (∀ (W : World), Seen W w.heap.size 1 A n c (bv bs) → w.heap.size ≤ W.heap.size → Calls Try.prog 15 #[.slice A n c] W (GivesRow W 5 1 N (bv s))) :=
    Lib.hid (fun W h3 h4 => by
      have h5 := refSeal_len HL.out HN.out H256.out (by omega) h3 h4
      rw [HSE.out] at h5
      exact h5)
  have OS : Hid (∀ (A2 : Option Addr) (c2 B2 : Nat) (W : World), Seen W B2 1 A2 N c2 (bv s) → B2 ≤ W.heap.size → Calls Try.prog 13 #[.slice A2 N c2] W fun e w' => ∃ v : Value, e = .returned (.tuple #[v, .int .i64 0]) ∧ w'.ownsRow W.heap.size 5 1 v n (bv bs) ∧ Below W.heap.size W w') :=
    Lib.hid (fun A2 c2 B2 W h3 h4 => by
      refine (open_all A2 N c2 B2 s LS.out TS.out (by have := HN.out; omega) W h3 h4).mono ?_
      rintro e w' ⟨v, h5, h6, h7⟩
      rw [OPS.out] at h5 h6
      rw [← HL.out]
      exact ⟨v, h5, h6, h7⟩)
  have hnn : n ≤ 300 := hn
  clear LS TS OPS OPB
  go_enter Try.func5, Try.ntmps5
  go_wp2_with fail
  refine (fixed_yes _).mono ?_; rintro e w1 ⟨rfl, hb1⟩
  have HB1 := Lib.hid hb1; clear hb1
  go_wp2_with fail
  refine (OA.out w1 (HS.out.below HB1.out) HB1.out.size).mono ?_; rintro e w2 ⟨v2, rfl, ho2, hb2⟩
  obtain ⟨A2, c2, rfl, hc2, hs2⟩ := own_seen ho2
  have HB2 := Lib.hid (HB1.out.trans (hb2.mono HB1.out.size))
  have S2 := Lib.hid hs2; clear ho2 hs2 hb2 HB1
  obtain ⟨R, hR⟩ : ∃ R, r.length = R := ⟨_, rfl⟩
  rw [hR] at S2 RL ⊢
  have HR := Lib.hid hR; clear hR
  go_wp2_with fail
  refine (SA.out w2 (HS.out.below HB2.out) HB2.out.size).mono ?_; rintro e w3 ⟨v3, rfl, ho3, hb3⟩
  obtain ⟨A3, c3, rfl, hc3, hs3⟩ := own_seen ho3
  have HB3 := Lib.hid (HB2.out.trans (hb3.mono HB2.out.size))
  have S23 := Lib.hid ((S2.out.below hb3).more hb3.size)
  have S3 := Lib.hid hs3; clear ho3 hs3 hb3 HB2 S2
  go_wp2_with fail
  refine (OS.out A3 c3 _ w3 S3.out (Nat.le_refl _)).mono ?_; rintro e w4 ⟨v4, rfl, ho4, hb4⟩
  obtain ⟨A4, c4, rfl, hc4, hs4⟩ := own_seen ho4
  have HB4 := Lib.hid (HB3.out.trans (hb4.mono HB3.out.size))
  have S24 := Lib.hid ((S23.out.below hb4).more hb4.size)
  have S4 := Lib.hid hs4
  have Sb := Lib.hid ((HS.out.below HB4.out).more HB4.out.size)
  clear ho4 hs4 hb4 HB3 S23 S3 OA OS hd
  go_wp2_with fail
  clear hc2 hc3 hc4
  refine wp_region_held_drew (S := fun W => Below w4.heap.size w4 W) (by kernel_rfl) (Below.refl _ _).drew (fun hHeld => ?_)
  refine wpAnyH_take (i := 0) (oi := ⟨some 23, _, _, _, _, _⟩) (v := ?va0) rfl (by kernel_rfl) (by kernel_rfl) (by kernel_rfl) (fun _ _ _ h => h) (Or.inl ⟨by rfl, ?hya0⟩) (by assumption) ?resta0
  case hya0 => intro W hSW; go_simp; try rfl
  try simp only [Act.put, List.setIfInBounds_toArray, List.set_cons_zero, List.set_cons_succ]
  refine wpAnyH_take (i := 3) (oi := ⟨some 26, _, _, _, _, _⟩) (v := ?va3) rfl (by kernel_rfl) (by kernel_rfl) (by kernel_rfl) (fun _ _ _ h => h) (Or.inl ⟨by rfl, ?hya3⟩) (by assumption) ?resta3
  case hya3 => intro W hSW; go_simp; try rfl
  try simp only [Act.put, List.setIfInBounds_toArray, List.set_cons_zero, List.set_cons_succ]
  refine wpAnyH_ready (rs := [1]) (by kernel_rfl) (by simp) ?_
  refine AllReadyH.cons (o := ⟨some 24, _, _, _, _, _⟩) rfl (fun K hK => ?_) AllReadyH.nil
  go_simp
  refine (SA.out w4.drew (by exact HS.out.below HB4.out.drew) (by exact HB4.out.size)).mono ?_; rintro e w5 ⟨v5, rfl, ho5, hb5⟩; obtain ⟨A5, c5, rfl, _, hs5⟩ := own_seen ho5; have S5 := Lib.hid hs5; have B5 : Hid (Below w4.heap.size w4 w5) := Lib.hid ⟨hb5.os, hb5.tape, hb5.output, hb5.size, hb5.block⟩; clear ho5 hs5 hb5
  refine hK.out _ _ ?_ (fun hHeld2 => ?_)
  · exact B5.out
  clear hK K hHeld
  have hHeld := hHeld2; clear hHeld2
  try simp only [Act.put, List.setIfInBounds_toArray, List.set_cons_zero, List.set_cons_succ]
  refine wpAnyH_more (S' := fun W => Below w5.heap.size w5 W) (fun W h => B5.out.trans (h.mono B5.out.size)) _ _ _ _ ?_
  clear hHeld
  have hHeld : Below w5.heap.size w5 w5 := Below.refl _ _
  refine wpAnyH_take (i := 2) (oi := ⟨some 25, _, _, _, _, _⟩) (v := ?va2) rfl (by kernel_rfl) (by kernel_rfl) (by kernel_rfl) (fun _ _ _ h => h) (Or.inl ⟨by rfl, ?hya2⟩) (by assumption) ?resta2
  case hya2 => intro W hSW; have cv := conv_seen (S5.out.below hSW); go_simp; try rfl
  try simp only [Act.put, List.setIfInBounds_toArray, List.set_cons_zero, List.set_cons_succ]
  refine wpAnyH_ready (rs := [4]) (by kernel_rfl) (by simp) ?_
  refine AllReadyH.cons (o := ⟨some 27, _, _, _, _, _⟩) rfl (fun K hK => ?_) AllReadyH.nil
  go_simp
  refine (RA.out w5 (HS.out.below (HB4.out.trans (B5.out.mono HB4.out.size))) (Nat.le_trans HB4.out.size B5.out.size)).mono ?_; rintro e w6 ⟨v6, rfl, ho6, hb6⟩; obtain ⟨A6, c6, rfl, _, hs6⟩ := own_seen ho6; have S6 := Lib.hid hs6; have B56 := Lib.hid hb6; have B6 := Lib.hid (B5.out.trans (hb6.mono B5.out.size)); clear ho6 hs6 hb6
  refine hK.out _ _ ?_ (fun hHeld2 => ?_)
  · exact B56.out
  clear hK K hHeld
  have hHeld := hHeld2; clear hHeld2
  try simp only [Act.put, List.setIfInBounds_toArray, List.set_cons_zero, List.set_cons_succ]
  refine wpAnyH_more (S' := fun W => Below w6.heap.size w6 W) (fun W h => B56.out.trans (h.mono B56.out.size)) _ _ _ _ ?_
  clear hHeld
  have hHeld : Below w6.heap.size w6 w6 := Below.refl _ _
  refine wpAnyH_take (i := 5) (oi := ⟨some 28, _, _, _, _, _⟩) (v := ?va5) rfl (by kernel_rfl) (by kernel_rfl) (by kernel_rfl) (fun _ _ _ h => h) (Or.inl ⟨by rfl, ?hya5⟩) (by assumption) ?resta5
  case hya5 => intro W hSW; have cv := conv_seen (S6.out.below hSW); go_simp; try rfl
  try simp only [Act.put, List.setIfInBounds_toArray, List.set_cons_zero, List.set_cons_succ]
  refine wpAnyH_take (i := 6) (oi := ⟨some 29, _, _, _, _, _⟩) (v := ?va6) rfl (by kernel_rfl) (by kernel_rfl) (by kernel_rfl) (fun _ _ _ h => h) (Or.inl ⟨by rfl, ?hya6⟩) (by assumption) ?resta6
  case hya6 => intro W hSW; go_simp; try rfl
  try simp only [Act.put, List.setIfInBounds_toArray, List.set_cons_zero, List.set_cons_succ]
  refine wpAnyH_take (i := 7) (oi := ⟨some 30, _, _, _, _, _⟩) (v := ?va7) rfl (by kernel_rfl) (by kernel_rfl) (by kernel_rfl) (fun _ _ _ h => h) (Or.inl ⟨by rfl, ?hya7⟩) (by assumption) ?resta7
  case hya7 => intro W hSW; go_simp; try rfl
  try simp only [Act.put, List.setIfInBounds_toArray, List.set_cons_zero, List.set_cons_succ]
  refine wpAnyH_take (i := 8) (oi := ⟨some 31, _, _, _, _, _⟩) (v := ?va8) rfl (by kernel_rfl) (by kernel_rfl) (by kernel_rfl) (fun _ _ _ h => h) (Or.inl ⟨by rfl, ?hya8⟩) (by assumption) ?resta8
  case hya8 => intro W hSW; go_simp; try rfl
  try simp only [Act.put, List.setIfInBounds_toArray, List.set_cons_zero, List.set_cons_succ]
  refine wpAnyH_take (i := 9) (oi := ⟨some 32, _, _, _, _, _⟩) (v := ?va9) rfl (by kernel_rfl) (by kernel_rfl) (by kernel_rfl) (fun _ _ _ h => h) (Or.inl ⟨by rfl, ?hya9⟩) (by assumption) ?resta9
  case hya9 => intro W hSW; go_simp; try rfl
  try simp only [Act.put, List.setIfInBounds_toArray, List.set_cons_zero, List.set_cons_succ]
  refine wpAnyH_take (i := 10) (oi := ⟨some 33, _, _, _, _, _⟩) (v := ?va10) rfl (by kernel_rfl) (by kernel_rfl) (by kernel_rfl) (fun _ _ _ h => h) (Or.inl ⟨by rfl, ?hya10⟩) (by assumption) ?resta10
  case hya10 => intro W hSW; go_simp; try rfl
  try simp only [Act.put, List.setIfInBounds_toArray, List.set_cons_zero, List.set_cons_succ]
  refine wpAnyH_take (i := 11) (oi := ⟨some 34, _, _, _, _, _⟩) (v := ?va11) rfl (by kernel_rfl) (by kernel_rfl) (by kernel_rfl) (fun _ _ _ h => h) (Or.inl ⟨by rfl, ?hya11⟩) (by assumption) ?resta11
  case hya11 => intro W hSW; go_simp; try rfl
  try simp only [Act.put, List.setIfInBounds_toArray, List.set_cons_zero, List.set_cons_succ]
  refine wpAnyH_take (i := 12) (oi := ⟨some 35, _, _, _, _, _⟩) (v := ?va12) rfl (by kernel_rfl) (by kernel_rfl) (by kernel_rfl) (fun _ _ _ h => h) (Or.inl ⟨by rfl, ?hya12⟩) (by assumption) ?resta12
  case hya12 => intro W hSW; go_simp; try rfl
  try simp only [Act.put, List.setIfInBounds_toArray, List.set_cons_zero, List.set_cons_succ]
  refine wpAnyH_take (i := 13) (oi := ⟨some 36, _, _, _, _, _⟩) (v := ?va13) rfl (by kernel_rfl) (by kernel_rfl) (by kernel_rfl) (fun _ _ _ h => h) (Or.inl ⟨by rfl, ?hya13⟩) (by assumption) ?resta13
  case hya13 => intro W hSW; have cv := conv_seen (S4.out.below (B6.out.trans (hSW.mono B6.out.size))); go_simp; try rfl
  try simp only [Act.put, List.setIfInBounds_toArray, List.set_cons_zero, List.set_cons_succ]
  refine wpAnyH_take (i := 14) (oi := ⟨some 37, _, _, _, _, _⟩) (v := ?va14) rfl (by kernel_rfl) (by kernel_rfl) (by kernel_rfl) (fun _ _ _ h => h) (Or.inl ⟨by rfl, ?hya14⟩) (by assumption) ?resta14
  case hya14 => intro W hSW; go_simp; try rfl
  try simp only [Act.put, List.setIfInBounds_toArray, List.set_cons_zero, List.set_cons_succ]
  refine wpAnyH_take (i := 15) (oi := ⟨some 38, _, _, _, _, _⟩) (v := ?va15) rfl (by kernel_rfl) (by kernel_rfl) (by kernel_rfl) (fun _ _ _ h => h) (Or.inl ⟨by rfl, ?hya15⟩) (by assumption) ?resta15
  case hya15 => intro W hSW; have cv := conv_seen (Sb.out.below (B6.out.trans (hSW.mono B6.out.size))); go_simp; try rfl
  try simp only [Act.put, List.setIfInBounds_toArray, List.set_cons_zero, List.set_cons_succ]
  refine wpAnyH_take (i := 16) (oi := ⟨some 39, _, _, _, _, _⟩) (v := ?va16) rfl (by kernel_rfl) (by kernel_rfl) (by kernel_rfl) (fun _ _ _ h => h) (Or.inl ⟨by rfl, ?hya16⟩) (by assumption) ?resta16
  case hya16 => intro W hSW; go_simp; try rfl
  try simp only [Act.put, List.setIfInBounds_toArray, List.set_cons_zero, List.set_cons_succ]
  refine wpAnyH_take (i := 17) (oi := ⟨some 40, _, _, _, _, _⟩) (v := ?va17) rfl (by kernel_rfl) (by kernel_rfl) (by kernel_rfl) (fun _ _ _ h => h) (Or.inl ⟨by rfl, ?hya17⟩) (by assumption) ?resta17
  case hya17 => intro W hSW; go_simp; try rfl
  try simp only [Act.put, List.setIfInBounds_toArray, List.set_cons_zero, List.set_cons_succ]
  refine wpAnyH_done (by kernel_rfl) ?_ _
  have HB6 := Lib.hid (HB4.out.trans (B6.out.mono HB4.out.size))
  have S26 := Lib.hid ((S24.out.below B6.out).more B6.out.size)
  have Sb6 := Lib.hid ((HS.out.below HB6.out).more HB6.out.size)
  clear S24 S4 Sb S5 S6 B5 B56 B6 HB4 SA RA hHeld
  rcases HCS.out with ⟨k1, k2, k3⟩ | ⟨m, k1, k2, k3, k4⟩ | ⟨m, k1, k2, k3, k4⟩
  · have hR0 : R = 0 := by rw [← HR.out, k2]; rfl
    subst k3
    subst hR0
    clear k2
    go_wp2_with fail
    go_ret
    exact ⟨rfl, HB6.out⟩
  · have hR0 : R = 0 := by rw [← HR.out, k3]; rfl
    have e1 : ((n : Int) - 4) = m := by omega
    have wm : IntKind.i64.wrap (m : Int) = m := IntWalk.i64_in _ (by omega)
    have hm0 : (0 : Int) ≤ m := by omega
    have hmc : (m : Int) ≤ c := by omega
    have h4 : decide ((n : Int) < 4) = false := by simp; omega
    have T1 : Hid (∀ x ∈ bs.take m, x < 256) := Lib.hid (fun x hx => H256.out x (List.mem_of_mem_take hx))
    have L1 : Hid ((bs.take m).length = m) := Lib.hid (by have := HL.out; simp; omega)
    have hne : ((strOf (bs.take m ++ leb (crc (bs.take m)) 4)).toList == (strOf bs).toList) = false := by
      rw [strOf_beq (seal_lt _ T1.out) H256.out]
      simp [k2]
    have RA2 : Hid (∀ (B2 : Nat) (W : World), Seen W B2 1 A m c (bv (bs.take m)) → B2 ≤ W.heap.size → Calls Try.prog 15 #[.slice A m c] W (GivesRow W 5 1 n (bv (bs.take m ++ leb (crc (bs.take m)) 4)))) :=
      Lib.hid (fun B2 W h3 h4 => refSeal_len L1.out k1.symm T1.out (by omega) h3 h4)
    have Sm : Hid (Seen w6 w6.heap.size 1 A m c (bv (bs.take m))) := Lib.hid (by rw [← bv_take]; exact Sb6.out.head (by omega))
    generalize bs.take m ++ leb (crc (bs.take m)) 4 = q at *
    subst k4
    subst hR0
    clear k1 k2 k3 HCS hn hnn
    go_wp2_with fail
    refine wp_region_held_drew (S := fun W => Below w6.heap.size w6 W) (by kernel_rfl) (Below.refl _ _).drew (fun hHeld => ?_)
    refine wpAnyH_take (i := 0) (oi := ⟨some 51, _, _, _, _, _⟩) (v := ?vb0) rfl (by kernel_rfl) (by kernel_rfl) (by kernel_rfl) (fun _ _ _ h => h) (Or.inl ⟨by rfl, ?hyb0⟩) (by assumption) ?restb0
    case hyb0 => intro W hSW; go_simp; try rfl
    try simp only [Act.put, List.setIfInBounds_toArray, List.set_cons_zero, List.set_cons_succ]
    refine wpAnyH_take (i := 1) (oi := ⟨some 52, _, _, _, _, _⟩) (v := ?vb1) rfl (by kernel_rfl) (by kernel_rfl) (by kernel_rfl) (fun _ _ _ h => h) (Or.inl ⟨by rfl, ?hyb1⟩) (by assumption) ?restb1
    case hyb1 => intro W hSW; go_simp; try rfl
    try simp only [Act.put, List.setIfInBounds_toArray, List.set_cons_zero, List.set_cons_succ]
    refine wpAnyH_take (i := 2) (oi := ⟨some 53, _, _, _, _, _⟩) (v := ?vb2) rfl (by kernel_rfl) (by kernel_rfl) (by kernel_rfl) (fun _ _ _ h => h) (Or.inl ⟨by rfl, ?hyb2⟩) (by assumption) ?restb2
    case hyb2 => intro W hSW; go_simp; try rfl
    try simp only [Act.put, List.setIfInBounds_toArray, List.set_cons_zero, List.set_cons_succ]
    refine wpAnyH_take (i := 3) (oi := ⟨some 54, _, _, _, _, _⟩) (v := ?vb3) rfl (by kernel_rfl) (by kernel_rfl) (by kernel_rfl) (fun _ _ _ h => h) (Or.inl ⟨by rfl, ?hyb3⟩) (by assumption) ?restb3
    case hyb3 => intro W hSW; go_simp; try rfl
    try simp only [Act.put, List.setIfInBounds_toArray, List.set_cons_zero, List.set_cons_succ]
    refine wpAnyH_take (i := 4) (oi := ⟨some 55, _, _, _, _, _⟩) (v := ?vb4) rfl (by kernel_rfl) (by kernel_rfl) (by kernel_rfl) (fun _ _ _ h => h) (Or.inl ⟨by rfl, ?hyb4⟩) (by assumption) ?restb4
    case hyb4 => intro W hSW; go_simp; try rfl
    try simp only [Act.put, List.setIfInBounds_toArray, List.set_cons_zero, List.set_cons_succ]
    refine wpAnyH_take (i := 7) (oi := ⟨some 58, _, _, _, _, _⟩) (v := ?vb7) rfl (by kernel_rfl) (by kernel_rfl) (by kernel_rfl) (fun _ _ _ h => h) (Or.inl ⟨by rfl, ?hyb7⟩) (by assumption) ?restb7
    case hyb7 => intro W hSW; go_simp; try rfl
    try simp only [Act.put, List.setIfInBounds_toArray, List.set_cons_zero, List.set_cons_succ]
    refine wpAnyH_take (i := 8) (oi := ⟨some 59, _, _, _, _, _⟩) (v := ?vb8) rfl (by kernel_rfl) (by kernel_rfl) (by kernel_rfl) (fun _ _ _ h => h) (Or.inl ⟨by rfl, ?hyb8⟩) (by assumption) ?restb8
    case hyb8 => intro W hSW; have cv := conv_seen (Sb6.out.below hSW); go_simp; try rfl
    try simp only [Act.put, List.setIfInBounds_toArray, List.set_cons_zero, List.set_cons_succ]
    refine wpAnyH_ready (rs := [5]) (by kernel_rfl) (by simp) ?_
    refine AllReadyH.cons (o := ⟨some 56, _, _, _, _, _⟩) rfl (fun K hK => ?_) AllReadyH.nil
    go_simp
    refine (RA2.out w6.heap.size w6.drew (by exact Sm.out) (by exact Nat.le_refl _)).mono ?_; rintro e w7 ⟨v7, rfl, ho7, hb7⟩; obtain ⟨A7, c7, rfl, _, hs7⟩ := own_seen ho7; have S7 := Lib.hid hs7; have B7 : Hid (Below w6.heap.size w6 w7) := Lib.hid ⟨hb7.os, hb7.tape, hb7.output, hb7.size, hb7.block⟩; clear ho7 hs7 hb7
    refine hK.out _ _ ?_ (fun hHeld2 => ?_)
    · exact B7.out
    clear hK K hHeld
    have hHeld := hHeld2; clear hHeld2
    try simp only [Act.put, List.setIfInBounds_toArray, List.set_cons_zero, List.set_cons_succ]
    refine wpAnyH_more (S' := fun W => Below w7.heap.size w7 W) (fun W h => B7.out.trans (h.mono B7.out.size)) _ _ _ _ ?_
    clear hHeld
    have hHeld : Below w7.heap.size w7 w7 := Below.refl _ _
    refine wpAnyH_take (i := 6) (oi := ⟨some 57, _, _, _, _, _⟩) (v := ?vb6) rfl (by kernel_rfl) (by kernel_rfl) (by kernel_rfl) (fun _ _ _ h => h) (Or.inl ⟨by rfl, ?hyb6⟩) (by assumption) ?restb6
    case hyb6 => intro W hSW; have cv := conv_seen (S7.out.below hSW); go_simp; try rfl
    try simp only [Act.put, List.setIfInBounds_toArray, List.set_cons_zero, List.set_cons_succ]
    refine wpAnyH_take (i := 9) (oi := ⟨some 60, _, _, _, _, _⟩) (v := ?vb9) rfl (by kernel_rfl) (by kernel_rfl) (by kernel_rfl) (fun _ _ _ h => h) (Or.inl ⟨by rfl, ?hyb9⟩) (by assumption) ?restb9
    case hyb9 => intro W hSW; go_simp; try rfl
    try simp only [Act.put, List.setIfInBounds_toArray, List.set_cons_zero, List.set_cons_succ]
    refine wpAnyH_done (by kernel_rfl) ?_ _
    have HB7 := Lib.hid (HB6.out.trans (B7.out.mono HB6.out.size))
    go_wp2_with fail
    go_ret
    exact ⟨rfl, HB7.out⟩
  · have e1 : ((n : Int) - 4) = m := by omega
    have wm : IntKind.i64.wrap (m : Int) = m := IntWalk.i64_in _ (by omega)
    have hm0 : (0 : Int) ≤ m := by omega
    have hmc : (m : Int) ≤ c := by omega
    have h4 : decide ((n : Int) < 4) = false := by simp; omega
    have T1 : Hid (∀ x ∈ bs.take m, x < 256) := Lib.hid (fun x hx => H256.out x (List.mem_of_mem_take hx))
    have L1 : Hid ((bs.take m).length = m) := Lib.hid (by have := HL.out; simp; omega)
    have RA2 : Hid (∀ (B2 : Nat) (W : World), Seen W B2 1 A m c (bv (bs.take m)) → B2 ≤ W.heap.size → Calls Try.prog 15 #[.slice A m c] W (GivesRow W 5 1 n (bv bs))) :=
      Lib.hid (fun B2 W h3 h4 => by
        have h5 := refSeal_len L1.out k1.symm T1.out (by omega) h3 h4
        rw [k2] at h5
        exact h5)
    have Sm : Hid (Seen w6 w6.heap.size 1 A m c (bv (bs.take m))) := Lib.hid (by rw [← bv_take]; exact Sb6.out.head (by omega))
    have Sx : Hid (Seen w6 w6.heap.size 1 A2 R c2 (bv (bs.take m))) := Lib.hid (by rw [← k3]; exact S26.out)
    subst k4
    clear k1 k2 k3 HCS hn hnn
    go_wp2_with fail
    refine wp_region_held_drew (S := fun W => Below w6.heap.size w6 W) (by kernel_rfl) (Below.refl _ _).drew (fun hHeld => ?_)
    refine wpAnyH_take (i := 0) (oi := ⟨some 51, _, _, _, _, _⟩) (v := ?vc0) rfl (by kernel_rfl) (by kernel_rfl) (by kernel_rfl) (fun _ _ _ h => h) (Or.inl ⟨by rfl, ?hyc0⟩) (by assumption) ?restc0
    case hyc0 => intro W hSW; go_simp; try rfl
    try simp only [Act.put, List.setIfInBounds_toArray, List.set_cons_zero, List.set_cons_succ]
    refine wpAnyH_take (i := 1) (oi := ⟨some 52, _, _, _, _, _⟩) (v := ?vc1) rfl (by kernel_rfl) (by kernel_rfl) (by kernel_rfl) (fun _ _ _ h => h) (Or.inl ⟨by rfl, ?hyc1⟩) (by assumption) ?restc1
    case hyc1 => intro W hSW; go_simp; try rfl
    try simp only [Act.put, List.setIfInBounds_toArray, List.set_cons_zero, List.set_cons_succ]
    refine wpAnyH_take (i := 2) (oi := ⟨some 53, _, _, _, _, _⟩) (v := ?vc2) rfl (by kernel_rfl) (by kernel_rfl) (by kernel_rfl) (fun _ _ _ h => h) (Or.inl ⟨by rfl, ?hyc2⟩) (by assumption) ?restc2
    case hyc2 => intro W hSW; go_simp; try rfl
    try simp only [Act.put, List.setIfInBounds_toArray, List.set_cons_zero, List.set_cons_succ]
    refine wpAnyH_take (i := 3) (oi := ⟨some 54, _, _, _, _, _⟩) (v := ?vc3) rfl (by kernel_rfl) (by kernel_rfl) (by kernel_rfl) (fun _ _ _ h => h) (Or.inl ⟨by rfl, ?hyc3⟩) (by assumption) ?restc3
    case hyc3 => intro W hSW; go_simp; try rfl
    try simp only [Act.put, List.setIfInBounds_toArray, List.set_cons_zero, List.set_cons_succ]
    refine wpAnyH_take (i := 4) (oi := ⟨some 55, _, _, _, _, _⟩) (v := ?vc4) rfl (by kernel_rfl) (by kernel_rfl) (by kernel_rfl) (fun _ _ _ h => h) (Or.inl ⟨by rfl, ?hyc4⟩) (by assumption) ?restc4
    case hyc4 => intro W hSW; go_simp; try rfl
    try simp only [Act.put, List.setIfInBounds_toArray, List.set_cons_zero, List.set_cons_succ]
    refine wpAnyH_take (i := 7) (oi := ⟨some 58, _, _, _, _, _⟩) (v := ?vc7) rfl (by kernel_rfl) (by kernel_rfl) (by kernel_rfl) (fun _ _ _ h => h) (Or.inl ⟨by rfl, ?hyc7⟩) (by assumption) ?restc7
    case hyc7 => intro W hSW; go_simp; try rfl
    try simp only [Act.put, List.setIfInBounds_toArray, List.set_cons_zero, List.set_cons_succ]
    refine wpAnyH_take (i := 8) (oi := ⟨some 59, _, _, _, _, _⟩) (v := ?vc8) rfl (by kernel_rfl) (by kernel_rfl) (by kernel_rfl) (fun _ _ _ h => h) (Or.inl ⟨by rfl, ?hyc8⟩) (by assumption) ?restc8
    case hyc8 => intro W hSW; have cv := conv_seen (Sb6.out.below hSW); go_simp; try rfl
    try simp only [Act.put, List.setIfInBounds_toArray, List.set_cons_zero, List.set_cons_succ]
    refine wpAnyH_ready (rs := [5]) (by kernel_rfl) (by simp) ?_
    refine AllReadyH.cons (o := ⟨some 56, _, _, _, _, _⟩) rfl (fun K hK => ?_) AllReadyH.nil
    go_simp
    refine (RA2.out w6.heap.size w6.drew (by exact Sm.out) (by exact Nat.le_refl _)).mono ?_; rintro e w7 ⟨v7, rfl, ho7, hb7⟩; obtain ⟨A7, c7, rfl, _, hs7⟩ := own_seen ho7; have S7 := Lib.hid hs7; have B7 : Hid (Below w6.heap.size w6 w7) := Lib.hid ⟨hb7.os, hb7.tape, hb7.output, hb7.size, hb7.block⟩; clear ho7 hs7 hb7
    refine hK.out _ _ ?_ (fun hHeld2 => ?_)
    · exact B7.out
    clear hK K hHeld
    have hHeld := hHeld2; clear hHeld2
    try simp only [Act.put, List.setIfInBounds_toArray, List.set_cons_zero, List.set_cons_succ]
    refine wpAnyH_more (S' := fun W => Below w7.heap.size w7 W) (fun W h => B7.out.trans (h.mono B7.out.size)) _ _ _ _ ?_
    clear hHeld
    have hHeld : Below w7.heap.size w7 w7 := Below.refl _ _
    refine wpAnyH_take (i := 6) (oi := ⟨some 57, _, _, _, _, _⟩) (v := ?vc6) rfl (by kernel_rfl) (by kernel_rfl) (by kernel_rfl) (fun _ _ _ h => h) (Or.inl ⟨by rfl, ?hyc6⟩) (by assumption) ?restc6
    case hyc6 => intro W hSW; have cv := conv_seen (S7.out.below hSW); go_simp; try rfl
    try simp only [Act.put, List.setIfInBounds_toArray, List.set_cons_zero, List.set_cons_succ]
    refine wpAnyH_take (i := 9) (oi := ⟨some 60, _, _, _, _, _⟩) (v := ?vc9) rfl (by kernel_rfl) (by kernel_rfl) (by kernel_rfl) (fun _ _ _ h => h) (Or.inl ⟨by rfl, ?hyc9⟩) (by assumption) ?restc9
    case hyc9 => intro W hSW; go_simp; try rfl
    try simp only [Act.put, List.setIfInBounds_toArray, List.set_cons_zero, List.set_cons_succ]
    refine wpAnyH_done (by kernel_rfl) ?_ _
    have HB7 := Lib.hid (HB6.out.trans (B7.out.mono HB6.out.size))
    clear hHeld
    go_wp2_with fail
    refine wp_region_held_drew (S := fun W => Below w7.heap.size w7 W) (by kernel_rfl) (Below.refl _ _).drew (fun hHeld => ?_)
    refine wpAnyH_take (i := 0) (oi := ⟨some 68, _, _, _, _, _⟩) (v := ?vd0) rfl (by kernel_rfl) (by kernel_rfl) (by kernel_rfl) (fun _ _ _ h => h) (Or.inl ⟨by rfl, ?hyd0⟩) (by assumption) ?restd0
    case hyd0 => intro W hSW; go_simp; try rfl
    try simp only [Act.put, List.setIfInBounds_toArray, List.set_cons_zero, List.set_cons_succ]
    refine wpAnyH_take (i := 1) (oi := ⟨some 69, _, _, _, _, _⟩) (v := ?vd1) rfl (by kernel_rfl) (by kernel_rfl) (by kernel_rfl) (fun _ _ _ h => h) (Or.inl ⟨by rfl, ?hyd1⟩) (by assumption) ?restd1
    case hyd1 => intro W hSW; go_simp; try rfl
    try simp only [Act.put, List.setIfInBounds_toArray, List.set_cons_zero, List.set_cons_succ]
    refine wpAnyH_take (i := 2) (oi := ⟨some 70, _, _, _, _, _⟩) (v := ?vd2) rfl (by kernel_rfl) (by kernel_rfl) (by kernel_rfl) (fun _ _ _ h => h) (Or.inl ⟨by rfl, ?hyd2⟩) (by assumption) ?restd2
    case hyd2 => intro W hSW; go_simp; try rfl
    try simp only [Act.put, List.setIfInBounds_toArray, List.set_cons_zero, List.set_cons_succ]
    refine wpAnyH_take (i := 3) (oi := ⟨some 71, _, _, _, _, _⟩) (v := ?vd3) rfl (by kernel_rfl) (by kernel_rfl) (by kernel_rfl) (fun _ _ _ h => h) (Or.inl ⟨by rfl, ?hyd3⟩) (by assumption) ?restd3
    case hyd3 => intro W hSW; go_simp; try rfl
    try simp only [Act.put, List.setIfInBounds_toArray, List.set_cons_zero, List.set_cons_succ]
    refine wpAnyH_take (i := 4) (oi := ⟨some 72, _, _, _, _, _⟩) (v := ?vd4) rfl (by kernel_rfl) (by kernel_rfl) (by kernel_rfl) (fun _ _ _ h => h) (Or.inl ⟨by rfl, ?hyd4⟩) (by assumption) ?restd4
    case hyd4 => intro W hSW; have cv := conv_seen (Sx.out.below (B7.out.trans (hSW.mono B7.out.size))); go_simp; try rfl
    try simp only [Act.put, List.setIfInBounds_toArray, List.set_cons_zero, List.set_cons_succ]
    refine wpAnyH_take (i := 5) (oi := ⟨some 73, _, _, _, _, _⟩) (v := ?vd5) rfl (by kernel_rfl) (by kernel_rfl) (by kernel_rfl) (fun _ _ _ h => h) (Or.inl ⟨by rfl, ?hyd5⟩) (by assumption) ?restd5
    case hyd5 => intro W hSW; go_simp; try rfl
    try simp only [Act.put, List.setIfInBounds_toArray, List.set_cons_zero, List.set_cons_succ]
    refine wpAnyH_take (i := 6) (oi := ⟨some 74, _, _, _, _, _⟩) (v := ?vd6) rfl (by kernel_rfl) (by kernel_rfl) (by kernel_rfl) (fun _ _ _ h => h) (Or.inl ⟨by rfl, ?hyd6⟩) (by assumption) ?restd6
    case hyd6 => intro W hSW; go_simp; try rfl
    try simp only [Act.put, List.setIfInBounds_toArray, List.set_cons_zero, List.set_cons_succ]
    refine wpAnyH_take (i := 7) (oi := ⟨some 75, _, _, _, _, _⟩) (v := ?vd7) rfl (by kernel_rfl) (by kernel_rfl) (by kernel_rfl) (fun _ _ _ h => h) (Or.inl ⟨by rfl, ?hyd7⟩) (by assumption) ?restd7
    case hyd7 => intro W hSW; go_simp; try rfl
    try simp only [Act.put, List.setIfInBounds_toArray, List.set_cons_zero, List.set_cons_succ]
    refine wpAnyH_take (i := 8) (oi := ⟨some 76, _, _, _, _, _⟩) (v := ?vd8) rfl (by kernel_rfl) (by kernel_rfl) (by kernel_rfl) (fun _ _ _ h => h) (Or.inl ⟨by rfl, ?hyd8⟩) (by assumption) ?restd8
    case hyd8 => intro W hSW; go_simp; try rfl
    try simp only [Act.put, List.setIfInBounds_toArray, List.set_cons_zero, List.set_cons_succ]
    refine wpAnyH_take (i := 9) (oi := ⟨some 77, _, _, _, _, _⟩) (v := ?vd9) rfl (by kernel_rfl) (by kernel_rfl) (by kernel_rfl) (fun _ _ _ h => h) (Or.inl ⟨by rfl, ?hyd9⟩) (by assumption) ?restd9
    case hyd9 => intro W hSW; go_simp; try rfl
    try simp only [Act.put, List.setIfInBounds_toArray, List.set_cons_zero, List.set_cons_succ]
    refine wpAnyH_take (i := 10) (oi := ⟨some 78, _, _, _, _, _⟩) (v := ?vd10) rfl (by kernel_rfl) (by kernel_rfl) (by kernel_rfl) (fun _ _ _ h => h) (Or.inl ⟨by rfl, ?hyd10⟩) (by assumption) ?restd10
    case hyd10 => intro W hSW; have cv := conv_seen (Sm.out.below (B7.out.trans (hSW.mono B7.out.size))); go_simp; try rfl
    try simp only [Act.put, List.setIfInBounds_toArray, List.set_cons_zero, List.set_cons_succ]
    refine wpAnyH_take (i := 11) (oi := ⟨some 79, _, _, _, _, _⟩) (v := ?vd11) rfl (by kernel_rfl) (by kernel_rfl) (by kernel_rfl) (fun _ _ _ h => h) (Or.inl ⟨by rfl, ?hyd11⟩) (by assumption) ?restd11
    case hyd11 => intro W hSW; go_simp; try rfl
    try simp only [Act.put, List.setIfInBounds_toArray, List.set_cons_zero, List.set_cons_succ]
    refine wpAnyH_take (i := 12) (oi := ⟨some 80, _, _, _, _, _⟩) (v := ?vd12) rfl (by kernel_rfl) (by kernel_rfl) (by kernel_rfl) (fun _ _ _ h => h) (Or.inl ⟨by rfl, ?hyd12⟩) (by assumption) ?restd12
    case hyd12 => intro W hSW; go_simp; try rfl
    try simp only [Act.put, List.setIfInBounds_toArray, List.set_cons_zero, List.set_cons_succ]
    refine wpAnyH_take (i := 13) (oi := ⟨some 2, _, _, _, _, _⟩) (v := ?vd13) rfl (by kernel_rfl) (by kernel_rfl) (by kernel_rfl) (fun _ _ _ h => h) (Or.inl ⟨by rfl, ?hyd13⟩) (by assumption) ?restd13
    case hyd13 => intro W hSW; go_simp; try rfl
    try simp only [Act.put, List.setIfInBounds_toArray, List.set_cons_zero, List.set_cons_succ]
    refine wpAnyH_done (by kernel_rfl) ?_ _
    go_wp2_with fail
    go_ret
    exact ⟨rfl, HB7.out.drew⟩

theorem opens_law (A : Option Addr) (len c : Nat) (_ : len ≤ 9223372036854775807) (w : World) (h : ∃ bs : List Nat, bs.length = len ∧ (∀ y ∈ bs, y < 256) ∧ Seen w w.heap.size 1 A len c (bv bs)) :
    Calls Try.prog 5 #[.slice A len c] w (LawPost w) := by
  by_cases hl : len ≤ 300
  · obtain ⟨bs, h1, h2, h3⟩ := h
    by_cases h4 : len < 4
    · exact opens_short A len c bs h1 h2 hl [] 6 (by unfold opened; rw [if_pos (by omega)]) w h3 (.inl ⟨h4, rfl, rfl⟩)
    · obtain ⟨m, hm⟩ : ∃ m, len = m + 4 := ⟨len - 4, by omega⟩
      have hbm : bs.length = m + 4 := by omega
      have hiff := opened_iff bs h2 m hbm
      by_cases hq : len_ (bs.drop m) = crc (bs.take m)
      · exact opens_short A len c bs h1 h2 hl _ 0 (opened_yes bs m hbm hq) w h3 (.inr (.inr ⟨m, hm, hiff.1 hq, rfl, rfl⟩))
      · exact opens_short A len c bs h1 h2 hl [] 7 (opened_no bs m hbm hq) w h3 (.inr (.inl ⟨m, hm, fun e => hq (hiff.2 e), rfl, rfl⟩))
  · exact opens_long A len c (by omega) w
end Go.Proofs.Ytdpdfnekokmgoaa
