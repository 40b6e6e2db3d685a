/-
  The walk of CrcBursts: it answers true, and changes nothing that was there. Conditions: the slices are read as told (Seen).
-/
import Derived.Test.YtdpdfnekokmgoaaL1
import Derived.Deep.RegionHeld3
namespace Go.Proofs.Ytdpdfnekokmgoaa
open Go.RowKit

/-- Sealed bytes with a burst aren't opened, unless nothing is turned over. -/
theorem opened_burst (bs : List Nat) (h256 : ∀ x ∈ bs, x < 256) (at' : Int) (pat : Nat) (hne : burst (bs ++ leb (crc bs) 4) at' pat ≠ bs ++ leb (crc bs) 4) : opened (burst (bs ++ leb (crc bs) 4) at' pat) = ([], 7) := by
  have hs := seal_lt bs h256
  have hK := (sealed_iff bs (leb (crc bs) 4) h256 (leb_lt _ _) (by simp)).1 (by rw [len_leb]; exact Nat.mod_eq_of_lt (crc_lt bs))
  generalize hse : bs ++ leb (crc bs) 4 = s at *
  have hlen : s.length = bs.length + 4 := by rw [← hse]; simp
  have hy := burst_length s at' pat
  have hyl := burst_lt s at' pat
  have hbs := burst_seen s at' pat hs hne 4294967295
  generalize burst s at' pat = y at *
  refine opened_no y bs.length (by omega) ?_
  intro hq
  apply hbs
  have h1 := (sealed_iff (y.take bs.length) (y.drop bs.length) (fun x hx => hyl x (List.mem_of_mem_take hx)) (fun x hx => hyl x (List.mem_of_mem_drop hx)) (by simp; omega)).1 hq
  rw [List.take_append_drop] at h1
  rw [h1, hK]

theorem seal_len {A : Option Addr} {n c B N : Nat} {bs : List Nat} {w : World} (hl : bs.length = n) (hN : n + 4 = N) (h256 : ∀ x ∈ bs, x < 256) (hn : n ≤ 1000) (hs : Seen w B 1 A n c (bv bs)) (hB : B ≤ w.heap.size) :
    Calls Try.prog 14 #[.slice A n c] w (GivesRow w 5 1 N (bv (bs ++ leb (crc bs) 4))) := by
  subst hl
  subst hN
  exact seal_row A c B bs h256 hn w hs hB

theorem bursts_long (A : Option Addr) (n c : Nat) (hn : 400 < n) (a p : Int) (w : World) : Calls Try.prog 6 #[.slice A n c, .int .i64 a, .int .u32 p] w (LawPost w) := by
  have hd : decide ((400 : Int) < n) = true := by simp; omega
  go_enter Try.func6, Try.ntmps6
  go_wp2_with (go_at_call 8; refine (fixed_yes _).mono ?_; rintro e w1 ⟨rfl, hb1⟩)
  go_ret
  exact ⟨rfl, hb1⟩

set_option linter.unusedSimpArgs false in
set_option maxHeartbeats 2000000 in
theorem bursts_short (A : Option Addr) (n c : Nat) (bs : List Nat) (hl : bs.length = n) (h256 : ∀ x ∈ bs, x < 256) (hn : n ≤ 400) (at' : Int) (h0 : -9223372036854775808 ≤ at') (h1 : at' ≤ 9223372036854775807) (pat : Nat) (hp : pat < 4294967296)
    (er : Int) (hit : Bool) (hcase : (burst (bs ++ leb (crc bs) 4) at' pat = bs ++ leb (crc bs) 4 ∧ er = 0 ∧ hit = false) ∨ (burst (bs ++ leb (crc bs) 4) at' pat ≠ bs ++ leb (crc bs) 4 ∧ er = 7 ∧ hit = true))
    (w : World) (hs : Seen w w.heap.size 1 A n c (bv bs)) : Calls Try.prog 6 #[.slice A n c, .int .i64 at', .int .u32 pat] w (LawPost w) := by
  have hd : decide ((400 : Int) < n) = false := by simp; omega
  have HS := Lib.hid hs; clear hs
  have HL := Lib.hid hl; clear hl
  have H256 := Lib.hid h256; clear h256
  obtain ⟨N, hN⟩ : ∃ N, n + 4 = N := ⟨_, rfl⟩
  obtain ⟨s, hse⟩ : ∃ s, bs ++ leb (crc bs) 4 = s := ⟨_, rfl⟩
  have LS : Hid (s.length = N) := Lib.hid (by rw [← hse, ← hN]; simp [HL.out])
  have TS : Hid (∀ x ∈ s, x < 256) := Lib.hid (by rw [← hse]; exact seal_lt bs H256.out)
  have OP : Hid (∃ r, opened (burst s at' pat) = (r, er) ∧ decide (burst s at' pat ≠ s) = hit) := Lib.hid (by
    rcases hcase with ⟨h2, h3, h4⟩ | ⟨h2, h3, h4⟩
    · rw [hse] at h2
      rw [h2, ← hse, opened_sealed, h3, h4]
      exact ⟨bs, rfl, by simp⟩
    · refine ⟨[], ?_, ?_⟩
      · have := opened_burst bs H256.out at' pat h2
        rw [hse] at this
        rw [this, h3]
      · rw [h4]
        rw [hse] at h2
        simp [h2])
  have e7 : ((er == 7) == hit) = true := by
    rcases hcase with ⟨_, h3, h4⟩ | ⟨_, h3, h4⟩ <;> rw [h3, h4] <;> rfl
  have e0 : ((er == 0) == !hit) = true := by
    rcases hcase with ⟨_, h3, h4⟩ | ⟨_, h3, h4⟩ <;> rw [h3, h4] <;> rfl
  clear hcase
  have HSE := Lib.hid hse; clear hse
  have hN1 : N ≤ 404 := by omega
  have HN := Lib.hid hN; clear hN
  have YL := Lib.hid (burst_length s at' pat)
  have YT := Lib.hid (burst_lt s at' pat)
  have BA : Hid (∀ (A2 : Option Addr) (c2 B2 : Nat) (W : World), Seen W B2 1 A2 N c2 (bv s) → B2 ≤ W.heap.size → Calls Try.prog 16 #[.slice A2 N c2, .int .i64 at', .int .u32 pat] W (GivesRow W 5 1 N (bv (burst s at' pat)))) :=
    Lib.hid (fun A2 c2 B2 W h3 h4 => burst_any A2 c2 B2 s N LS.out TS.out (by omega) at' h0 h1 pat hp W h3 h4)
  have RA : Hid (∀ (A2 : Option Addr) (c2 B2 : Nat) (W : World), Seen W B2 1 A2 N c2 (bv s) → B2 ≤ W.heap.size → Calls Try.prog 18 #[.slice A2 N c2, .int .i64 at', .int .u32 pat] W (GivesRow W 5 1 N (bv (burst s at' pat)))) :=
    Lib.hid (fun A2 c2 B2 W h3 h4 => refBurst_any A2 c2 B2 s N LS.out TS.out (by omega) at' h0 h1 pat hp W h3 h4)
  have HA : Hid (∀ (A2 : Option Addr) (c2 B2 : Nat) (W : World), Seen W B2 1 A2 N c2 (bv s) → B2 ≤ W.heap.size → Calls Try.prog 17 #[.slice A2 N c2, .int .i64 at', .int .u32 pat] W (GivesBool W hit)) :=
    Lib.hid (fun A2 c2 B2 W h3 h4 => by
      have h5 := hits_any A2 c2 B2 s N LS.out TS.out (by omega) at' h0 h1 pat hp W h3 h4
      obtain ⟨_, _, h6⟩ := OP.out
      rw [h6] at h5
      exact h5)
  have OA : Hid (∀ (A2 : Option Addr) (c2 B2 : Nat) (W : World), Seen W B2 1 A2 N c2 (bv (burst s at' pat)) → B2 ≤ W.heap.size → Calls Try.prog 13 #[.slice A2 N c2] W fun e w' => ∃ v : Value, e = .returned (.tuple #[v, .int .i64 er]) ∧ Below W.heap.size W w') :=
    Lib.hid (fun A2 c2 B2 W h3 h4 => by
      refine (open_all A2 N c2 B2 _ (by rw [YL.out, LS.out]) YT.out (by omega) W h3 h4).mono ?_
      rintro e w' ⟨v, h5, _, h7⟩
      obtain ⟨r, h8, _⟩ := OP.out
      rw [h8] at h5
      exact ⟨v, h5, h7⟩)
  have SA : Hid (∀ (W : World), Seen W w.heap.size 1 A n c (bv bs) → w.heap.size ≤ W.heap.size → Calls Try.prog 14 #[.slice A n c] W (GivesRow W 5 1 N (bv s))) :=
    Lib.hid (fun W h3 h4 => by
      have h5 := seal_len HL.out HN.out H256.out (by omega) h3 h4
      rw [HSE.out] at h5
      exact h5)
  clear OP YL YT LS TS hp h0 h1
  generalize burst s at' pat = y at *
  go_enter Try.func6, Try.ntmps6
  go_wp2_with fail
  refine (fixed_yes _).mono ?_; rintro e w1 ⟨rfl, hb1⟩
  have HB1 := Lib.hid hb1; clear hb1
  go_wp2_with fail
  refine (SA.out w1 (HS.out.below HB1.out) HB1.out.size).mono ?_; rintro e w2 ⟨v2, rfl, ho2, hb2⟩
  obtain ⟨A2, c2, rfl, hc2, hs2⟩ := own_seen ho2
  have HB2 := Lib.hid (HB1.out.trans (hb2.mono HB1.out.size))
  have S2 := Lib.hid hs2; clear ho2 hs2 hb2 HB1
  go_wp2_with fail
  refine (BA.out A2 c2 _ w2 S2.out (Nat.le_refl _)).mono ?_; rintro e w3 ⟨v3, rfl, ho3, hb3⟩
  obtain ⟨A3, c3, rfl, hc3, hs3⟩ := own_seen ho3
  have HB3 := Lib.hid (HB2.out.trans (hb3.mono HB2.out.size))
  have S23 := Lib.hid ((S2.out.below hb3).more hb3.size)
  have S3 := Lib.hid hs3; clear ho3 hs3 hb3 HB2 S2
  go_wp2_with fail
  refine (OA.out A3 c3 _ w3 S3.out (Nat.le_refl _)).mono ?_; rintro e w4 ⟨v4, rfl, hb4⟩
  have HB4 := Lib.hid (HB3.out.trans (hb4.mono HB3.out.size))
  have S24 := Lib.hid ((S23.out.below hb4).more hb4.size)
  have S34 := Lib.hid ((S3.out.below hb4).more hb4.size)
  clear hb4 HB3 S23 S3
  go_wp2_with fail
  refine (HA.out A2 c2 _ w4 S24.out (Nat.le_refl _)).mono ?_; rintro e w5 ⟨rfl, hb5⟩
  have HB5 := Lib.hid (HB4.out.trans (hb5.mono HB4.out.size))
  have S25 := Lib.hid ((S24.out.below hb5).more hb5.size)
  have S35 := Lib.hid ((S34.out.below hb5).more hb5.size)
  clear hb5 HB4 S24 S34 BA HA OA hd
  go_wp2_with fail
  clear hN1 hn hc2 hc3
  refine wp_region_held_drew (S := fun W => Below w5.heap.size w5 W) (by kernel_rfl) (Below.refl _ _).drew (fun hHeld => ?_)
  refine wpAnyH_take (i := 0) (oi := ⟨some 32, _, _, _, _, _⟩) (v := ?v0) rfl (by kernel_rfl) (by kernel_rfl) (by kernel_rfl) (fun _ _ _ h => h) (Or.inl ⟨by rfl, ?hy0⟩) (by assumption) ?rest0
  case hy0 => intro W hSW; go_simp; try rfl
  try simp only [Act.put, List.setIfInBounds_toArray, List.set_cons_zero, List.set_cons_succ]
  refine wpAnyH_take (i := 1) (oi := ⟨some 33, _, _, _, _, _⟩) (v := ?v1) rfl (by kernel_rfl) (by kernel_rfl) (by kernel_rfl) (fun _ _ _ h => h) (Or.inl ⟨by rfl, ?hy1⟩) (by assumption) ?rest1
  case hy1 => intro W hSW; have cv := conv_seen (S35.out.below hSW); go_simp; try rfl
  try simp only [Act.put, List.setIfInBounds_toArray, List.set_cons_zero, List.set_cons_succ]
  refine wpAnyH_take (i := 2) (oi := ⟨some 34, _, _, _, _, _⟩) (v := ?v2) rfl (by kernel_rfl) (by kernel_rfl) (by kernel_rfl) (fun _ _ _ h => h) (Or.inl ⟨by rfl, ?hy2⟩) (by assumption) ?rest2
  case hy2 => intro W hSW; go_simp; try rfl
  try simp only [Act.put, List.setIfInBounds_toArray, List.set_cons_zero, List.set_cons_succ]
  refine wpAnyH_take (i := 3) (oi := ⟨some 35, _, _, _, _, _⟩) (v := ?v3) rfl (by kernel_rfl) (by kernel_rfl) (by kernel_rfl) (fun _ _ _ h => h) (Or.inl ⟨by rfl, ?hy3⟩) (by assumption) ?rest3
  case hy3 => intro W hSW; go_simp; try rfl
  try simp only [Act.put, List.setIfInBounds_toArray, List.set_cons_zero, List.set_cons_succ]
  refine wpAnyH_take (i := 4) (oi := ⟨some 36, _, _, _, _, _⟩) (v := ?v4) rfl (by kernel_rfl) (by kernel_rfl) (by kernel_rfl) (fun _ _ _ h => h) (Or.inl ⟨by rfl, ?hy4⟩) (by assumption) ?rest4
  case hy4 => intro W hSW; go_simp; try rfl
  try simp only [Act.put, List.setIfInBounds_toArray, List.set_cons_zero, List.set_cons_succ]
  refine wpAnyH_ready (rs := [5]) (by kernel_rfl) (by simp) ?_
  refine AllReadyH.cons (o := ⟨some 37, _, _, _, _, _⟩) rfl (fun K hK => ?_) AllReadyH.nil
  go_simp
  refine (RA.out A2 c2 w5.heap.size w5.drew (by exact S25.out) (by exact Nat.le_refl _)).mono ?_; rintro e w6 ⟨v6, rfl, ho6, hb6⟩; obtain ⟨A6, c6, rfl, _, hs6⟩ := own_seen ho6; have cv66 := conv_seen hs6; have B6 : Hid (Below w5.heap.size w5 w6) := Lib.hid ⟨hb6.os, hb6.tape, hb6.output, hb6.size, hb6.block⟩; clear ho6 hs6 hb6
  refine hK.out _ _ ?_ (fun hHeld2 => ?_)
  · exact B6.out
  clear hK K hHeld
  have hHeld := hHeld2; clear hHeld2
  try simp only [Act.put, List.setIfInBounds_toArray, List.set_cons_zero, List.set_cons_succ]
  refine wpAnyH_ready (rs := [6]) (by kernel_rfl) (by simp) ?_
  refine AllReadyH.cons (o := ⟨some 38, _, _, _, _, _⟩) rfl (fun K hK => ?_) AllReadyH.nil
  go_simp
  refine hK.out _ _ ?_ (fun hHeld2 => ?_)
  · exact B6.out
  clear hK K hHeld
  have hHeld := hHeld2; clear hHeld2
  try simp only [Act.put, List.setIfInBounds_toArray, List.set_cons_zero, List.set_cons_succ]
  refine wpAnyH_take (i := 7) (oi := ⟨some 39, _, _, _, _, _⟩) (v := ?v7) rfl (by kernel_rfl) (by kernel_rfl) (by kernel_rfl) (fun _ _ _ h => h) (Or.inl ⟨by rfl, ?hy7⟩) (by assumption) ?rest7
  case hy7 => intro W hSW; go_simp; try rfl
  try simp only [Act.put, List.setIfInBounds_toArray, List.set_cons_zero, List.set_cons_succ]
  refine wpAnyH_take (i := 8) (oi := ⟨some 40, _, _, _, _, _⟩) (v := ?v8) rfl (by kernel_rfl) (by kernel_rfl) (by kernel_rfl) (fun _ _ _ h => h) (Or.inl ⟨by rfl, ?hy8⟩) (by assumption) ?rest8
  case hy8 => intro W hSW; go_simp; try rfl
  try simp only [Act.put, List.setIfInBounds_toArray, List.set_cons_zero, List.set_cons_succ]
  refine wpAnyH_take (i := 9) (oi := ⟨some 41, _, _, _, _, _⟩) (v := ?v9) rfl (by kernel_rfl) (by kernel_rfl) (by kernel_rfl) (fun _ _ _ h => h) (Or.inl ⟨by rfl, ?hy9⟩) (by assumption) ?rest9
  case hy9 => intro W hSW; go_simp; try rfl
  try simp only [Act.put, List.setIfInBounds_toArray, List.set_cons_zero, List.set_cons_succ]
  refine wpAnyH_take (i := 10) (oi := ⟨some 42, _, _, _, _, _⟩) (v := ?v10) rfl (by kernel_rfl) (by kernel_rfl) (by kernel_rfl) (fun _ _ _ h => h) (Or.inl ⟨by rfl, ?hy10⟩) (by assumption) ?rest10
  case hy10 => intro W hSW; go_simp; try rfl
  try simp only [Act.put, List.setIfInBounds_toArray, List.set_cons_zero, List.set_cons_succ]
  refine wpAnyH_take (i := 11) (oi := ⟨some 43, _, _, _, _, _⟩) (v := ?v11) rfl (by kernel_rfl) (by kernel_rfl) (by kernel_rfl) (fun _ _ _ h => h) (Or.inl ⟨by rfl, ?hy11⟩) (by assumption) ?rest11
  case hy11 => intro W hSW; go_simp; try rfl
  try simp only [Act.put, List.setIfInBounds_toArray, List.set_cons_zero, List.set_cons_succ]
  refine wpAnyH_take (i := 12) (oi := ⟨some 44, _, _, _, _, _⟩) (v := ?v12) rfl (by kernel_rfl) (by kernel_rfl) (by kernel_rfl) (fun _ _ _ h => h) (Or.inl ⟨by rfl, ?hy12⟩) (by assumption) ?rest12
  case hy12 => intro W hSW; go_simp; try rfl
  try simp only [Act.put, List.setIfInBounds_toArray, List.set_cons_zero, List.set_cons_succ]
  refine wpAnyH_take (i := 13) (oi := ⟨some 45, _, _, _, _, _⟩) (v := ?v13) rfl (by kernel_rfl) (by kernel_rfl) (by kernel_rfl) (fun _ _ _ h => h) (Or.inl ⟨by rfl, ?hy13⟩) (by assumption) ?rest13
  case hy13 => intro W hSW; go_simp; try rfl
  try simp only [Act.put, List.setIfInBounds_toArray, List.set_cons_zero, List.set_cons_succ]
  refine wpAnyH_take (i := 14) (oi := ⟨some 46, _, _, _, _, _⟩) (v := ?v14) rfl (by kernel_rfl) (by kernel_rfl) (by kernel_rfl) (fun _ _ _ h => h) (Or.inl ⟨by rfl, ?hy14⟩) (by assumption) ?rest14
  case hy14 => intro W hSW; go_simp; try rfl
  try simp only [Act.put, List.setIfInBounds_toArray, List.set_cons_zero, List.set_cons_succ]
  refine wpAnyH_take (i := 15) (oi := ⟨some 47, _, _, _, _, _⟩) (v := ?v15) rfl (by kernel_rfl) (by kernel_rfl) (by kernel_rfl) (fun _ _ _ h => h) (Or.inl ⟨by rfl, ?hy15⟩) (by assumption) ?rest15
  case hy15 => intro W hSW; go_simp; try rfl
  try simp only [Act.put, List.setIfInBounds_toArray, List.set_cons_zero, List.set_cons_succ]
  refine wpAnyH_take (i := 16) (oi := ⟨some 48, _, _, _, _, _⟩) (v := ?v16) rfl (by kernel_rfl) (by kernel_rfl) (by kernel_rfl) (fun _ _ _ h => h) (Or.inl ⟨by rfl, ?hy16⟩) (by assumption) ?rest16
  case hy16 => intro W hSW; go_simp; try rfl
  try simp only [Act.put, List.setIfInBounds_toArray, List.set_cons_zero, List.set_cons_succ]
  refine wpAnyH_take (i := 17) (oi := ⟨some 49, _, _, _, _, _⟩) (v := ?v17) rfl (by kernel_rfl) (by kernel_rfl) (by kernel_rfl) (fun _ _ _ h => h) (Or.inl ⟨by rfl, ?hy17⟩) (by assumption) ?rest17
  case hy17 => intro W hSW; go_simp; try rfl
  try simp only [Act.put, List.setIfInBounds_toArray, List.set_cons_zero, List.set_cons_succ]
  refine wpAnyH_take (i := 18) (oi := ⟨some 50, _, _, _, _, _⟩) (v := ?v18) rfl (by kernel_rfl) (by kernel_rfl) (by kernel_rfl) (fun _ _ _ h => h) (Or.inl ⟨by rfl, ?hy18⟩) (by assumption) ?rest18
  case hy18 => intro W hSW; go_simp; try rfl
  try simp only [Act.put, List.setIfInBounds_toArray, List.set_cons_zero, List.set_cons_succ]
  refine wpAnyH_take (i := 19) (oi := ⟨some 51, _, _, _, _, _⟩) (v := ?v19) rfl (by kernel_rfl) (by kernel_rfl) (by kernel_rfl) (fun _ _ _ h => h) (Or.inl ⟨by rfl, ?hy19⟩) (by assumption) ?rest19
  case hy19 => intro W hSW; go_simp; try rfl
  try simp only [Act.put, List.setIfInBounds_toArray, List.set_cons_zero, List.set_cons_succ]
  refine wpAnyH_take (i := 20) (oi := ⟨some 52, _, _, _, _, _⟩) (v := ?v20) rfl (by kernel_rfl) (by kernel_rfl) (by kernel_rfl) (fun _ _ _ h => h) (Or.inl ⟨by rfl, ?hy20⟩) (by assumption) ?rest20
  case hy20 => intro W hSW; go_simp; try rfl
  try simp only [Act.put, List.setIfInBounds_toArray, List.set_cons_zero, List.set_cons_succ]
  refine wpAnyH_take (i := 21) (oi := ⟨some 53, _, _, _, _, _⟩) (v := ?v21) rfl (by kernel_rfl) (by kernel_rfl) (by kernel_rfl) (fun _ _ _ h => h) (Or.inl ⟨by rfl, ?hy21⟩) (by assumption) ?rest21
  case hy21 => intro W hSW; go_simp; try rfl
  try simp only [Act.put, List.setIfInBounds_toArray, List.set_cons_zero, List.set_cons_succ]
  refine wpAnyH_take (i := 22) (oi := ⟨some 54, _, _, _, _, _⟩) (v := ?v22) rfl (by kernel_rfl) (by kernel_rfl) (by kernel_rfl) (fun _ _ _ h => h) (Or.inl ⟨by rfl, ?hy22⟩) (by assumption) ?rest22
  case hy22 => intro W hSW; go_simp; try rfl
  try simp only [Act.put, List.setIfInBounds_toArray, List.set_cons_zero, List.set_cons_succ]
  refine wpAnyH_take (i := 23) (oi := ⟨some 55, _, _, _, _, _⟩) (v := ?v23) rfl (by kernel_rfl) (by kernel_rfl) (by kernel_rfl) (fun _ _ _ h => h) (Or.inl ⟨by rfl, ?hy23⟩) (by assumption) ?rest23
  case hy23 => intro W hSW; have cv := conv_seen (S25.out.below hSW); go_simp; try rfl
  try simp only [Act.put, List.setIfInBounds_toArray, List.set_cons_zero, List.set_cons_succ]
  refine wpAnyH_take (i := 24) (oi := ⟨some 56, _, _, _, _, _⟩) (v := ?v24) rfl (by kernel_rfl) (by kernel_rfl) (by kernel_rfl) (fun _ _ _ h => h) (Or.inl ⟨by rfl, ?hy24⟩) (by assumption) ?rest24
  case hy24 => intro W hSW; go_simp; try rfl
  try simp only [Act.put, List.setIfInBounds_toArray, List.set_cons_zero, List.set_cons_succ]
  refine wpAnyH_ready (rs := [25]) (by kernel_rfl) (by simp) ?_
  refine AllReadyH.cons (o := ⟨some 57, _, _, _, _, _⟩) rfl (fun K hK => ?_) AllReadyH.nil
  go_simp
  refine (SA.out w6 (HS.out.below (HB5.out.trans (B6.out.mono HB5.out.size))) (Nat.le_trans HB5.out.size B6.out.size)).mono ?_; rintro e w7 ⟨v7, rfl, ho7, hb7⟩; obtain ⟨A7, c7, rfl, _, hs7⟩ := own_seen ho7; have cv77 := conv_seen hs7; have B7 := Lib.hid (B6.out.trans (hb7.mono B6.out.size)); clear ho7 hs7 hb7 cv66
  refine hK.out _ _ ?_ (fun hHeld2 => ?_)
  · exact B7.out
  clear hK K hHeld
  have hHeld := hHeld2; clear hHeld2
  try simp only [Act.put, List.setIfInBounds_toArray, List.set_cons_zero, List.set_cons_succ]
  refine wpAnyH_ready (rs := [26]) (by kernel_rfl) (by simp) ?_
  refine AllReadyH.cons (o := ⟨some 58, _, _, _, _, _⟩) rfl (fun K hK => ?_) AllReadyH.nil
  go_simp
  refine hK.out _ _ ?_ (fun hHeld2 => ?_)
  · exact B7.out
  clear hK K hHeld
  have hHeld := hHeld2; clear hHeld2
  try simp only [Act.put, List.setIfInBounds_toArray, List.set_cons_zero, List.set_cons_succ]
  refine wpAnyH_take (i := 27) (oi := ⟨some 59, _, _, _, _, _⟩) (v := ?v27) rfl (by kernel_rfl) (by kernel_rfl) (by kernel_rfl) (fun _ _ _ h => h) (Or.inl ⟨by rfl, ?hy27⟩) (by assumption) ?rest27
  case hy27 => intro W hSW; go_simp; try rfl
  try simp only [Act.put, List.setIfInBounds_toArray, List.set_cons_zero, List.set_cons_succ]
  refine wpAnyH_take (i := 28) (oi := ⟨some 60, _, _, _, _, _⟩) (v := ?v28) rfl (by kernel_rfl) (by kernel_rfl) (by kernel_rfl) (fun _ _ _ h => h) (Or.inl ⟨by rfl, ?hy28⟩) (by assumption) ?rest28
  case hy28 => intro W hSW; go_simp; try rfl
  try simp only [Act.put, List.setIfInBounds_toArray, List.set_cons_zero, List.set_cons_succ]
  refine wpAnyH_take (i := 29) (oi := ⟨some 6, _, _, _, _, _⟩) (v := ?v29) rfl (by kernel_rfl) (by kernel_rfl) (by kernel_rfl) (fun _ _ _ h => h) (Or.inl ⟨by rfl, ?hy29⟩) (by assumption) ?rest29
  case hy29 => intro W hSW; go_simp; try rfl
  try simp only [Act.put, List.setIfInBounds_toArray, List.set_cons_zero, List.set_cons_succ]
  refine wpAnyH_done (by kernel_rfl) ?_ _
  all_goals
    go_wp2_with fail
    go_ret
    refine ⟨?_, HB5.out.trans (B7.out.mono HB5.out.size)⟩
    simp [Act.put]

theorem bursts_law (A : Option Addr) (len c : Nat) (_ : len ≤ 9223372036854775807) (at' p : Int) (wa : (Lit.int .i64 at').wf = true) (wp : (Lit.int .u32 p).wf = true) (w : World) (h : ∃ bs : List Nat, bs.length = len ∧ (∀ y ∈ bs, y < 256) ∧ Seen w w.heap.size 1 A len c (bv bs)) :
    Calls Try.prog 6 #[.slice A len c, .int .i64 at', .int .u32 p] w (LawPost w) := by
  have ha : -9223372036854775808 ≤ at' ∧ at' ≤ 9223372036854775807 := by
    simp [Lit.wf, IntKind.min, IntKind.max, IntKind.signed, IntKind.bits] at wa
    omega
  have hp : 0 ≤ p ∧ p < 4294967296 := by
    simp [Lit.wf, IntKind.min, IntKind.max, IntKind.signed, IntKind.bits] at wp
    omega
  by_cases hl : len ≤ 400
  · obtain ⟨bs, h1, h2, h3⟩ := h
    obtain ⟨pat, rfl⟩ := Int.eq_ofNat_of_zero_le hp.1
    by_cases hb : burst (bs ++ leb (crc bs) 4) at' pat = bs ++ leb (crc bs) 4
    · exact bursts_short A len c bs h1 h2 hl at' ha.1 ha.2 pat (by omega) 0 false (.inl ⟨hb, rfl, rfl⟩) w h3
    · exact bursts_short A len c bs h1 h2 hl at' ha.1 ha.2 pat (by omega) 7 true (.inr ⟨hb, rfl, rfl⟩) w h3
  · exact bursts_long A len c (by omega) at' p w
end Go.Proofs.Ytdpdfnekokmgoaa
