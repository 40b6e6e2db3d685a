/-
  The document's Get of a code. Conditions: each theorem names the range of its arguments.
-/
import Derived.Test.YtobchlakjgeadaaP
import Derived.Test.YtobchlakjgeadaaE
import Derived.Test.YtobchlakjgeadaaL
namespace Go.Proofs.Ytobchlakjgeadaa
open Go.RowKit
set_option maxRecDepth 100000


theorem tx_inj {x y : List Bool} (h : tx x = tx y) : x = y := by
  have h1 := congrArg (fun s : ByteArray => s.data.toList) h
  simp only [tx] at h1
  clear h
  induction x generalizing y with
  | nil => cases y with
    | nil => rfl
    | cons b y => simp at h1
  | cons a x ih => cases y with
    | nil => simp at h1
    | cons b y =>
      simp only [List.map_cons, List.cons.injEq] at h1
      rw [ih h1.2]
      have := h1.1
      cases a <;> cases b <;> simp_all
theorem tx_beq (x y : List Bool) : ((tx x).toList == (tx y).toList) = decide (x = y) := by
  rw [tx_toList, tx_toList]
  by_cases h : x = y
  · subst h; simp
  · rw [decide_eq_false h]
    rw [← Bool.not_eq_true, beq_iff_eq]
    intro h2
    apply h
    apply tx_inj
    apply ByteArray.ext
    simp only [tx, h2]
theorem tx_extract (x : List Bool) (k : Nat) : (tx x).extract 0 k = tx (x.take k) := by
  apply ByteArray.ext
  rw [ByteArray.data_extract]
  simp [tx]

def RefGetRes (w : World) (l : List Int) (Br gr : Nat) (sv : Value) (L : List Bool) (a : Nat) (e : Ending) (w' : World) : Prop :=
  ∃ j er m, CodeGot l (L.drop a) j er m ∧ e = .returned (.tuple #[.int .i64 (j : Nat), .int .i64 (er : Nat)]) ∧ RefAt w' Br gr sv L (a + m) ∧ Only (fun k => k = gr) w w'

/-- k bits have been looked at: they are no word yet, or just one. -/
def RefGetIn (l : List Int) (bits : List Bool) (k v : Nat) : Prop :=
  hi k v = bits.take k ∧ k ≤ bits.length ∧ ((k ≤ 15 ∧ v < 2 ^ k ∧ upTo l k ≤ v ∧ lookup l bits = look l bits (16 - k) k v) ∨ (lookup l bits = .found k v ∧ k ≤ 15))

/-- Some word ahead of j is longer, and begins with the first k bits. -/
def someUp (l : List Int) (bits : List Bool) (k : Nat) : Nat → Bool
  | 0 => false
  | j + 1 => someUp l bits k j || decide (k < len l j ∧ (wb l j).take k = bits.take k)
theorem someUp_iff (l : List Int) (bits : List Bool) (k : Nat) : ∀ j, someUp l bits k j = true ↔ ∃ q, q < j ∧ k < len l q ∧ (wb l q).take k = bits.take k
  | 0 => by simp [someUp]
  | j + 1 => by
    simp only [someUp, Bool.or_eq_true, someUp_iff l bits k j, decide_eq_true_eq]
    constructor
    · rintro (⟨q, h1, h2⟩ | h)
      · exact ⟨q, by omega, h2⟩
      · exact ⟨j, by omega, h⟩
    · rintro ⟨q, h1, h2⟩
      rcases Nat.lt_or_ge q j with h | h
      · exact .inl ⟨q, h, h2⟩
      · obtain rfl : q = j := by omega
        exact .inr h2
/-- No word ahead of j is the first k bits. -/
def NoUp (l : List Int) (bits : List Bool) (k j : Nat) : Prop := ∀ q, q < j → len l q ≠ 0 → wb l q ≠ bits.take k
def InUp (l : List Int) (bits : List Bool) (k n : Nat) (so i : Value) : Prop := ∃ j : Nat, j ≤ n ∧ i = .int .i64 j ∧ so = .bool (someUp l bits k j) ∧ NoUp l bits k j

/-- A word that is the first k bits. -/
theorem up_match {l : List Int} {bits : List Bool} {k v j : Nat} (hr : kindOf l ≠ 0) (h : RefGetIn l bits k v) (hj : j < l.length) (h0 : len l j ≠ 0) (hm : wb l j = bits.take k) : len l j = k ∧ wv l j = v ∧ lookup l bits = .found k v := by
  obtain ⟨h1, h2, h3⟩ := h
  have e : len l j = k := by
    have := congrArg List.length hm
    rw [wb_length, List.length_take] at this
    omega
  have hw := (wv_small hr j hj).resolve_right h0
  have hv : v < 2 ^ k := by
    rcases h3 with ⟨_, h, _⟩ | ⟨h, hk⟩
    · exact h
    · have := (lookup_found h).2.2.1
      have := upTo_le hr k hk
      omega
  have ev : wv l j = v := by
    rw [← h1] at hm
    unfold wb at hm
    rw [e] at hm hw
    exact hi_inj k _ _ hm hw hv
  refine ⟨e, ev, ?_⟩
  rcases h3 with ⟨_, _, h4, _⟩ | ⟨h, hk⟩
  · have := wv_lt hr j hj h0
    rw [e, ev] at this
    omega
  · exact h
/-- No word is the first k bits. -/
theorem up_none {l : List Int} {bits : List Bool} {k v : Nat} (hr : kindOf l ≠ 0) (h : RefGetIn l bits k v) (hn : NoUp l bits k l.length) : k ≤ 15 ∧ v < 2 ^ k ∧ upTo l k ≤ v ∧ lookup l bits = look l bits (16 - k) k v := by
  obtain ⟨h1, h2, h3⟩ := h
  rcases h3 with h3 | ⟨h, hk⟩
  · exact h3
  · exfalso
    have h4 := lookup_found h
    obtain ⟨j, j1, j2, j3, j4, _⟩ := sign_of hr k v h4.2.1 h4.2.2.1
    exact hn j j1 (by omega) (by unfold wb; rw [j2, j4, h1])

set_option maxHeartbeats 1000000 in
set_option maxRecDepth 100000 in
theorem codeRefGet_any (A : Option Addr) (c B : Nat) (l : List Int) (n : Nat) (hn : l.length = n) (hl : n ≤ 1000) (hr : kindOf l ≠ 0) (Br gr : Nat) (sv : Value) (L : List Bool) (a : Nat) (w : World) (hs : Seen w B 1 A n c (twords l n)) (hB : B ≤ w.heap.size) (hR : RefAt w Br gr sv L a)
    (hb : L.length ≤ 8000000) (ha : a ≤ L.length) :
    Calls Try.prog 59 #[.slice A n c, .pointer (some ⟨gr, 0, none⟩)] w (RefGetRes w l Br gr sv L a) := by
  have HS := Lib.hid hs; clear hs
  have HN := Lib.hid hn; clear hn
  have HOK := Lib.hid (right_ok hr)
  have HR := Lib.hid hr; clear hr
  have r0 : w.cell? ⟨gr, 0, none⟩ = some sv := hR.2.1.cell 0
  have r1 : w.cell? ⟨gr, 1, none⟩ = some (.int .i64 a) := hR.2.1.cell 1
  have z1 := hR.2.1.frozen 1
  obtain ⟨As, cs, rfl, _⟩ := own_form hR.2.2
  have HRd := Lib.hid hR; clear hR
  have hln : ∀ k, k ≤ (L.drop a).length → a + k ≤ L.length := by intro k hk; simp at hk; omega
  have HLN := Lib.hid hln; clear hln
  go_enter Try.func59, Try.ntmps59
  go_wp2_with fail
  go_loopg [6, 7, 8, 9, 10] 17 (fun q s at_ _ _ _ wr => ∃ k v : Nat, k ≤ 16 ∧ q = 17 - k ∧ s = .string (tx ((L.drop a).take k)) ∧ at_ = .int .i64 (a + k : Nat) ∧ RefGetIn l (L.drop a) k v ∧ wr = w)
  case atStart => exact ⟨0, 0, by omega, rfl, rfl, rfl, ⟨by rw [hi_zero]; rfl, by omega, .inl ⟨by omega, by simp, by rw [upTo_zero]; exact Nat.le_refl _, rfl⟩⟩, rfl⟩
  case round =>
    obtain ⟨k, v, hk, rfl, rfl, rfl, hin, rfl⟩ := hrel
    have hak := HLN.out k hin.2.1
    have hk15 : k ≤ 15 := by rcases hin.2.2 with h | h; exact h.1; exact h.2
    have hS : ((L.drop a).take k).length = k := by rw [List.length_take]; have := hin.2.1; omega
    have HIn := Lib.hid hin; clear hin
    have HSL := Lib.hid hS; clear hS
    have hSz : (tx ((L.drop a).take k)).size = k := by rw [tx_size, HSL.out]
    obtain ⟨S, hST⟩ : ∃ S, tx ((L.drop a).take k) = S := ⟨_, rfl⟩
    rw [hST] at hSz ⊢
    have HST := Lib.hid hST; clear hST
    have HSZ := Lib.hid hSz; clear hSz
    obtain ⟨T, hT⟩ : ∃ T, a + k = T := ⟨_, rfl⟩
    rw [hT] at hak ⊢
    have HT := Lib.hid hT; clear hT
    go_wp2_with fail
    go_loop [8, 9, 10, 19] (fun so _ _ i => InUp l (L.drop a) k n so i) (fun _ _ _ i => n - (intOf i).toNat)
    case atStart => exact ⟨0, by omega, rfl, rfl, fun q hq => absurd hq (Nat.not_lt_zero _)⟩
    case round =>
      obtain ⟨j, hj, rfl, rfl, hno⟩ := hrel
      have HNO := Lib.hid hno; clear hno
      obtain ⟨so, hso⟩ : ∃ so, someUp l (L.drop a) k j = so := ⟨_, rfl⟩
      rw [hso]
      have HSO := Lib.hid hso; clear hso
      by_cases hlt : j < n
      · obtain ⟨b, o, u, rfl, _, q3, q4⟩ := HS.out.at hlt
        have hu : u = .string (tx (wb l j)) := by
          unfold twords at q3
          rw [mr_get _ _ _ hlt] at q3
          injection q3 with q3; exact q3.symm
        subst hu
        have hWz : (tx (wb l j)).size = len l j := by rw [tx_size, wb_length]
        have hl15 := len_le HOK.out j
        have HWZ := Lib.hid hWz; clear hWz q3
        have HBQ := Lib.hid (tx_beq (wb l j) ((L.drop a).take k))
        have HBQ2 := Lib.hid (tx_beq ((wb l j).take k) ((L.drop a).take k))
        have HEX := Lib.hid (tx_extract (wb l j) k)
        have HEM := Lib.hid (tx_some (wb l j))
        obtain ⟨W, hW⟩ : ∃ W, tx (wb l j) = W := ⟨_, rfl⟩
        rw [hW] at q4 HWZ HBQ HEX HEM
        rw [← HEX.out, HST.out] at HBQ2
        rw [HST.out] at HBQ
        clear HEX
        have HW := Lib.hid hW; clear hW
        have hWS : W.size ≤ 15 := by rw [HWZ.out]; exact hl15
        have hSS : S.size ≤ 15 := by rw [HSZ.out]; exact hk15
        -- the next round
        have STEP : Hid (∀ so' : Bool, so' = (so || decide (k < len l j ∧ (wb l j).take k = (L.drop a).take k)) → (len l j ≠ 0 → wb l j ≠ (L.drop a).take k) → InUp l (L.drop a) k n (.bool so') (.int .i64 ((j : Int) + 1))) := Lib.hid (by
          intro so' h1 h2
          refine ⟨j + 1, by omega, by go_num, by rw [h1, ← HSO.out]; rfl, ?_⟩
          intro q hq
          rcases Nat.lt_or_ge q j with h | h
          · exact HNO.out q h
          · obtain rfl : q = j := by omega
            exact h2)
        have hEmp : W.toList = [] → len l j = 0 := by
          intro h
          by_cases hw : wb l j = []
          · rw [← wb_length, hw]; rfl
          · have := (HEM.out hw).1; rw [h] at this; cases this
        have HEmp := Lib.hid hEmp; clear hEmp
        have hNe : ¬ W.toList = [] → ((!W.toList.isEmpty) = false ∨ (W.toList == S.toList) = false) → (len l j ≠ 0 → wb l j ≠ (L.drop a).take k) := by
          intro h h2 _ h3
          rcases h2 with h2 | h2
          · apply h
            simpa using h2
          · rw [HBQ.out, decide_eq_true h3] at h2; cases h2
        have HNe := Lib.hid hNe; clear hNe
        have hSo1 : ¬ so = true → S.size < W.size → ((W.extract 0 S.size).toList == S.toList) = (so || decide (k < len l j ∧ (wb l j).take k = (L.drop a).take k)) := by
          intro h h2
          rw [HSZ.out, HWZ.out] at h2
          rw [HSZ.out, HBQ2.out]
          cases so with
          | true => exact absurd rfl h
          | false => simp [h2]
        have HSo1 := Lib.hid hSo1; clear hSo1
        have hSo2 : ¬ so = true → ¬ S.size < W.size → false = (so || decide (k < len l j ∧ (wb l j).take k = (L.drop a).take k)) := by
          intro h h2
          rw [HSZ.out, HWZ.out] at h2
          cases so with
          | true => exact absurd rfl h
          | false => simp [h2]
        have HSo2 := Lib.hid hSo2; clear hSo2
        go_wp2_with fail
        · next h1 h2 => exact ⟨STEP.out _ (by rw [h2]; rfl) (fun h => absurd (HEmp.out h1) h), by simp [intOf]; omega⟩
        · next h1 h2 h3 => exact ⟨STEP.out _ (HSo1.out h2 h3) (fun h => absurd (HEmp.out h1) h), by simp [intOf]; omega⟩
        · next h1 h2 h3 => exact ⟨STEP.out _ (HSo2.out h2 h3) (fun h => absurd (HEmp.out h1) h), by simp [intOf]; omega⟩
        · next h1 h2 _ =>
          go_ret2
          have hm : wb l j = (L.drop a).take k := by
            have := HBQ.out
            rw [h2.2] at this
            exact of_decide_eq_true this.symm
          have h0 : len l j ≠ 0 := by
            intro h0
            apply h1
            have : wb l j = [] := List.eq_nil_of_length_eq_zero (by rw [wb_length]; exact h0)
            rw [← HW.out, this, tx_toList]; rfl
          obtain ⟨u1, u2, u3⟩ := up_match HR.out HIn.out (by rw [HN.out]; exact hlt) h0 hm
          refine ⟨j, 0, k, by unfold CodeGot; rw [u3]; exact ⟨by rw [HN.out]; exact hlt, u1, u2, rfl, rfl⟩, rfl, ?_, ?_⟩
          · rw [HT.out]; exact (HRd.out.set T).1
          · exact (HRd.out.set T).2
        · next h1 h2 h3 => exact ⟨STEP.out _ (by rw [h3]; rfl) (HNe.out h1 h2), by simp [intOf]; omega⟩
        · next h1 h2 h3 h4 => exact ⟨STEP.out _ (HSo1.out h3 h4) (HNe.out h1 h2), by simp [intOf]; omega⟩
        · next h1 h2 h3 h4 => exact ⟨STEP.out _ (HSo2.out h3 h4) (HNe.out h1 h2), by simp [intOf]; omega⟩
      · obtain rfl : j = n := by omega
        obtain ⟨a1, a2, a3, a4⟩ := up_none HR.out HIn.out (by rw [HN.out]; exact HNO.out)
        have HA := Lib.hid a4
        have hLT := HIn.out.2.1
        by_cases hw : words l ≤ bas l (k + 1)
        · have : so = false := by
            cases so with
            | false => rfl
            | true =>
              obtain ⟨q, q1, q2, q3⟩ := (someUp_iff l (L.drop a) k j).1 HSO.out
              have := longer HOK.out k q (by rw [HN.out]; exact q1) q2
              omega
          subst this
          have hLk : lookup l (L.drop a) = .code := by rw [a4, show 16 - k = (15 - k) + 1 by omega, look_code hw]
          have HLk := Lib.hid hLk
          clear hLk a1 a2 a3 a4 hLT hw
          go_wp2_with fail
          go_ret2
          exact ⟨0, 12, 0, by unfold CodeGot; rw [HLk.out]; exact ⟨rfl, rfl, rfl⟩, rfl, HRd.out, Only.refl _ _⟩
        · obtain ⟨q, q1, q2, q3⟩ := cover HR.out k v a1 a2 a3 (by omega)
          have : so = true := by
            rw [← HSO.out, someUp_iff]
            exact ⟨q, by rw [← HN.out]; exact q1, q2, by rw [q3]; exact HIn.out.1⟩
          subst this
          by_cases hend : T = L.length
          · have hLk : lookup l (L.drop a) = .fin := by rw [a4, show 16 - k = (15 - k) + 1 by omega, look_fin hw (by rw [List.length_drop]; have := HT.out; omega)]
            have HLk := Lib.hid hLk
            have hd : ((T : Int) == L.length) = true := by simp; omega
            clear hLk a1 a2 a3 a4 hLT hw q1 q2 q3
            have HE := Lib.hid hend; clear hend
            have hd2 : (T == L.length) = true := by simp; exact HE.out
            go_wp2_with fail
            go_ret2
            exact ⟨0, 6, 0, by unfold CodeGot; rw [HLk.out]; exact ⟨rfl, rfl, rfl⟩, rfl, HRd.out, Only.refl _ _⟩
          · have hd : ((T : Int) == L.length) = false := by simp; omega
            have hd2 : (T == L.length) = false := by simp; exact hend
            have hkb : k < (L.drop a).length := by rw [List.length_drop]; have := HT.out; omega
            obtain ⟨bit, hbit⟩ : ∃ bit, (L.drop a)[k] = bit := ⟨_, rfl⟩
            have hstep := look_step (f := 16 - (k + 1)) (v := v) hw hkb
            rw [hbit, show 16 - (k + 1) + 1 = 16 - k by omega, ← a4] at hstep
            have hTL : T < L.length := by omega
            have hLb : L[T] = bit := by
              rw [← hbit, List.getElem_drop]
              congr 1
              exact HT.out.symm
            have hIn2 : RefGetIn l (L.drop a) (k + 1) (2 * v + bit.toNat) := by
              have hk14 : k < 15 := by
                rcases Nat.lt_or_ge k 15 with h | h
                · exact h
                · exfalso
                  apply hw
                  rw [show k = 15 by omega, bas_words l HOK.out]
                  exact Nat.le_refl _
              refine ⟨by rw [hi_bit, HIn.out.1, ← hbit, take_snoc _ k hkb], by omega, ?_⟩
              by_cases h2 : 2 * v + bit.toNat < upTo l (k + 1)
              · rw [if_pos h2] at hstep
                exact .inr ⟨hstep, by omega⟩
              · rw [if_neg h2] at hstep
                refine .inl ⟨by omega, ?_, by omega, hstep⟩
                rw [Nat.pow_succ]
                have : bit.toNat ≤ 1 := by cases bit <;> simp
                omega
            have HIn2 := Lib.hid hIn2; clear hIn2
            have hsn : (L.drop a).take (k + 1) = (L.drop a).take k ++ [bit] := by rw [← hbit, take_snoc _ k hkb]
            have HSN := Lib.hid hsn; clear hsn
            obtain ⟨b2, o2, u, hA, _, q4, q5⟩ := (Seen.of_own HRd.out.2.2).at (k := T) hTL
            subst hA
            have hu : u = .bool bit := by
              rw [List.getElem?_map, List.getElem?_eq_getElem hTL, hLb] at q4
              simpa using q4.symm
            subst hu
            have hSS : S.size ≤ 15 := by rw [HSZ.out]; exact hk15
            have HK := Lib.hid hk15
            clear hbit hstep hLb q1 q2 q3 a1 a2 a3 a4 hw hkb hLT q4 hk15
            cases bit with
            | true =>
              have E := Lib.hid (tx_one ((L.drop a).take k))
              rw [HST.out, ← HSN.out] at E
              go_wp2_with fail
              go_roundg (17 - (k + 1))
              case measure => have := HK.out; omega
              case rel => exact ⟨k + 1, 2 * v + true.toNat, by have := HK.out; omega, rfl, by rw [← E.out], by rw [← HT.out]; go_num, HIn2.out, rfl⟩
            | false =>
              have E := Lib.hid (tx_zero ((L.drop a).take k))
              rw [HST.out, ← HSN.out] at E
              go_wp2_with fail
              go_roundg (17 - (k + 1))
              case measure => have := HK.out; omega
              case rel => exact ⟨k + 1, 2 * v + false.toNat, by have := HK.out; omega, rfl, by rw [← E.out], by rw [← HT.out]; go_num, HIn2.out, rfl⟩

end Go.Proofs.Ytobchlakjgeadaa
