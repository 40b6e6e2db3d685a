/-
  The document's Bytes of a pool. Conditions: a pool in memory, of at most a hundred constants, texts of at most two hundred bytes.
-/
import Derived.Test.YtmojclbejmnikaaYW
namespace Go.Proofs.Ytmojclbejmnikaa
open Go Go.RowKit
set_option maxRecDepth 100000

/-- A number's bytes, the highest first. -/
def beN (v n : Nat) : List Nat := (leb v n).reverse
/-- An int as an uint64. -/
def u64N (a : Int) : Nat := (a % 18446744073709551616).toNat
/-- A constant's bytes. -/
def rawB (r : Raw) : List Nat :=
  if formM r.tag = 0 then [] else (r.tag % 256).toNat ::
    (if formM r.tag = 116 then beN r.text.size 2 ++ txN r.text
     else if formM r.tag = 52 then beN r.bits 4
     else if formM r.tag = 56 then beN r.bits 8
     else if formM r.tag = 97 then beN (u64N r.a) 2
     else beN (u64N r.a) 2 ++ beN (u64N r.b) 2)
def bytesM (l : List Raw) : List Nat := beN l.length 2 ++ (l.drop 1).flatMap rawB

theorem form_val (t : Int) : formM t = 0 ∨ formM t = 116 ∨ formM t = 52 ∨ formM t = 56 ∨ formM t = 97 ∨ formM t = 98 := by
  unfold formM
  repeat' split
  all_goals simp
theorem raw_next (l : List Raw) (k n : Nat) (hk : k < l.length) (h0 : 0 < k) : beN n 2 ++ ((l.take (k + 1)).drop 1).flatMap rawB = (beN n 2 ++ ((l.take k).drop 1).flatMap rawB) ++ rawB l[k] := by
  rw [take_next l k hk, List.drop_append_of_le_length (by rw [List.length_take]; omega), List.flatMap_append, List.append_assoc]
  simp
theorem beN_len (v n : Nat) : (beN v n).length = n := by
  unfold beN
  rw [List.length_reverse]
  induction n generalizing v with
  | zero => rfl
  | succ n ih => rw [leb, List.length_cons, ih]
theorem rawB_len (r : Raw) (h : r.text.size ≤ 200) : (rawB r).length ≤ 203 := by
  unfold rawB
  split
  · simp
  · rw [List.length_cons]
    split
    · rw [List.length_append, beN_len, txN_len]; omega
    · split
      · rw [beN_len]; omega
      · split
        · rw [beN_len]; omega
        · split
          · rw [beN_len]; omega
          · rw [List.length_append, beN_len, beN_len]; omega
theorem raws_len : ∀ (l : List Raw), (∀ r ∈ l, r.text.size ≤ 200) → (l.flatMap rawB).length ≤ 203 * l.length
  | [], _ => by simp
  | r :: l, h => by
    have h1 := rawB_len r (h r (by simp))
    have h2 := raws_len l (fun x hx => h x (by simp [hx]))
    rw [List.flatMap_cons, List.length_append, List.length_cons]; omega
theorem bv_len (l : List Nat) : (bv l).length = l.length := List.length_map _

set_option maxHeartbeats 16000000 in
theorem bytes_any (l : List Raw) (A : Option Addr) (n c B : Nat) (hn : l.length = n) (hs : n ≤ 100) (ht : ∀ r ∈ l, r.text.size ≤ 200) (hb : ∀ r ∈ l, r.bits < 18446744073709551616) (w : World) (hA : Seen w B 5 A n c (rv l)) (hB : B ≤ w.heap.size) :
    Calls Try.prog 15 #[.slice A n c] w (GivesRow w 5 1 (bytesM l).length (bv (bytesM l))) := by
  have CB := Lib.hid (fun (W : World) (bs : List Nat) (m : Nat) (hm : bs.length = m) (A : Option Addr) (c : Nat) (v k : Nat) (hk : k = 2 ∨ k = 4 ∨ k = 8) (hv : v < 18446744073709551616) (h : Seen W W.heap.size 1 A m c (bv bs)) (hl : m ≤ 1000000) => by
    subst hm
    exact refBig_go A c W.heap.size bs W h (Nat.le_refl _) hl v hv k (by omega) k (.inl ⟨by unfold Wide; omega, rfl⟩) : ∀ (W : World) (bs : List Nat) (m : Nat) (_ : bs.length = m) (A : Option Addr) (c : Nat) (v k : Nat) (_ : k = 2 ∨ k = 4 ∨ k = 8) (_ : v < 18446744073709551616) (_ : Seen W W.heap.size 1 A m c (bv bs)) (_ : m ≤ 1000000), Calls Try.prog 32 #[.slice A m c, .int .u64 v, .int .i64 k] W (GivesRow W 5 1 (m + k) (bv (bs ++ beN v k))))
  obtain ⟨i0, hi0, hz0, hz1, hz2⟩ := info_parts byte_info
  have HA := Lib.hid hA
  have un : IntKind.u64.wrap (n : Int) = (n : Int) := by rw [IntKind.wrap_u64]; omega
  have CB0 := Lib.hid (CB.out w [] 0 rfl none 0 n 2 (.inl rfl) (by omega) (seen_nil _ _) (by simp))
  clear hA
  go_enter Try.func15, Try.ntmps15
  go_wp2_with fail
  refine CB0.out.mono ?_
  rintro e w1 ⟨v1, rfl, o1, b1⟩
  rw [List.nil_append, Nat.zero_add] at o1
  have O1 := Lib.hid o1
  have B1 := Lib.hid b1
  clear o1 b1
  go_wp2_with fail
  go_loopg [3, 12] n (fun j v3 v wr => ∃ k : Nat, k ≤ n ∧ j = n - k ∧ v = .int .i64 k ∧ wr.ownsRow w.heap.size 5 1 v3 (beN n 2 ++ ((l.take k).drop 1).flatMap rawB).length (bv (beN n 2 ++ ((l.take k).drop 1).flatMap rawB)) ∧ Below w.heap.size w wr)
  case atStart => exact ⟨0, by omega, rfl, rfl, (by rw [List.take_zero, List.drop_nil, List.flatMap_nil, List.append_nil, beN_len]; exact O1.out), B1.out⟩
  case round =>
    obtain ⟨k, hk, rfl, rfl, ho, hbl⟩ := hrel
    obtain ⟨wo, rfl⟩ : ∃ W, W = wr := ⟨_, rfl⟩
    obtain ⟨U, hU⟩ : ∃ U, beN n 2 ++ ((l.take k).drop 1).flatMap rawB = U := ⟨_, rfl⟩
    rw [hU] at ho
    obtain ⟨P, hP⟩ : ∃ P, U.length = P := ⟨_, rfl⟩
    rw [hP] at ho
    obtain ⟨A3, c3, rfl, _⟩ := own_form ho
    have HB := Lib.hid hbl
    have HO := Lib.hid ho
    have HU := Lib.hid hU
    have hPl : P ≤ 2 + 203 * k := by
      have h1 := raws_len ((l.take k).drop 1) (fun r hr => ht r (List.mem_of_mem_take (List.mem_of_mem_drop hr)))
      have h2 : ((l.take k).drop 1).length ≤ k := by rw [List.length_drop, List.length_take]; omega
      rw [← hP, ← hU, List.length_append, beN_len]; omega
    have HP := Lib.hid hP
    clear hbl ho hU hP
    by_cases hlt : k < n
    · have hkl : k < l.length := by omega
      have d0 : decide ((k : Int) < (n : Int)) = true := by rw [decide_eq_true_iff]; omega
      obtain ⟨bb, oo, rfl, hbb, hc⟩ := (HA.out.below (HB.out.mono hB)).raw hkl hn
      have htx := ht _ (List.getElem_mem hkl)
      have hbi := hb _ (List.getElem_mem hkl)
      obtain ⟨r, hr⟩ : ∃ r, l[k] = r := ⟨_, rfl⟩
      rw [hr] at hc htx hbi
      obtain ⟨t, s, bits, a, b⟩ := r
      simp only at htx hbi
      have m0 : wo.cell? ⟨bb, oo + k * 5, none⟩ = some (.int .i64 t) := hc 0 _ rfl
      have m1 : wo.cell? ⟨bb, oo + k * 5 + 1, none⟩ = some (.string s) := by rw [Nat.add_assoc]; exact hc 1 _ rfl
      have m2 : wo.cell? ⟨bb, oo + k * 5 + 2, none⟩ = some (.int .u64 bits) := by rw [Nat.add_assoc]; exact hc 2 _ rfl
      have m3 : wo.cell? ⟨bb, oo + k * 5 + 3, none⟩ = some (.int .i64 a) := by rw [Nat.add_assoc]; exact hc 3 _ rfl
      have m4 : wo.cell? ⟨bb, oo + k * 5 + 4, none⟩ = some (.int .i64 b) := by rw [Nat.add_assoc]; exact hc 4 _ rfl
      clear hc
      obtain ⟨w2, hw2⟩ : ∃ W, wo.alloc (.cells #[.int .i64 t, .string s, .int .u64 bits, .int .i64 a, .int .i64 b] 47) = W := ⟨_, rfl⟩
      have P1 : Whole w2 wo.heap.size 47 #[.int .i64 t, .string s, .int .u64 bits, .int .i64 a, .int .i64 b] := hw2 ▸ Whole.new wo 47 _
      have HP1 := Lib.hid P1
      have c0 := P1.cell 0
      have c1 := P1.cell 1
      have c2 := P1.cell 2
      have c3' := P1.cell 3
      have c4 := P1.cell 4
      simp only [List.getElem?_toArray, List.getElem?_cons_zero, List.getElem?_cons_succ] at c0 c1 c2 c3' c4
      have BA : Below wo.heap.size wo w2 := hw2 ▸ (Below.refl wo.heap.size wo).alloc (Nat.le_refl _) _
      have HB2 := Lib.hid (HB.out.trans (BA.mono HB.out.size))
      have HO2 := Lib.hid (own_only HO.out (Only.of_below BA Nob) (fun _ _ h => h))
      clear P1 BA
      by_cases h0 : k = 0
      · have e0 : ((k : Int) == 0) = true := by rw [h0]; rfl
        have HZ := Lib.hid h0
        clear h0 c0 c1 c2 c3' c4
        go_wp2_with fail
        go_roundg (n - (k + 1))
        case measure => omega
        case rel =>
          refine ⟨k + 1, by omega, rfl, by go_num, ?_, HB2.out⟩
          have e : beN n 2 ++ ((l.take (k + 1)).drop 1).flatMap rawB = U := by
            rw [← HU.out, HZ.out]
            cases l with
            | nil => rfl
            | cons x l => rfl
          rw [e, HP.out]
          exact HO2.out
      have e0 : ((k : Int) == 0) = false := by rw [beq_eq_false_iff_ne]; omega
      have HST := Lib.hid (raw_next l k n hkl (by omega))
      rw [hr, HU.out] at HST
      have FM := Lib.hid (fun W => form_any t W)
      have hfv := form_val t
      have hraw : rawB ⟨t, s, bits, a, b⟩ = rawB ⟨t, s, bits, a, b⟩ := rfl
      conv at hraw => rhs; unfold rawB
      simp only at hraw
      obtain ⟨f, hf⟩ : ∃ f, formM t = f := ⟨_, rfl⟩
      rw [hf] at FM hfv
      rw [hf] at hraw
      have HRAW := Lib.hid hraw
      clear hraw hf
      by_cases hf0 : f = 0
      · subst hf0
        have hr2 := HRAW.out
        rw [if_pos rfl] at hr2
        have HR2 := Lib.hid hr2
        clear hr2 h0 c1 c2 c3' c4 hfv
        go_wp2_with fail
        refine (FM.out _).mono ?_; rintro e w3 ⟨rfl, rfl⟩
        go_wp2_with fail
        go_roundg (n - (k + 1))
        case measure => omega
        case rel =>
          refine ⟨k + 1, by omega, rfl, by go_num, ?_, HB2.out⟩
          rw [HST.out, HR2.out, List.append_nil, HP.out]
          exact HO2.out
      have ef0 : ((f : Int) == 0) = false := by rw [beq_eq_false_iff_ne]; omega
      have hr2 := HRAW.out
      rw [if_neg hf0] at hr2
      have HR2 := Lib.hid hr2
      clear hr2 HRAW
      obtain ⟨tb, htb⟩ : ∃ x, (t % 256).toNat = x := ⟨_, rfl⟩
      rw [htb] at HR2
      have ut : IntKind.u8.wrap t = (tb : Int) := by rw [IntKind.wrap_u8]; omega
      clear htb h0
      have BB : Below w2.heap.size w2 (w2.alloc (.cells #[.int .u8 (tb : Int)] 5)) := (Below.refl w2.heap.size w2).alloc (Nat.le_refl _) _
      have HSS := Lib.hid (seen_new w2 5 (bv [tb]) 1 rfl #[.int .u8 (tb : Int)] rfl)
      have HO3 := Lib.hid (own_only HO2.out (Only.of_below BB Nob) (fun _ _ h => h))
      have HP3 := Lib.hid (HP1.out.alloc (.cells #[.int .u8 (tb : Int)] 5))
      have HB3 := Lib.hid (HB2.out.trans (BB.mono HB2.out.size))
      have r1 : P + 1 ≤ maxLen := by simp [maxLen]; omega
      have r2 : (P + 1) * 1 ≤ 140737488355328 := by omega
      have r3 : w.heap.size ≤ (w2.alloc (.cells #[.int .u8 (tb : Int)] 5)).heap.size := HB3.out.size
      clear BB
      go_wp2_with fail
      refine (FM.out _).mono ?_; rintro e w3 ⟨rfl, rfl⟩
      go_wp2_with (at_builtin; refine wpList_append_seen _ rfl (.tmp 25) (.tmp 29) _ rfl w.heap.size 5 i0 _ 1 1 Try.underlying22 hi0 hz0 hz1 hz2 rfl (by omega) (.slice A3 P c3) P (bv U) rfl HO3.out (w2.heap.size + 1) (some ⟨w2.heap.size, 0, none⟩) 1 1 (bv [tb]) rfl HSS.out (bv_oneCell _) r1 r2 r3 ?_; intro v2 w3 ho2 hg2 hv2; have HP4 := Lib.hid (HP3.out.grown hg2 (fun e => (own_ne_whole HO3.out HP3.out (by decide) _ e.symm) rfl)); have x0 := HP4.out.cell 0; have x1 := HP4.out.cell 1; have x2 := HP4.out.cell 2; have x3 := HP4.out.cell 3; have x4 := HP4.out.cell 4; simp only [List.getElem?_toArray, List.getElem?_cons_zero, List.getElem?_cons_succ] at x0 x1 x2 x3 x4; have HB4 := Lib.hid (HB3.out.grown hg2 r3 (fun j hj => (own_whole HO3.out hj).1)); have HO4 := Lib.hid ho2; clear ho2 hg2 hv2)
      refine (FM.out _).mono ?_; rintro e w4 ⟨rfl, rfl⟩
      rw [← bv_append] at HO4
      have hm1 : (U ++ [tb]).length = P + 1 := by rw [List.length_append, HP.out]; rfl
      obtain ⟨A5, c5, rfl, _⟩ := own_form HO4.out
      have S4 := Lib.hid (Seen.of_own HO4.out)
      have HM1 := Lib.hid hm1
      clear hm1 c0 c1 c2 c3' c4 HP1 HP3 HO2 HO3 HB2 HB3 HSS
      rcases hfv with rfl | rfl | rfl | rfl | rfl | rfl
      · exact absurd rfl hf0
      · have CC := Lib.hid (fun W (h : Seen W W.heap.size 1 A5 (P + 1) c5 (bv (U ++ [tb]))) => CB.out W (U ++ [tb]) (P + 1) HM1.out A5 c5 s.size 2 (by omega) (by omega) h (by omega))
        have us : IntKind.u64.wrap (s.size : Int) = (s.size : Int) := by rw [IntKind.wrap_u64]; omega
        clear x0 x1 x2 x3 x4
        go_upto_region 9 with fail
        refine wp_region_held_drew (S := (fun W => Below w3.heap.size w3 W)) (by kernel_rfl) (Below.refl _ _).drew (fun hHeld => ?_)
        have hHeld0 := hHeld
        have S_0 := Lib.hid (Seen.bel S4.out hHeld0)
        generalize hwd : w3.drew = wd at *
        clear hwd hHeld0
        refine wpAnyH_take (i := 0) (oi := ⟨some 36, _, _, _, _, _⟩) (v := ?vn0_1) rfl (by kernel_rfl) (by kernel_rfl) (by kernel_rfl) (fun _ _ _ h => h) (Or.inl ⟨by rfl, ?hyn0_1⟩) (by assumption) ?restn0_1
        case hyn0_1 => intro W hSW; go_simp; try rfl
        try simp only [Act.put, List.setIfInBounds_toArray, List.set_cons_zero, List.set_cons_succ]
        refine wpAnyH_take (i := 1) (oi := ⟨some 37, _, _, _, _, _⟩) (v := ?vn1_2) rfl (by kernel_rfl) (by kernel_rfl) (by kernel_rfl) (fun _ _ _ h => h) (Or.inl ⟨by rfl, ?hyn1_2⟩) (by assumption) ?restn1_2
        case hyn1_2 => intro W hSW; go_simp; try rfl
        try simp only [Act.put, List.setIfInBounds_toArray, List.set_cons_zero, List.set_cons_succ]
        refine wpAnyH_take (i := 2) (oi := ⟨some 38, _, _, _, _, _⟩) (v := ?vn2_3) rfl (by kernel_rfl) (by kernel_rfl) (by kernel_rfl) (fun _ _ _ h => h) (Or.inl ⟨by rfl, ?hyn2_3⟩) (by assumption) ?restn2_3
        case hyn2_3 => intro W hSW; have q1 : W.cell? ⟨wo.heap.size, 1, none⟩ = some (.string s) := (by simpa using (Whole.bel HP4.out hSW).cell 1); go_simp; try rfl
        try simp only [Act.put, List.setIfInBounds_toArray, List.set_cons_zero, List.set_cons_succ]
        refine wpAnyH_take (i := 3) (oi := ⟨some 39, _, _, _, _, _⟩) (v := ?vn3_4) rfl (by kernel_rfl) (by kernel_rfl) (by kernel_rfl) (fun _ _ _ h => h) (Or.inl ⟨by rfl, ?hyn3_4⟩) (by assumption) ?restn3_4
        case hyn3_4 => intro W hSW; go_simp; try rfl
        try simp only [Act.put, List.setIfInBounds_toArray, List.set_cons_zero, List.set_cons_succ]
        refine wpAnyH_take (i := 4) (oi := ⟨some 40, _, _, _, _, _⟩) (v := ?vn4_5) rfl (by kernel_rfl) (by kernel_rfl) (by kernel_rfl) (fun _ _ _ h => h) (Or.inl ⟨by rfl, ?hyn4_5⟩) (by assumption) ?restn4_5
        case hyn4_5 => intro W hSW; go_simp; try rfl
        try simp only [Act.put, List.setIfInBounds_toArray, List.set_cons_zero, List.set_cons_succ]
        refine wpAnyH_take (i := 6) (oi := ⟨some 42, _, _, _, _, _⟩) (v := ?vn6_6) rfl (by kernel_rfl) (by kernel_rfl) (by kernel_rfl) (fun _ _ _ h => h) (Or.inl ⟨by rfl, ?hyn6_6⟩) (by assumption) ?restn6_6
        case hyn6_6 => intro W hSW; go_simp; try rfl
        try simp only [Act.put, List.setIfInBounds_toArray, List.set_cons_zero, List.set_cons_succ]
        refine wpAnyH_take (i := 7) (oi := ⟨some 43, _, _, _, _, _⟩) (v := ?vn7_7) rfl (by kernel_rfl) (by kernel_rfl) (by kernel_rfl) (fun _ _ _ h => h) (Or.inl ⟨by rfl, ?hyn7_7⟩) (by assumption) ?restn7_7
        case hyn7_7 => intro W hSW; have q1 : W.cell? ⟨wo.heap.size, 1, none⟩ = some (.string s) := (by simpa using (Whole.bel HP4.out hSW).cell 1); go_simp; try rfl
        try simp only [Act.put, List.setIfInBounds_toArray, List.set_cons_zero, List.set_cons_succ]
        refine wpAnyH_ready (rs := [5, 8]) (by kernel_rfl) (by simp) ?_
        refine (AllReadyH.cons (o := ⟨some 41, _, _, _, _, _⟩) rfl (fun K hK => ?_) (AllReadyH.cons (o := ⟨some 44, _, _, _, _, _⟩) rfl (fun K hK => ?_) AllReadyH.nil))
        · go_simp
          refine (CC.out wd S_0.out).mono ?_
          rintro e x8 ⟨v5, rfl, NW, hb⟩
          replace NW : OwnB x8 w3.heap.size (P + 1 + 2) v5 (U ++ [tb] ++ beN s.size 2) := own_base NW hHeld.size
          have S_8 := Lib.hid (Seen.bel S_0.out hb)
          have O_8 := Lib.hid NW
          refine hK.out _ _ ?_ (fun hHeld2 => ?_)
          · exact bel_after hHeld (Nat.le_refl _) hb
          clear hK K hHeld
          have hHeld := hHeld2; clear hHeld2
          try simp only [Act.put, List.setIfInBounds_toArray, List.set_cons_zero, List.set_cons_succ]
          clear hb
          clear NW
          try clear S_0
          refine wpAnyH_ready (rs := [8]) (by kernel_rfl) (by simp) ?_
          refine (AllReadyH.cons (o := ⟨some 44, _, _, _, _, _⟩) rfl (fun K hK => ?_) AllReadyH.nil)
          · refine step_conv_str _ rfl (.tmp 43) rfl s rfl ?_
            intro cs x9 hb NW
            obtain ⟨gs_9, hgs_9⟩ : ∃ g, x8.heap.size = g := ⟨_, rfl⟩
            rw [hgs_9] at NW ⊢
            have S_9 := Lib.hid (Seen.bel S_8.out hb)
            have O_9 := Lib.hid (OwnB.bel O_8.out hb)
            have Q_9 := Lib.hid NW
            refine hK.out _ _ ?_ (fun hHeld2 => ?_)
            · exact bel_after hHeld (Nat.le_refl _) hb
            clear hK K hHeld
            have hHeld := hHeld2; clear hHeld2
            try simp only [Act.put, List.setIfInBounds_toArray, List.set_cons_zero, List.set_cons_succ]
            clear hb
            clear NW
            try clear S_8
            try clear O_8
            refine wpAnyH_ready (rs := [9]) (by kernel_rfl) (by simp) ?_
            refine (AllReadyH.cons (o := ⟨some 45, _, _, _, _, _⟩) rfl (fun K hK => ?_) AllReadyH.nil)
            · refine step_append_seen _ rfl (.tmp 41) (.tmp 44) 22 rfl w3.heap.size 5 i0 _ 1 1 Try.underlying22 hi0 hz0 hz1 hz2 rfl (by omega) v5 (P + 1 + 2) (bv (U ++ [tb] ++ beN s.size 2)) rfl O_9.out _ _ s.size cs (bv (txN s)) rfl Q_9.out (bv_oneCell _) (by simp only [maxLen]; omega) (by omega) hHeld.size ?_
              intro v8 x10 ho8 hg8 _
              have hb8 := hHeld.grown hg8 hHeld.size (fun k hk => (own_whole O_9.out hk).1)
              refine hK.out _ _ ?_ (fun hHeld2 => ?_)
              · exact hb8
              clear hK K hHeld
              have hHeld := hHeld2; clear hHeld2
              try simp only [Act.put, List.setIfInBounds_toArray, List.set_cons_zero, List.set_cons_succ]
              try clear S_9
              try clear O_9
              try clear Q_9
              refine wpAnyH_take (i := 10) (oi := ⟨some 3, _, _, _, _, _⟩) (v := ?vn10_11) rfl (by kernel_rfl) (by kernel_rfl) (by kernel_rfl) (fun _ _ _ h => h) (Or.inl ⟨by rfl, ?hyn10_11⟩) (by assumption) ?restn10_11
              case hyn10_11 => intro W hSW; go_simp; try rfl
              try simp only [Act.put, List.setIfInBounds_toArray, List.set_cons_zero, List.set_cons_succ]
              refine wpAnyH_done (by kernel_rfl) ?_ _
              go_wp2_with fail
              go_roundg (n - (k + 1))
              case measure => omega
              case rel =>
                refine ⟨k + 1, by omega, rfl, by go_num, ?_, HB4.out.trans (hHeld.mono HB4.out.size)⟩
                have e : U ++ rawB ⟨t, s, bits, a, b⟩ = U ++ [tb] ++ beN s.size 2 ++ txN s := by rw [HR2.out, List.append_assoc, List.append_assoc]; rfl
                have e2 : (U ++ [tb] ++ beN s.size 2 ++ txN s).length = P + 1 + 2 + s.size := by rw [List.length_append, List.length_append, HM1.out, beN_len, txN_len]
                rw [HST.out, e, e2, bv_append _ (txN s)]
                exact own_base ho8 HB4.out.size
        · refine step_conv_str _ rfl (.tmp 43) rfl s rfl ?_
          intro cs x12 hb NW
          obtain ⟨gs_12, hgs_12⟩ : ∃ g, wd.heap.size = g := ⟨_, rfl⟩
          rw [hgs_12] at NW ⊢
          have S_12 := Lib.hid (Seen.bel S_0.out hb)
          have Q_12 := Lib.hid NW
          refine hK.out _ _ ?_ (fun hHeld2 => ?_)
          · exact bel_after hHeld (Nat.le_refl _) hb
          clear hK K hHeld
          have hHeld := hHeld2; clear hHeld2
          try simp only [Act.put, List.setIfInBounds_toArray, List.set_cons_zero, List.set_cons_succ]
          clear hb
          clear NW
          try clear S_0
          refine wpAnyH_ready (rs := [5]) (by kernel_rfl) (by simp) ?_
          refine (AllReadyH.cons (o := ⟨some 41, _, _, _, _, _⟩) rfl (fun K hK => ?_) AllReadyH.nil)
          · go_simp
            refine (CC.out x12 S_12.out).mono ?_
            rintro e x13 ⟨v5, rfl, NW, hb⟩
            replace NW : OwnB x13 w3.heap.size (P + 1 + 2) v5 (U ++ [tb] ++ beN s.size 2) := own_base NW hHeld.size
            have S_13 := Lib.hid (Seen.bel S_12.out hb)
            have Q_13 := Lib.hid (Seen.bel Q_12.out hb)
            have O_13 := Lib.hid NW
            refine hK.out _ _ ?_ (fun hHeld2 => ?_)
            · exact bel_after hHeld (Nat.le_refl _) hb
            clear hK K hHeld
            have hHeld := hHeld2; clear hHeld2
            try simp only [Act.put, List.setIfInBounds_toArray, List.set_cons_zero, List.set_cons_succ]
            clear hb
            clear NW
            try clear S_12
            try clear Q_12
            refine wpAnyH_ready (rs := [9]) (by kernel_rfl) (by simp) ?_
            refine (AllReadyH.cons (o := ⟨some 45, _, _, _, _, _⟩) rfl (fun K hK => ?_) AllReadyH.nil)
            · refine step_append_seen _ rfl (.tmp 41) (.tmp 44) 22 rfl w3.heap.size 5 i0 _ 1 1 Try.underlying22 hi0 hz0 hz1 hz2 rfl (by omega) v5 (P + 1 + 2) (bv (U ++ [tb] ++ beN s.size 2)) rfl O_13.out _ _ s.size cs (bv (txN s)) rfl Q_13.out (bv_oneCell _) (by simp only [maxLen]; omega) (by omega) hHeld.size ?_
              intro v8 x14 ho8 hg8 _
              have hb8 := hHeld.grown hg8 hHeld.size (fun k hk => (own_whole O_13.out hk).1)
              refine hK.out _ _ ?_ (fun hHeld2 => ?_)
              · exact hb8
              clear hK K hHeld
              have hHeld := hHeld2; clear hHeld2
              try simp only [Act.put, List.setIfInBounds_toArray, List.set_cons_zero, List.set_cons_succ]
              try clear S_13
              try clear Q_13
              try clear O_13
              refine wpAnyH_take (i := 10) (oi := ⟨some 3, _, _, _, _, _⟩) (v := ?vn10_15) rfl (by kernel_rfl) (by kernel_rfl) (by kernel_rfl) (fun _ _ _ h => h) (Or.inl ⟨by rfl, ?hyn10_15⟩) (by assumption) ?restn10_15
              case hyn10_15 => intro W hSW; go_simp; try rfl
              try simp only [Act.put, List.setIfInBounds_toArray, List.set_cons_zero, List.set_cons_succ]
              refine wpAnyH_done (by kernel_rfl) ?_ _
              go_wp2_with fail
              go_roundg (n - (k + 1))
              case measure => omega
              case rel =>
                refine ⟨k + 1, by omega, rfl, by go_num, ?_, HB4.out.trans (hHeld.mono HB4.out.size)⟩
                have e : U ++ rawB ⟨t, s, bits, a, b⟩ = U ++ [tb] ++ beN s.size 2 ++ txN s := by rw [HR2.out, List.append_assoc, List.append_assoc]; rfl
                have e2 : (U ++ [tb] ++ beN s.size 2 ++ txN s).length = P + 1 + 2 + s.size := by rw [List.length_append, List.length_append, HM1.out, beN_len, txN_len]
                rw [HST.out, e, e2, bv_append _ (txN s)]
                exact own_base ho8 HB4.out.size
      · have CC := Lib.hid (CB.out w3 (U ++ [tb]) (P + 1) HM1.out A5 c5 bits 4 (by omega) (by omega) S4.out (by omega))
        go_wp2_with fail
        refine CC.out.mono ?_
        rintro e w5 ⟨v5, rfl, o5, b5⟩
        have HO5 := Lib.hid (own_base o5 HB4.out.size)
        have HB5 := Lib.hid (HB4.out.trans (b5.mono HB4.out.size))
        clear o5 b5
        go_wp2_with fail
        go_roundg (n - (k + 1))
        case measure => omega
        case rel =>
          refine ⟨k + 1, by omega, rfl, by go_num, ?_, HB5.out⟩
          have e : U ++ rawB ⟨t, s, bits, a, b⟩ = U ++ [tb] ++ beN bits 4 := by rw [HR2.out, List.append_assoc]; rfl
          have e2 : (U ++ [tb] ++ beN bits 4).length = P + 1 + 4 := by rw [List.length_append, HM1.out, beN_len]
          rw [HST.out, e, e2]
          exact HO5.out
      · have CC := Lib.hid (CB.out w3 (U ++ [tb]) (P + 1) HM1.out A5 c5 bits 8 (by omega) (by omega) S4.out (by omega))
        go_wp2_with fail
        refine CC.out.mono ?_
        rintro e w5 ⟨v5, rfl, o5, b5⟩
        have HO5 := Lib.hid (own_base o5 HB4.out.size)
        have HB5 := Lib.hid (HB4.out.trans (b5.mono HB4.out.size))
        clear o5 b5
        go_wp2_with fail
        go_roundg (n - (k + 1))
        case measure => omega
        case rel =>
          refine ⟨k + 1, by omega, rfl, by go_num, ?_, HB5.out⟩
          have e : U ++ rawB ⟨t, s, bits, a, b⟩ = U ++ [tb] ++ beN bits 8 := by rw [HR2.out, List.append_assoc]; rfl
          have e2 : (U ++ [tb] ++ beN bits 8).length = P + 1 + 8 := by rw [List.length_append, HM1.out, beN_len]
          rw [HST.out, e, e2]
          exact HO5.out
      · have CC := Lib.hid (CB.out w3 (U ++ [tb]) (P + 1) HM1.out A5 c5 (u64N a) 2 (by omega) (by unfold u64N; omega) S4.out (by omega))
        have ua : IntKind.u64.wrap a = (u64N a : Int) := by rw [IntKind.wrap_u64]; unfold u64N; omega
        go_wp2_with fail
        refine CC.out.mono ?_
        rintro e w5 ⟨v5, rfl, o5, b5⟩
        have HO5 := Lib.hid (own_base o5 HB4.out.size)
        have HB5 := Lib.hid (HB4.out.trans (b5.mono HB4.out.size))
        clear o5 b5
        go_wp2_with fail
        go_roundg (n - (k + 1))
        case measure => omega
        case rel =>
          refine ⟨k + 1, by omega, rfl, by go_num, ?_, HB5.out⟩
          have e : U ++ rawB ⟨t, s, bits, a, b⟩ = U ++ [tb] ++ beN (u64N a) 2 := by rw [HR2.out, List.append_assoc]; rfl
          have e2 : (U ++ [tb] ++ beN (u64N a) 2).length = P + 1 + 2 := by rw [List.length_append, HM1.out, beN_len]
          rw [HST.out, e, e2]
          exact HO5.out
      · have CC := Lib.hid (fun W (h : Seen W W.heap.size 1 A5 (P + 1) c5 (bv (U ++ [tb]))) => CB.out W (U ++ [tb]) (P + 1) HM1.out A5 c5 (u64N a) 2 (by omega) (by unfold u64N; omega) h (by omega))
        have ua : IntKind.u64.wrap a = (u64N a : Int) := by rw [IntKind.wrap_u64]; unfold u64N; omega
        have ub : IntKind.u64.wrap b = (u64N b : Int) := by rw [IntKind.wrap_u64]; unfold u64N; omega
        have HM2 := Lib.hid (show (U ++ [tb] ++ beN (u64N a) 2).length = P + 1 + 2 by rw [List.length_append, HM1.out, beN_len])
        clear x0 x1 x2 x3 x4
        go_upto_region 17 with fail
        refine wp_region_held_drew (S := (fun W => Below w3.heap.size w3 W)) (by kernel_rfl) (Below.refl _ _).drew (fun hHeld => ?_)
        have hHeld0 := hHeld
        have S_0 := Lib.hid (Seen.bel S4.out hHeld0)
        generalize hwd : w3.drew = wd at *
        clear hwd hHeld0
        refine wpAnyH_take (i := 0) (oi := ⟨some 67, _, _, _, _, _⟩) (v := ?vm0_1) rfl (by kernel_rfl) (by kernel_rfl) (by kernel_rfl) (fun _ _ _ h => h) (Or.inl ⟨by rfl, ?hym0_1⟩) (by assumption) ?restm0_1
        case hym0_1 => intro W hSW; go_simp; try rfl
        try simp only [Act.put, List.setIfInBounds_toArray, List.set_cons_zero, List.set_cons_succ]
        refine wpAnyH_take (i := 1) (oi := ⟨some 68, _, _, _, _, _⟩) (v := ?vm1_2) rfl (by kernel_rfl) (by kernel_rfl) (by kernel_rfl) (fun _ _ _ h => h) (Or.inl ⟨by rfl, ?hym1_2⟩) (by assumption) ?restm1_2
        case hym1_2 => intro W hSW; go_simp; try rfl
        try simp only [Act.put, List.setIfInBounds_toArray, List.set_cons_zero, List.set_cons_succ]
        refine wpAnyH_take (i := 2) (oi := ⟨some 69, _, _, _, _, _⟩) (v := ?vm2_3) rfl (by kernel_rfl) (by kernel_rfl) (by kernel_rfl) (fun _ _ _ h => h) (Or.inl ⟨by rfl, ?hym2_3⟩) (by assumption) ?restm2_3
        case hym2_3 => intro W hSW; have q3 : W.cell? ⟨wo.heap.size, 3, none⟩ = some (.int .i64 a) := (by simpa using (Whole.bel HP4.out hSW).cell 3); go_simp; try rfl
        try simp only [Act.put, List.setIfInBounds_toArray, List.set_cons_zero, List.set_cons_succ]
        refine wpAnyH_take (i := 3) (oi := ⟨some 70, _, _, _, _, _⟩) (v := ?vm3_4) rfl (by kernel_rfl) (by kernel_rfl) (by kernel_rfl) (fun _ _ _ h => h) (Or.inl ⟨by rfl, ?hym3_4⟩) (by assumption) ?restm3_4
        case hym3_4 => intro W hSW; go_simp; try rfl
        try simp only [Act.put, List.setIfInBounds_toArray, List.set_cons_zero, List.set_cons_succ]
        refine wpAnyH_take (i := 5) (oi := ⟨some 72, _, _, _, _, _⟩) (v := ?vm5_5) rfl (by kernel_rfl) (by kernel_rfl) (by kernel_rfl) (fun _ _ _ h => h) (Or.inl ⟨by rfl, ?hym5_5⟩) (by assumption) ?restm5_5
        case hym5_5 => intro W hSW; go_simp; try rfl
        try simp only [Act.put, List.setIfInBounds_toArray, List.set_cons_zero, List.set_cons_succ]
        refine wpAnyH_take (i := 6) (oi := ⟨some 73, _, _, _, _, _⟩) (v := ?vm6_6) rfl (by kernel_rfl) (by kernel_rfl) (by kernel_rfl) (fun _ _ _ h => h) (Or.inl ⟨by rfl, ?hym6_6⟩) (by assumption) ?restm6_6
        case hym6_6 => intro W hSW; have q4 : W.cell? ⟨wo.heap.size, 4, none⟩ = some (.int .i64 b) := (by simpa using (Whole.bel HP4.out hSW).cell 4); go_simp; try rfl
        try simp only [Act.put, List.setIfInBounds_toArray, List.set_cons_zero, List.set_cons_succ]
        refine wpAnyH_take (i := 7) (oi := ⟨some 74, _, _, _, _, _⟩) (v := ?vm7_7) rfl (by kernel_rfl) (by kernel_rfl) (by kernel_rfl) (fun _ _ _ h => h) (Or.inl ⟨by rfl, ?hym7_7⟩) (by assumption) ?restm7_7
        case hym7_7 => intro W hSW; go_simp; try rfl
        try simp only [Act.put, List.setIfInBounds_toArray, List.set_cons_zero, List.set_cons_succ]
        refine wpAnyH_ready (rs := [4]) (by kernel_rfl) (by simp) ?_
        refine (AllReadyH.cons (o := ⟨some 71, _, _, _, _, _⟩) rfl (fun K hK => ?_) AllReadyH.nil)
        · go_simp
          refine (CC.out wd S_0.out).mono ?_
          rintro e x8 ⟨v5, rfl, NW, hb⟩
          obtain ⟨A6, c6, rfl, _⟩ := own_form NW
          replace NW : OwnB x8 w3.heap.size (P + 1 + 2) (.slice A6 (P + 1 + 2) c6) (U ++ [tb] ++ beN (u64N a) 2) := own_base NW hHeld.size
          have S_8 := Lib.hid (Seen.bel S_0.out hb)
          have O_8 := Lib.hid NW
          refine hK.out _ _ ?_ (fun hHeld2 => ?_)
          · exact bel_after hHeld (Nat.le_refl _) hb
          clear hK K hHeld
          have hHeld := hHeld2; clear hHeld2
          try simp only [Act.put, List.setIfInBounds_toArray, List.set_cons_zero, List.set_cons_succ]
          clear hb
          clear NW
          try clear S_0
          refine wpAnyH_ready (rs := [8]) (by kernel_rfl) (by simp) ?_
          refine (AllReadyH.cons (o := ⟨some 75, _, _, _, _, _⟩) rfl (fun K hK => ?_) AllReadyH.nil)
          · go_simp
            refine (CB.out x8 (U ++ [tb] ++ beN (u64N a) 2) (P + 1 + 2) HM2.out _ _ (u64N b) 2 (by omega) (by unfold u64N; omega) (Seen.of_own O_8.out) (by omega)).mono ?_
            rintro e x9 ⟨v6, rfl, NW, hb⟩
            replace NW : OwnB x9 w3.heap.size (P + 1 + 2 + 2) v6 (U ++ [tb] ++ beN (u64N a) 2 ++ beN (u64N b) 2) := own_base NW hHeld.size
            have S_9 := Lib.hid (Seen.bel S_8.out hb)
            have O_9 := Lib.hid (OwnB.bel O_8.out hb)
            have O2_9 := Lib.hid NW
            refine hK.out _ _ ?_ (fun hHeld2 => ?_)
            · exact bel_after hHeld (Nat.le_refl _) hb
            clear hK K hHeld
            have hHeld := hHeld2; clear hHeld2
            try simp only [Act.put, List.setIfInBounds_toArray, List.set_cons_zero, List.set_cons_succ]
            clear hb
            clear NW
            try clear S_8
            try clear O_8
            refine wpAnyH_take (i := 9) (oi := ⟨some 3, _, _, _, _, _⟩) (v := ?vm9_10) rfl (by kernel_rfl) (by kernel_rfl) (by kernel_rfl) (fun _ _ _ h => h) (Or.inl ⟨by rfl, ?hym9_10⟩) (by assumption) ?restm9_10
            case hym9_10 => intro W hSW; go_simp; try rfl
            try simp only [Act.put, List.setIfInBounds_toArray, List.set_cons_zero, List.set_cons_succ]
            refine wpAnyH_done (by kernel_rfl) ?_ _
            have HF5 := O2_9.out
            go_wp2_with fail
            go_roundg (n - (k + 1))
            case measure => omega
            case rel =>
              refine ⟨k + 1, by omega, rfl, by go_num, ?_, HB4.out.trans (hHeld.mono HB4.out.size)⟩
              have e : U ++ rawB ⟨t, s, bits, a, b⟩ = U ++ [tb] ++ beN (u64N a) 2 ++ beN (u64N b) 2 := by rw [HR2.out, List.append_assoc, List.append_assoc]; rfl
              have e2 : (U ++ [tb] ++ beN (u64N a) 2 ++ beN (u64N b) 2).length = P + 1 + 2 + 2 := by rw [List.length_append, HM2.out, beN_len]
              rw [HST.out, e, e2]
              exact own_base HF5 HB4.out.size
    · obtain rfl : k = n := by omega
      have d0 : decide ((k : Int) < (k : Int)) = false := by rw [decide_eq_false_iff_not]; omega
      have e : bytesM l = U := by rw [← HU.out, List.take_of_length_le (by omega), ← hn]; rfl
      have HE := Lib.hid e
      clear e
      go_wp2_with fail
      go_ret
      rw [HE.out, HP.out]
      exact ⟨_, rfl, HO.out, HB.out⟩
end Go.Proofs.Ytmojclbejmnikaa
