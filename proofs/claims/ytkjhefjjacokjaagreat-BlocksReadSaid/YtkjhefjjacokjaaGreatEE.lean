/-
  The three ways to write one thing are read as one thing: mathematics, nothing of the program. Conditions: each theorem names its own.
  The walk of BlocksRead: whatever way tokens are written in, behind a block of bytes, they are read. Conditions: the slices are read as told (Seen), bytes are bytes.
-/
import Derived.Test.YtkjhefjjacokjaaGreatRX
import Derived.Test.YtkjhefjjacokjaaGreatDN
import Derived.Test.YtkjhefjjacokjaaGreatEB
import Derived.Test.YtkjhefjjacokjaaGreatIL
import Derived.Test.YtkjhefjjacokjaaGreatTL
import Derived.Test.YtkjhefjjacokjaaGreatG7
namespace Go.Proofs.YtkjhefjjacokjaaGreat
set_option maxRecDepth 100000
theorem storedH_pre (P : List Bool) (n : Nat) (last : Bool) (U : List Bool) : ∃ Z, storedH P n last ++ U = P ++ Z := by
  unfold storedH padTo
  exact ⟨headB 0 last ++ (List.replicate ((8 - (P ++ headB 0 last).length % 8) % 8) false ++ (bitsOf n 16 ++ (bitsOf (4294967295 - n) 16 ++ U))), by simp only [List.append_assoc]⟩
theorem stored_lenL (bits : List Bool) (nb : Nat) (bs : List Nat) (last : Bool) (h : bs.length = nb) : (storedH bits nb last ++ unpack bs).length = bits.length + stoS bits.length nb := by
  rw [← stored_len bits nb bs h]
  unfold storedH padTo
  simp only [List.length_append, List.length_replicate, headB_len, bitsOf_length]
/-- What stands ahead. -/
def x1 (ah : List Nat) : List Bool := storedH [] ah.length false ++ unpack ah
theorem x1_len (ah : List Nat) (h : ah.length ≤ 20) : (x1 ah).length ≤ 300 := by
  unfold x1
  rw [stored_len [] ah.length ah rfl]
  simp [stoS]
  omega
/-- The three ways. -/
def Way (ah bs : List Nat) (P : List Tok) (Y : List Bool) : Prop := Y = storedH (x1 ah) bs.length true ++ unpack bs ∨ Y = x1 ah ++ fixW P true ∨ Y = x1 ah ++ dynW (cntL P cnt0) P true
theorem ways_read {ah bs : List Nat} {P : List Tok} {Y : List Bool} (hY : Way ah bs P Y) (hah : ∀ x ∈ ah, x < 256) (ha : ah.length ≤ 20) (hbs : ∀ x ∈ bs, x < 256) (hb : bs.length ≤ 20000) (hP : Tks P) (hPl : P.length ≤ 1000) (he : expT 100000 P [] = (0, bs)) :
    Runs (blockStep (unpack (pack Y)) 200000) (0, []) (.ok (Y.length, ah ++ bs)) := by
  obtain ⟨pad, hL⟩ : ∃ pad, unpack (pack Y) = Y ++ pad := ⟨_, unpack_packed Y.length Y (Nat.le_refl _)⟩
  generalize unpack (pack Y) = L at hL ⊢
  have he' := expT_behind ah (M := 100000) (M' := 100020) (by omega) P [] bs he
  rw [List.append_nil] at he'
  have hm : (ah ++ bs).length ≤ 200000 := by rw [List.length_append]; omega
  rcases hY with hY | hY | hY
  · obtain ⟨Z, hZ⟩ := storedH_pre (x1 ah) bs.length true (unpack bs)
    have h2 := stored_read (P := x1 ah) hbs (by omega) (last := true) (L := L) (R := pad) (by rw [hL, hY]) (most := 200000) (o := ah) (by rw [← List.length_append]; exact hm)
    rw [← hY] at h2
    exact two_read hah (by omega) (by omega) (R := Z ++ pad) (by rw [hL, hY, hZ, List.append_assoc]; rfl) h2
  · have h2 := fixW_read hP (P := x1 ah) (R := pad) (last := true) (L := L) (most := 200000) (by rw [hL, hY, List.append_assoc]) he' hm
    have hl : Y.length = (x1 ah).length + (fixW P true).length := by rw [hY, List.length_append]
    rw [← hl] at h2
    exact two_read hah (by omega) (by omega) (R := fixW P true ++ pad) (by rw [hL, hY, List.append_assoc]; rfl) h2
  · have h2 := dynW_read (F := cntL P cnt0) ⟨rfl, hP, hPl⟩ (P := x1 ah) (R := pad) (last := true) (L := L) (most := 200000) (by rw [hL, hY, List.append_assoc]) he' hm
    have hl : Y.length = (x1 ah).length + (dynW (cntL P cnt0) P true).length := by rw [hY, List.length_append]
    rw [← hl] at h2
    exact two_read hah (by omega) (by omega) (R := dynW (cntL P cnt0) P true ++ pad) (by rw [hL, hY, List.append_assoc]; rfl) h2
theorem fixW_len (P : List Tok) (last : Bool) : (fixW P last).length = fixM P := by
  unfold fixW fixM
  simp only [List.length_append, headB_len, wb_length]
theorem dynW_len (F : Nat → Int) (P : List Tok) (last : Bool) : (dynW F P last).length = dynM F P := by
  unfold dynW dynM
  simp only [List.length_append, headB_len, wb_length]
theorem fixM_le {P : List Tok} (hP : Tks P) (hl : P.length ≤ 1000) : fixM P ≤ 60000 := by
  have h9 : ∀ s, len fxS s ≤ 15 := fun s => len_le (right_ok fx_kinds.1) s
  have := flat_toks fxS fxD (right_ok fx_kinds.1) (right_ok fx_kinds.2.1) P (fun t ht => (hP t ht).2)
  have := h9 256
  unfold fixM
  omega
theorem dynM_le {P : List Tok} (hP : Tks P) (hl : P.length ≤ 1000) : dynM (cntL P cnt0) P ≤ 60000 := by
  have hc : CntW (cntL P cnt0) P := ⟨rfl, hP, hl⟩
  have ho := hc.hdr
  have hb : beyondR ((sgB (cntL P cnt0)).take (sgN (cntL P cnt0)) ++ (dsB (cntL P cnt0)).take (dsN (cntL P cnt0))) = false := by
    rw [beyondR, List.any_eq_false]
    intro x hx
    have := ho.ok x hx
    simp
    omega
  have h1 := hdr_le (ofL_le hb (by have := ho.s2; have := ho.d2; simp only [List.length_append]; omega))
  have h2 := flat_toks ((sgB (cntL P cnt0)).take (sgN (cntL P cnt0))) ((dsB (cntL P cnt0)).take (dsN (cntL P cnt0))) (right_ok hc.k1) (right_ok hc.k2) P (fun t ht => (hP t ht).2)
  have h3 := len_le (right_ok hc.k1) 256
  unfold dynM
  omega
theorem way_le {ah bs : List Nat} {P : List Tok} {Y : List Bool} (hY : Way ah bs P Y) (ha : ah.length ≤ 20) (hb : bs.length ≤ 20000) (hP : Tks P) (hPl : P.length ≤ 1000) : Y.length ≤ 300000 := by
  have h1 := x1_len ah ha
  rcases hY with rfl | rfl | rfl
  · rw [stored_lenL _ _ _ _ rfl]
    unfold stoS
    omega
  · rw [List.length_append, fixW_len]
    have := fixM_le hP hPl
    omega
  · rw [List.length_append, dynW_len]
    have := dynM_le hP hPl
    omega
end Go.Proofs.YtkjhefjjacokjaaGreat

namespace Go.Proofs.YtkjhefjjacokjaaGreat
open Go.RowKit
set_option maxRecDepth 100000
theorem tokP_lit : ∀ (l : List Tok) (p : List Tok × List Nat), (∀ t ∈ l, t.lit < 256) → (∀ t ∈ p.1, t.lit < 256) → ∀ t ∈ (tokP l p).1, t.lit < 256
  | [], _, _, hp => hp
  | t :: l, p, hl, hp => tokP_lit l _ (fun u hu => hl u (List.mem_cons_of_mem _ hu)) (fun u hu => by
      rcases List.mem_append.1 hu with hu | hu
      · exact hp u hu
      · obtain rfl := List.mem_singleton.1 hu
        exact fixT_lit _ _ (hl t (List.mem_cons_self ..)))
theorem tokP_byte : ∀ (l : List Tok) (p : List Tok × List Nat), (∀ t ∈ l, t.lit < 256) → (∀ x ∈ p.2, x < 256) → ∀ x ∈ (tokP l p).2, x < 256
  | [], _, _, hp => hp
  | t :: l, _, hl, hp => tokP_byte l _ (fun u hu => hl u (List.mem_cons_of_mem _ hu)) (addT_lt (fixT_lit _ _ (hl t (List.mem_cons_self ..))) hp)
theorem ba_toList (a : List Nat) : (strOf a).toList = a.map fun n => UInt8.ofNat n := by
  rw [Lib.toList_data]
  simp [strOf]
theorem str_same (a b : List Nat) : ((strOf (a ++ b)).toList == (strOf a ++ strOf b).toList) = true := by
  rw [beq_iff_eq, ba_toList, Lib.toList_data]
  simp [strOf]
/-- A writer, beside rows of tokens and bytes, and bytes that came in. -/
theorem PenAt.came {w0 w : World} {Ao : Option Addr} {nt co : Nat} {P : List Tok} {Ab : Option Addr} {nb cb : Nat} {bs : List Nat} {gw : Nat} {sv : Value} {X : List Bool} (h : PenAt w0 Ao nt co P Ab nb cb bs w gw sv X) {Ah : Option Addr} {na ca B2 : Nat} {ah : List Nat} (hs : Seen w0 B2 1 Ah na ca (bx ah)) (hB : B2 ≤ w0.heap.size) : BytesIn w gw sv Ah na ca ah := fun _ hW =>
  ⟨_, (hs.below (h.bel.mono hB)).below ((hW.below (B := B2) (Nat.le_trans hB h.bel.size) (fun k hk => by
    have := h.lo
    rcases hk with e | e
    · omega
    · have := h.new k e; omega)))⟩
theorem PenAt.bel' {w0 w w' : World} {Ao : Option Addr} {nt co : Nat} {P : List Tok} {Ab : Option Addr} {nb cb : Nat} {bs : List Nat} {gw : Nat} {sv : Value} {X : List Bool} (h : PenAt w0 Ao nt co P Ab nb cb bs w gw sv X) (hb : Below w.heap.size w w') : PenAt w0 Ao nt co P Ab nb cb bs w' gw sv X :=
  ⟨h.wr.below hb, h.new, own_only h.o (Only.of_below hb Nob) (fun _ _ h => h), own_only h.b (Only.of_below hb Nob) (fun _ _ h => h), h.old, h.lo, h.bel.trans (hb.mono h.bel.size)⟩
/-- What the document's Inflate answers of what is written. -/
def ReadRes (o : List Nat) (m : Nat) (w : World) (e : Ending) (w' : World) : Prop :=
  ∃ v : Value, e = .returned (.tuple #[v, .int .i64 (m : Nat), .int .i64 0]) ∧ w'.ownsRow w.heap.size 5 1 v o.length (bx o) ∧ Below w.heap.size w w'
theorem way_inflate {ah bs : List Nat} {P : List Tok} {Y : List Bool} (hY : Way ah bs P Y) (hah : ∀ x ∈ ah, x < 256) (ha : ah.length ≤ 20) (hbs : ∀ x ∈ bs, x < 256) (hb : bs.length ≤ 20000) (hP : Tks P) (hPl : P.length ≤ 1000) (he : expT 100000 P [] = (0, bs))
    (A : Option Addr) (n cp B : Nat) (hn : (Y.length + 7) / 8 = n) (w : World) (hs : Seen w B 1 A n cp (bx (pack Y))) (hB : B ≤ w.heap.size) : Calls Tryz.prog 15 #[.slice A n cp, .int .i64 200000] w (ReadRes (ah ++ bs) n w) := by
  have hr := ways_read hY hah ha hbs hb hP hPl he
  have hl := way_le hY ha hb hP hPl
  refine (rinflate_any A n cp B (pack Y) 200000 (by omega) (by rw [pack_length]; exact hn) (by omega) (pack_lt Y) w hs hB).mono ?_
  rintro e w' h
  rcases h with ⟨a, o, v, h1, h2, h3, h4, h5, h6⟩ | ⟨er, h1, h2, h3, _⟩
  · have := hr.det h1
    simp only [Rs.ok.injEq, Prod.mk.injEq] at this
    obtain ⟨rfl, rfl⟩ := this
    refine ⟨v, ?_, h5, h6⟩
    rw [h4, hn]
  · have := hr.det h3
    cases this
set_option maxHeartbeats 8000000 in
theorem read_law (A : Option Addr) (nt ct B : Nat) (l : List Tok) (hl : ∀ t ∈ l, t.lit < 256) (Ah : Option Addr) (na ca B2 : Nat) (ah : List Nat) (hla : ah.length = na) (hah : ∀ x ∈ ah, x < 256) (w : World) (hs : Seen w B 3 A nt ct (tvs l)) (hB : B ≤ w.heap.size) (hs2 : Seen w B2 1 Ah na ca (bx ah)) (hB2 : B2 ≤ w.heap.size) :
    Calls Tryz.prog 3 #[.slice A nt ct, .slice Ah na ca] w (Gives w (.bool true)) := by
  have hln : l.length = nt := by have := hs.1; rw [tvs_length] at this; omega
  have HS := Lib.hid hs; have HLN := Lib.hid hln; have HL := Lib.hid hl; have HA := Lib.hid hs2; have HLA := Lib.hid hla; have HAH := Lib.hid hah
  clear hs hln hl hs2 hla hah
  go_enter Tryz.func3, Tryz.ntmps3
  go_wp2_with fail
  refine (fixed_any w).mono ?_
  rintro e w1 ⟨rfl, hb1⟩
  have HS1 := Lib.hid (HS.out.below (hb1.mono hB)); have B1 := Lib.hid hb1
  clear hb1 HS
  by_cases hn40 : 40 < nt
  · have d40 : decide ((nt : Int) > 40) = true := decide_eq_true (by omega)
    have d40' : decide ((40 : Int) < nt) = true := decide_eq_true (by omega)
    have d40'' : decide (40 < nt) = true := decide_eq_true hn40
    go_wp2_with fail
    go_ret
    exact ⟨rfl, B1.out⟩
  have d40 : decide (40 < nt) = false := decide_eq_false hn40
  have d40' : decide ((40 : Int) < nt) = false := decide_eq_false (by omega)
  by_cases hn20 : 20 < na
  · have d20 : decide (20 < na) = true := decide_eq_true hn20
    have d20' : decide ((20 : Int) < na) = true := decide_eq_true (by omega)
    go_wp2_with fail
    go_ret
    exact ⟨rfl, B1.out⟩
  have d20 : decide (20 < na) = false := decide_eq_false hn20
  have d20' : decide ((20 : Int) < na) = false := decide_eq_false (by omega)
  have CT := Lib.hid (lawTokens_any A nt ct B l (by omega) w1 HS1.out (Nat.le_trans hB B1.out.size))
  go_wp2_with fail
  refine CT.out.mono ?_
  rintro e w2 ⟨vo, vb, rfl, ho, hbb, hb2⟩
  have hok := tokOk_take l (by rw [HLN.out]; omega) l.length (Nat.le_refl _)
  rw [List.take_length] at hok
  obtain ⟨k1, k2, k3, k4⟩ := hok
  have hlit := tokP_lit l ([], []) HL.out (fun _ h => by cases h)
  have hbyte := tokP_byte l ([], []) HL.out (fun _ h => by cases h)
  obtain ⟨P, hP⟩ : ∃ P, (tokP l ([], [])).1 = P := ⟨_, rfl⟩
  obtain ⟨bs, hbs⟩ : ∃ bs, (tokP l ([], [])).2 = bs := ⟨_, rfl⟩
  rw [hP] at ho k1 k2 k3 hlit
  rw [hbs] at hbb k3 k4 hbyte
  have hTks : Tks P := fun t ht => ⟨hlit t ht, List.all_eq_true.1 k2 t ht⟩
  rw [HLN.out] at ho k1 k4
  obtain ⟨nb, hnb⟩ : ∃ nb, bs.length = nb := ⟨_, rfl⟩
  rw [hnb] at hbb k4
  have hnb2 : nb ≤ 20000 := by omega
  obtain ⟨At, co, rfl, _⟩ := own_form ho
  obtain ⟨Ab, cb, rfl, _⟩ := own_form hbb
  have HO2 := Lib.hid (own_base ho B1.out.size); have HB2 := Lib.hid (own_base hbb B1.out.size)
  have BB2 := Lib.hid (B1.out.trans (hb2.mono B1.out.size))
  have TKS := Lib.hid hTks; have HPL := Lib.hid k1; have HNB := Lib.hid hnb; have H256 := Lib.hid hbyte; have HEX := Lib.hid k3
  clear CT HS1 B1 ho hbb hb2 k1 k2 k3 hlit hbyte hP hbs hTks hnb HLN HL
  obtain ⟨X, hX⟩ : ∃ X, x1 ah = X := ⟨_, rfl⟩
  have hX3 : X.length ≤ 300 := by rw [← hX]; exact x1_len ah (by rw [HLA.out]; omega)
  obtain ⟨m1, hm1⟩ : ∃ m, X.length = m := ⟨_, rfl⟩
  have hm3 : m1 ≤ 300 := by omega
  have HX := Lib.hid hX; have HM1 := Lib.hid hm1
  have hX1 : storedH [] na false ++ unpack ah = X := by rw [← hX]; unfold x1; rw [HLA.out]
  have CA := Lib.hid (fun W g sv (h : PenAt w At nt co P Ab nb cb bs W g sv []) => stored_any g g sv [] (by simp) Ah na ca ah HLA.out HAH.out (by omega) false W h.wr (h.came HA.out hB2))
  rw [hX1] at CA
  clear hX hX1 hX3 hm1
  have CS := Lib.hid (fun W g sv (h : PenAt w At nt co P Ab nb cb bs W g sv X) => stored_any g g sv X (by rw [HM1.out]; omega) Ab nb cb bs HNB.out H256.out (by omega) true W h.wr h.bytes)
  have CX := Lib.hid (fun W g sv (h : PenAt w At nt co P Ab nb cb bs W g sv X) => fixed_T g g sv X (by rw [HM1.out]; omega) true At nt co W.heap.size P TKS.out (by omega) HPL.out W h.wr (Seen.of_own h.o) (Nat.le_refl _) h.toks)
  have CD := Lib.hid (fun W g sv (h : PenAt w At nt co P Ab nb cb bs W g sv X) => dynamic_T g g sv X (by rw [HM1.out]; omega) true At nt co W.heap.size P TKS.out (by omega) HPL.out W h.wr (Seen.of_own h.o) (Nat.le_refl _) h.toks)
  have CW := Lib.hid (fun W g sv (h : PenAt w At nt co P Ab nb cb bs W g sv X) => write_any g g sv X (by rw [HM1.out]; omega) true At nt co W.heap.size P TKS.out (by omega) HPL.out Ab nb cb bs HNB.out H256.out (by omega) W h.wr (Seen.of_own h.o) (Nat.le_refl _) h.toks h.bytes)
  have CF := Lib.hid (fun W g sv Y (h : PenAt w At nt co P Ab nb cb bs W g sv Y) => fixedBits_T At nt co W.heap.size P TKS.out (by omega) HPL.out W (Seen.of_own h.o) (Nat.le_refl _))
  have CG := Lib.hid (fun W g sv Y (h : PenAt w At nt co P Ab nb cb bs W g sv Y) => dynamicBits_T At nt co W.heap.size P TKS.out (by omega) HPL.out W (Seen.of_own h.o) (Nat.le_refl _))
  have CR := Lib.hid (fun W g sv Y (h : PenAt w At nt co P Ab nb cb bs W g sv Y) => refFixedBits_any At nt co W.heap.size P TKS.out (by omega) HPL.out W (Seen.of_own h.o) (Nat.le_refl _))
  have hfm := fixM_le TKS.out (by rw [HPL.out]; omega)
  have hdm := dynM_le TKS.out (by rw [HPL.out]; omega)
  have HWF : Hid (Way ah bs P (X ++ fixW P true) ∧ (X ++ fixW P true).length = m1 + fixM P) := Lib.hid ⟨.inr (.inl (by rw [HX.out])), by rw [List.length_append, fixW_len, HM1.out]⟩
  have HWD : Hid (Way ah bs P (X ++ dynW (cntL P cnt0) P true) ∧ (X ++ dynW (cntL P cnt0) P true).length = m1 + dynM (cntL P cnt0) P) := Lib.hid ⟨.inr (.inr (by rw [HX.out])), by rw [List.length_append, dynW_len, HM1.out]⟩
  have HWS : Hid (Way ah bs P (storedH X nb true ++ unpack bs)) := Lib.hid (.inl (by rw [HX.out, HNB.out]))
  generalize fixM P = mF at *
  generalize dynM (cntL P cnt0) P = mD at *
  generalize X ++ fixW P true = YF at *
  generalize X ++ dynW (cntL P cnt0) P true = YD at *
  generalize storedH X nb true ++ unpack bs = YS at *
  have CI := Lib.hid (fun (Y : List Bool) (hY : Way ah bs P Y) A' n' c' B' (hn' : (Y.length + 7) / 8 = n') W hs' hB' => way_inflate hY HAH.out (by rw [HLA.out]; omega) H256.out (by rw [HNB.out]; omega) TKS.out (by rw [HPL.out]; omega) HEX.out A' n' c' B' hn' W hs' hB')
  have CLE := Lib.hid (fun (Y : List Bool) (hY : Way ah bs P Y) => way_le hY (by rw [HLA.out]; omega) (by rw [HNB.out]; omega) TKS.out (by rw [HPL.out]; omega))
  have CLN := Lib.hid (fun (W : World) (g : Nat) (sv : Value) (Y : List Bool) (m : Nat) (hm : Y.length = m) (h : PenAt w At nt co P Ab nb cb bs W g sv Y) => (show Calls Tryz.prog 8 #[.pointer (some ⟨g, 0, none⟩)] W fun e w' => e = .returned (.int .i64 m) ∧ W = w' from by rw [← hm]; exact len_any g g sv Y W h.wr))
  have CB := Lib.hid (fun (W : World) (g : Nat) (sv : Value) (Y : List Bool) (n' : Nat) (hn' : (Y.length + 7) / 8 = n') (hY : Y.length ≤ 300000) (h : PenAt w At nt co P Ab nb cb bs W g sv Y) => (show Calls Tryz.prog 16 #[.pointer (some ⟨g, 0, none⟩)] W (GivesRow W 5 1 n' (bx (pack Y))) from by rw [← hn']; exact writerBytes_any g g sv Y W h.wr (by omega)))
  have hstr := str_same ah bs
  have HSA := Lib.hid (fun (W : World) (h : Below w.heap.size w W) => conv_seen (HA.out.below (h.mono hB2)))
  have HSB := Lib.hid (fun (W : World) (h : W.ownsRow w.heap.size 5 1 (.slice Ab nb cb) nb (bx bs)) => conv_seen (Seen.of_own h))
  have z1 : (strOf ah).size = na := by rw [← HLA.out]; simp [strOf, ByteArray.size]
  have z2 : (strOf bs).size = nb := by rw [← HNB.out]; simp [strOf, ByteArray.size]
  have hna : na ≤ 20 := by omega
  clear TKS HPL HNB H256 HEX HA HLA HAH k4 HX
  generalize strOf ah = sa at *
  generalize strOf bs = sb at *
  go_wp2_with fail
  go_loopw [6, 7, 8, 9, 10, 11, 12, 13, 29] (fun _ _ _ _ _ _ _ _ i wr => ∃ k : Nat, k ≤ 4 ∧ i = .int .i64 k ∧ Hid (wr.ownsRow w.heap.size 42 3 (.slice At nt co) nt (tvs P) ∧ wr.ownsRow w.heap.size 5 1 (.slice Ab nb cb) nb (bx bs) ∧ Below w.heap.size w wr)) (fun _ _ _ _ _ _ _ _ i _ => 4 - (intOf i).toNat)
  case atStart => exact ⟨0, by omega, rfl, Lib.hid ⟨HO2.out, HB2.out, BB2.out⟩⟩
  case round =>
    obtain ⟨k, hk, rfl, h⟩ := hrel
    have hk4 : k = 0 ∨ k = 1 ∨ k = 2 ∨ k = 3 ∨ k = 4 := by omega
    rcases hk4 with rfl | rfl | rfl | rfl | rfl
    · clear hk
      go_wp2_with fail
      refine (newWriter_any wr).mono ?_
      rintro e w3 ⟨rfl, hw3, hb3⟩
      obtain ⟨ho, hbb, hbel⟩ := h.out
      have hold : ∀ j, (Value.slice Ab nb cb).ownBlock = some j → j < wr.heap.size := fun j hj => (own_whole hbb hj).2.choose_spec.lt
      have HP3 : Hid (PenAt w At nt co P Ab nb cb bs w3 wr.heap.size (.slice none 0 0) []) := Lib.hid ⟨hw3, fun j hj => by simp [Value.ownBlock] at hj, own_only ho (Only.of_below hb3 Nob) (fun _ _ h => h), own_only hbb (Only.of_below hb3 Nob) (fun _ _ h => h), hold, hbel.size, hbel.trans (hb3.mono hbel.size)⟩
      obtain ⟨gw, hgw⟩ : ∃ gw, wr.heap.size = gw := ⟨_, rfl⟩
      rw [hgw] at HP3 ⊢
      clear hw3 hb3 ho hbb hbel hold hgw h
      go_wp2_with fail
      refine (CA.out w3 gw _ HP3.out).mono ?_
      rintro e w4 ⟨rfl, hp4⟩
      obtain ⟨sv4, hpen4⟩ := HP3.out.step hp4
      have HP4 := Lib.hid hpen4
      clear hp4 hpen4 HP3
      go_wp2_with fail
      refine (CLN.out w4 gw sv4 _ m1 HM1.out HP4.out).mono ?_
      rintro e wq ⟨rfl, rfl⟩
      go_wp2_with fail
      refine (CS.out w4 gw sv4 HP4.out).mono ?_
      rintro e w5 ⟨rfl, hp5⟩
      obtain ⟨sv5, hpen5⟩ := HP4.out.step hp5
      have HP5 := Lib.hid hpen5
      obtain ⟨Y, hY⟩ : ∃ Y, YS = Y := ⟨_, rfl⟩
      rw [hY] at HP5
      have HWY : Hid (Way ah bs P Y) := Lib.hid (hY ▸ HWS.out)
      clear hp5 hpen5 HP4 hY
      go_wp2_with fail
      have hle := CLE.out _ HWY.out
      obtain ⟨nn, hnn⟩ : ∃ n, (Y.length + 7) / 8 = n := ⟨_, rfl⟩
      have HNN := Lib.hid hnn
      clear hnn
      refine (CB.out w5 gw sv5 Y nn HNN.out hle HP5.out).mono ?_
      rintro e w6 ⟨v6, rfl, ho6, hb6⟩
      have HP6 := Lib.hid (HP5.out.bel' hb6)
      obtain ⟨A6, c6, rfl, _⟩ := own_form ho6
      have S6 := Lib.hid (Seen.of_own ho6)
      clear ho6 hb6 HP5
      go_wp2_with fail
      refine (CI.out Y HWY.out A6 nn c6 w6.heap.size HNN.out w6 S6.out (Nat.le_refl _)).mono ?_
      rintro e w7 ⟨v7, rfl, ho7, hb7⟩
      have HP7 := Lib.hid (HP6.out.bel' hb7)
      obtain ⟨A7, c7, rfl, _⟩ := own_form ho7
      have cv1 := conv_seen (Seen.of_own ho7)
      have cv2 := HSA.out w7 HP7.out.bel
      have cv3 := HSB.out w7 HP7.out.b
      clear ho7 hb7 HP6 S6
      generalize (ah ++ bs).length = lo at *
      generalize strOf (ah ++ bs) = so at *
      go_wp2_with fail
      refine (CB.out w7 gw sv5 Y nn HNN.out hle HP7.out).mono ?_
      rintro e w8 ⟨v8, rfl, ho8, hb8⟩
      have HP8 := Lib.hid (HP7.out.bel' hb8)
      obtain ⟨A8, c8, rfl, _⟩ := own_form ho8
      clear ho8 hb8 HP7 cv1 cv2 cv3
      go_wp2_with fail
      go_roundw
      case rel => exact ⟨1, by omega, by first | rfl | go_num, Lib.hid ⟨HP8.out.o, HP8.out.b, HP8.out.bel⟩⟩
      case measure => simp [intOf]
    · clear hk
      go_wp2_with fail
      refine (newWriter_any wr).mono ?_
      rintro e w3 ⟨rfl, hw3, hb3⟩
      obtain ⟨ho, hbb, hbel⟩ := h.out
      have hold : ∀ j, (Value.slice Ab nb cb).ownBlock = some j → j < wr.heap.size := fun j hj => (own_whole hbb hj).2.choose_spec.lt
      have HP3 : Hid (PenAt w At nt co P Ab nb cb bs w3 wr.heap.size (.slice none 0 0) []) := Lib.hid ⟨hw3, fun j hj => by simp [Value.ownBlock] at hj, own_only ho (Only.of_below hb3 Nob) (fun _ _ h => h), own_only hbb (Only.of_below hb3 Nob) (fun _ _ h => h), hold, hbel.size, hbel.trans (hb3.mono hbel.size)⟩
      obtain ⟨gw, hgw⟩ : ∃ gw, wr.heap.size = gw := ⟨_, rfl⟩
      rw [hgw] at HP3 ⊢
      clear hw3 hb3 ho hbb hbel hold hgw h
      go_wp2_with fail
      refine (CA.out w3 gw _ HP3.out).mono ?_
      rintro e w4 ⟨rfl, hp4⟩
      obtain ⟨sv4, hpen4⟩ := HP3.out.step hp4
      have HP4 := Lib.hid hpen4
      clear hp4 hpen4 HP3
      go_wp2_with fail
      refine (CLN.out w4 gw sv4 _ m1 HM1.out HP4.out).mono ?_
      rintro e wq ⟨rfl, rfl⟩
      go_wp2_with fail
      refine (CX.out w4 gw sv4 HP4.out).mono ?_
      rintro e w5 ⟨rfl, hp5⟩
      obtain ⟨sv5, hpen5⟩ := HP4.out.step hp5
      have HP5 := Lib.hid hpen5
      obtain ⟨Y, hY⟩ : ∃ Y, YF = Y := ⟨_, rfl⟩
      rw [hY] at HP5
      have HWY : Hid (Way ah bs P Y) := Lib.hid (hY ▸ HWF.out.1)
      have HLY : Hid (Y.length = m1 + mF) := Lib.hid (hY ▸ HWF.out.2)
      clear hp5 hpen5 HP4 hY
      have esub : wrap64 (((m1 + mF : Nat) : Int) - m1) = mF := by rw [show ((m1 + mF : Nat) : Int) - m1 = mF by omega]; exact IntWalk.wrap64_in _ (by omega)
      have esub2 : ((m1 + mF : Nat) : Int) - m1 = mF := by omega
      obtain ⟨mt, hmt⟩ : ∃ m, m1 + mF = m := ⟨_, rfl⟩
      rw [hmt] at HLY esub esub2
      clear hmt
      go_wp2_with fail
      refine (CLN.out w5 gw sv5 _ mt HLY.out HP5.out).mono ?_
      rintro e wq ⟨rfl, rfl⟩
      go_wp2_with fail
      refine (CF.out w5 gw sv5 _ HP5.out).mono ?_
      rintro e wa ⟨rfl, hba⟩
      have HPa := Lib.hid (HP5.out.bel' hba)
      clear hba HP5
      go_wp2_with fail
      refine (CF.out wa gw sv5 _ HPa.out).mono ?_
      rintro e wb ⟨rfl, hbb⟩
      have HPb := Lib.hid (HPa.out.bel' hbb)
      clear hbb HPa
      go_wp2_with fail
      refine (CR.out wb gw sv5 _ HPb.out).mono ?_
      rintro e w5 ⟨rfl, hbc⟩
      have HP5 := Lib.hid (HPb.out.bel' hbc)
      clear hbc HPb
      go_wp2_with fail
      have hle := CLE.out _ HWY.out
      obtain ⟨nn, hnn⟩ : ∃ n, (Y.length + 7) / 8 = n := ⟨_, rfl⟩
      have HNN := Lib.hid hnn
      clear hnn
      refine (CB.out w5 gw sv5 Y nn HNN.out hle HP5.out).mono ?_
      rintro e w6 ⟨v6, rfl, ho6, hb6⟩
      have HP6 := Lib.hid (HP5.out.bel' hb6)
      obtain ⟨A6, c6, rfl, _⟩ := own_form ho6
      have S6 := Lib.hid (Seen.of_own ho6)
      clear ho6 hb6 HP5
      go_wp2_with fail
      refine (CI.out Y HWY.out A6 nn c6 w6.heap.size HNN.out w6 S6.out (Nat.le_refl _)).mono ?_
      rintro e w7 ⟨v7, rfl, ho7, hb7⟩
      have HP7 := Lib.hid (HP6.out.bel' hb7)
      obtain ⟨A7, c7, rfl, _⟩ := own_form ho7
      have cv1 := conv_seen (Seen.of_own ho7)
      have cv2 := HSA.out w7 HP7.out.bel
      have cv3 := HSB.out w7 HP7.out.b
      clear ho7 hb7 HP6 S6
      generalize (ah ++ bs).length = lo at *
      generalize strOf (ah ++ bs) = so at *
      go_wp2_with fail
      refine (CB.out w7 gw sv5 Y nn HNN.out hle HP7.out).mono ?_
      rintro e w8 ⟨v8, rfl, ho8, hb8⟩
      have HP8 := Lib.hid (HP7.out.bel' hb8)
      obtain ⟨A8, c8, rfl, _⟩ := own_form ho8
      clear ho8 hb8 HP7 cv1 cv2 cv3
      go_wp2_with fail
      go_roundw
      case rel => exact ⟨2, by omega, by first | rfl | go_num, Lib.hid ⟨HP8.out.o, HP8.out.b, HP8.out.bel⟩⟩
      case measure => simp [intOf]
    · clear hk
      go_wp2_with fail
      refine (newWriter_any wr).mono ?_
      rintro e w3 ⟨rfl, hw3, hb3⟩
      obtain ⟨ho, hbb, hbel⟩ := h.out
      have hold : ∀ j, (Value.slice Ab nb cb).ownBlock = some j → j < wr.heap.size := fun j hj => (own_whole hbb hj).2.choose_spec.lt
      have HP3 : Hid (PenAt w At nt co P Ab nb cb bs w3 wr.heap.size (.slice none 0 0) []) := Lib.hid ⟨hw3, fun j hj => by simp [Value.ownBlock] at hj, own_only ho (Only.of_below hb3 Nob) (fun _ _ h => h), own_only hbb (Only.of_below hb3 Nob) (fun _ _ h => h), hold, hbel.size, hbel.trans (hb3.mono hbel.size)⟩
      obtain ⟨gw, hgw⟩ : ∃ gw, wr.heap.size = gw := ⟨_, rfl⟩
      rw [hgw] at HP3 ⊢
      clear hw3 hb3 ho hbb hbel hold hgw h
      go_wp2_with fail
      refine (CA.out w3 gw _ HP3.out).mono ?_
      rintro e w4 ⟨rfl, hp4⟩
      obtain ⟨sv4, hpen4⟩ := HP3.out.step hp4
      have HP4 := Lib.hid hpen4
      clear hp4 hpen4 HP3
      go_wp2_with fail
      refine (CLN.out w4 gw sv4 _ m1 HM1.out HP4.out).mono ?_
      rintro e wq ⟨rfl, rfl⟩
      go_wp2_with fail
      refine (CD.out w4 gw sv4 HP4.out).mono ?_
      rintro e w5 ⟨rfl, hp5⟩
      obtain ⟨sv5, hpen5⟩ := HP4.out.step hp5
      have HP5 := Lib.hid hpen5
      obtain ⟨Y, hY⟩ : ∃ Y, YD = Y := ⟨_, rfl⟩
      rw [hY] at HP5
      have HWY : Hid (Way ah bs P Y) := Lib.hid (hY ▸ HWD.out.1)
      have HLY : Hid (Y.length = m1 + mD) := Lib.hid (hY ▸ HWD.out.2)
      clear hp5 hpen5 HP4 hY
      have esub : wrap64 (((m1 + mD : Nat) : Int) - m1) = mD := by rw [show ((m1 + mD : Nat) : Int) - m1 = mD by omega]; exact IntWalk.wrap64_in _ (by omega)
      have esub2 : ((m1 + mD : Nat) : Int) - m1 = mD := by omega
      obtain ⟨mt, hmt⟩ : ∃ m, m1 + mD = m := ⟨_, rfl⟩
      rw [hmt] at HLY esub esub2
      clear hmt
      go_wp2_with fail
      refine (CLN.out w5 gw sv5 _ mt HLY.out HP5.out).mono ?_
      rintro e wq ⟨rfl, rfl⟩
      go_wp2_with fail
      refine (CG.out w5 gw sv5 _ HP5.out).mono ?_
      rintro e wa ⟨rfl, hba⟩
      have HPa := Lib.hid (HP5.out.bel' hba)
      clear hba HP5
      have HP5 := HPa
      clear HPa
      obtain ⟨w5, hw5⟩ : ∃ W, wa = W := ⟨_, rfl⟩
      rw [hw5] at HP5 ⊢
      clear hw5
      go_wp2_with fail
      have hle := CLE.out _ HWY.out
      obtain ⟨nn, hnn⟩ : ∃ n, (Y.length + 7) / 8 = n := ⟨_, rfl⟩
      have HNN := Lib.hid hnn
      clear hnn
      refine (CB.out w5 gw sv5 Y nn HNN.out hle HP5.out).mono ?_
      rintro e w6 ⟨v6, rfl, ho6, hb6⟩
      have HP6 := Lib.hid (HP5.out.bel' hb6)
      obtain ⟨A6, c6, rfl, _⟩ := own_form ho6
      have S6 := Lib.hid (Seen.of_own ho6)
      clear ho6 hb6 HP5
      go_wp2_with fail
      refine (CI.out Y HWY.out A6 nn c6 w6.heap.size HNN.out w6 S6.out (Nat.le_refl _)).mono ?_
      rintro e w7 ⟨v7, rfl, ho7, hb7⟩
      have HP7 := Lib.hid (HP6.out.bel' hb7)
      obtain ⟨A7, c7, rfl, _⟩ := own_form ho7
      have cv1 := conv_seen (Seen.of_own ho7)
      have cv2 := HSA.out w7 HP7.out.bel
      have cv3 := HSB.out w7 HP7.out.b
      clear ho7 hb7 HP6 S6
      generalize (ah ++ bs).length = lo at *
      generalize strOf (ah ++ bs) = so at *
      go_wp2_with fail
      refine (CB.out w7 gw sv5 Y nn HNN.out hle HP7.out).mono ?_
      rintro e w8 ⟨v8, rfl, ho8, hb8⟩
      have HP8 := Lib.hid (HP7.out.bel' hb8)
      obtain ⟨A8, c8, rfl, _⟩ := own_form ho8
      clear ho8 hb8 HP7 cv1 cv2 cv3
      go_wp2_with fail
      go_roundw
      case rel => exact ⟨3, by omega, by first | rfl | go_num, Lib.hid ⟨HP8.out.o, HP8.out.b, HP8.out.bel⟩⟩
      case measure => simp [intOf]
    · clear hk
      go_wp2_with fail
      refine (newWriter_any wr).mono ?_
      rintro e w3 ⟨rfl, hw3, hb3⟩
      obtain ⟨ho, hbb, hbel⟩ := h.out
      have hold : ∀ j, (Value.slice Ab nb cb).ownBlock = some j → j < wr.heap.size := fun j hj => (own_whole hbb hj).2.choose_spec.lt
      have HP3 : Hid (PenAt w At nt co P Ab nb cb bs w3 wr.heap.size (.slice none 0 0) []) := Lib.hid ⟨hw3, fun j hj => by simp [Value.ownBlock] at hj, own_only ho (Only.of_below hb3 Nob) (fun _ _ h => h), own_only hbb (Only.of_below hb3 Nob) (fun _ _ h => h), hold, hbel.size, hbel.trans (hb3.mono hbel.size)⟩
      obtain ⟨gw, hgw⟩ : ∃ gw, wr.heap.size = gw := ⟨_, rfl⟩
      rw [hgw] at HP3 ⊢
      clear hw3 hb3 ho hbb hbel hold hgw h
      go_wp2_with fail
      refine (CA.out w3 gw _ HP3.out).mono ?_
      rintro e w4 ⟨rfl, hp4⟩
      obtain ⟨sv4, hpen4⟩ := HP3.out.step hp4
      have HP4 := Lib.hid hpen4
      clear hp4 hpen4 HP3
      go_wp2_with fail
      refine (CLN.out w4 gw sv4 _ m1 HM1.out HP4.out).mono ?_
      rintro e wq ⟨rfl, rfl⟩
      go_wp2_with fail
      refine (CW.out w4 gw sv4 HP4.out).mono ?_
      rintro e w5 ⟨rfl, Y, hp5, hY3⟩
      obtain ⟨sv5, hpen5⟩ := HP4.out.step hp5
      have HP5 := Lib.hid hpen5
      have HWY : Hid (Way ah bs P Y) := Lib.hid (by
        rcases hY3 with h | h | h
        · rw [h]; exact HWS.out
        · rw [h]; exact HWF.out.1
        · rw [h]; exact HWD.out.1)
      clear hp5 hpen5 HP4 hY3
      go_wp2_with fail
      have hle := CLE.out _ HWY.out
      obtain ⟨nn, hnn⟩ : ∃ n, (Y.length + 7) / 8 = n := ⟨_, rfl⟩
      have HNN := Lib.hid hnn
      clear hnn
      refine (CB.out w5 gw sv5 Y nn HNN.out hle HP5.out).mono ?_
      rintro e w6 ⟨v6, rfl, ho6, hb6⟩
      have HP6 := Lib.hid (HP5.out.bel' hb6)
      obtain ⟨A6, c6, rfl, _⟩ := own_form ho6
      have S6 := Lib.hid (Seen.of_own ho6)
      clear ho6 hb6 HP5
      go_wp2_with fail
      refine (CI.out Y HWY.out A6 nn c6 w6.heap.size HNN.out w6 S6.out (Nat.le_refl _)).mono ?_
      rintro e w7 ⟨v7, rfl, ho7, hb7⟩
      have HP7 := Lib.hid (HP6.out.bel' hb7)
      obtain ⟨A7, c7, rfl, _⟩ := own_form ho7
      have cv1 := conv_seen (Seen.of_own ho7)
      have cv2 := HSA.out w7 HP7.out.bel
      have cv3 := HSB.out w7 HP7.out.b
      clear ho7 hb7 HP6 S6
      generalize (ah ++ bs).length = lo at *
      generalize strOf (ah ++ bs) = so at *
      go_wp2_with fail
      refine (CB.out w7 gw sv5 Y nn HNN.out hle HP7.out).mono ?_
      rintro e w8 ⟨v8, rfl, ho8, hb8⟩
      have HP8 := Lib.hid (HP7.out.bel' hb8)
      obtain ⟨A8, c8, rfl, _⟩ := own_form ho8
      clear ho8 hb8 HP7 cv1 cv2 cv3
      go_wp2_with fail
      go_roundw
      case rel => exact ⟨4, by omega, by first | rfl | go_num, Lib.hid ⟨HP8.out.o, HP8.out.b, HP8.out.bel⟩⟩
      case measure => simp [intOf]
    · obtain ⟨ho, hbb, hbel⟩ := h.out
      have HBE := Lib.hid hbel
      clear ho hbb hbel h
      go_wp2_with fail
      go_ret
      exact ⟨rfl, HBE.out⟩
theorem read_law' (A : Option Addr) (n c : Nat) (Ah : Option Addr) (na ca : Nat) (w : World) (h : ∃ l : List Tok, l.length = n ∧ Seen w w.heap.size 3 A n c (tvs l) ∧ ∀ t ∈ l, t.lit < 256) (h2 : ∃ bs : List Nat, bs.length = na ∧ (∀ y ∈ bs, y < 256) ∧ Seen w w.heap.size 1 Ah na ca (bx bs)) :
    Calls Tryz.prog 3 #[.slice A n c, .slice Ah na ca] w fun e w' => e = .returned (.bool true) ∧ Below w.heap.size w w' := by
  obtain ⟨l, _, hs, hl⟩ := h
  obtain ⟨bs, hb, h256, hs2⟩ := h2
  exact read_law A n c w.heap.size l hl Ah na ca w.heap.size bs hb h256 w hs (Nat.le_refl _) hs2 (Nat.le_refl _)
end Go.Proofs.YtkjhefjjacokjaaGreat
