/-
  The document's sections of a text. Conditions: a text of lines, of at most a hundred thousand bytes.
-/
import Derived.Test.YteadhiehhpafjaaDoorQJ
namespace Go.Proofs.YteadhiehhpafjaaDoor
open Go Go.RowKit
set_option maxRecDepth 100000

theorem RRow.base {W : World} {base base' : Nat} {v : Value} {rows : List Value} {out : Secs} (h : RRow W base v rows out) (hb : base' ≤ base) : RRow W base' v rows out :=
  ⟨h.1, own_base h.2.1 hb, fun i hi => by
    obtain ⟨u, h1, h2⟩ := h.2.2.1 i hi
    exact ⟨u, h1, own_base h2 hb⟩, h.2.2.2⟩
theorem bytes_nat (l : List UInt8) : (l.map UInt8.toNat).map (fun x : Nat => Value.int .u8 x) = Lib.byteCells l := by simp [Lib.byteCells]
theorem joinN_len : ∀ (ls : List (List UInt8)), ls.length ≤ (joinN ls).length ∧ ∀ l ∈ ls, l.length ≤ (joinN ls).length
  | [] => ⟨Nat.le_refl _, fun l h => by cases h⟩
  | x :: ls => by
    obtain ⟨h1, h2⟩ := joinN_len ls
    rw [joinN_cons]
    simp only [List.length_append, List.length_cons]
    refine ⟨by omega, fun l h => ?_⟩
    rcases List.mem_cons.1 h with rfl | h
    · omega
    · have := h2 l h; omega
theorem cR_len (l : List UInt8) : (cR l).length ≤ l.length := by
  unfold cR
  split
  · rw [List.length_dropLast]; omega
  · exact Nat.le_refl _
/-- How much the sections under way hold. -/
def Fit (k : Nat) (out : Secs) : Prop := out.length ≤ k ∧ ∀ s ∈ out, s.length ≤ k ∧ ∀ l ∈ s, l.length ≤ 72 * k
def GivesSecs (w : World) (r : Int × Secs) (e : Ending) (w' : World) : Prop :=
  ∃ v rows, e = .returned (.tuple #[v, .int .i64 r.1]) ∧ Below w.heap.size w w' ∧ (r.1 ≠ 0 → v = .slice none 0 0) ∧ (r.1 = 0 → RRow w' w.heap.size v rows r.2 ∧ ∃ k, k ≤ 1500 ∧ Fit k r.2)
theorem Fit.up {k : Nat} {out : Secs} (h : Fit k out) : Fit (k + 1) out := ⟨by have := h.1; omega, fun s hs => ⟨by have := (h.2 s hs).1; omega, fun l hl => by have := (h.2 s hs).2 l hl; omega⟩⟩
theorem Fit.glue {k : Nat} {init : Secs} {mid : List (List UInt8)} {z t : List UInt8} (h : Fit k (init ++ [mid ++ [z]])) (ht : t.length ≤ 72) : Fit (k + 1) (init ++ [mid ++ [z ++ t]]) := by
  refine ⟨by have := h.1; simp at this ⊢; omega, fun s hs => ?_⟩
  rcases List.mem_append.1 hs with hs | hs
  · exact h.up.2 s (by simp [hs])
  · rw [List.mem_singleton.1 hs]
    have h2 := h.2 (mid ++ [z]) (by simp)
    refine ⟨by have := h2.1; simp at this ⊢; omega, fun l hl => ?_⟩
    rcases List.mem_append.1 hl with hl | hl
    · have := h2.2 l (by simp [hl]); omega
    · rw [List.mem_singleton.1 hl, List.length_append]
      have := h2.2 z (by simp); omega
theorem Fit.add {k : Nat} {init : Secs} {s : List (List UInt8)} {l : List UInt8} (h : Fit k (init ++ [s])) (ht : l.length ≤ 72) : Fit (k + 1) (init ++ [s ++ [l]]) := by
  refine ⟨by have := h.1; simp at this ⊢; omega, fun x hx => ?_⟩
  rcases List.mem_append.1 hx with hx | hx
  · exact h.up.2 x (by simp [hx])
  · rw [List.mem_singleton.1 hx]
    have h2 := h.2 s (by simp)
    refine ⟨by have := h2.1; simp at this ⊢; omega, fun y hy => ?_⟩
    rcases List.mem_append.1 hy with hy | hy
    · have := h2.2 y hy; omega
    · rw [List.mem_singleton.1 hy]; omega
theorem Fit.push {k : Nat} {out : Secs} {l : List UInt8} (h : Fit k out) (ht : l.length ≤ 72) : Fit (k + 1) (out ++ [[l]]) := by
  refine ⟨by have := h.1; simp at this ⊢; omega, fun x hx => ?_⟩
  rcases List.mem_append.1 hx with hx | hx
  · exact h.up.2 x hx
  · rw [List.mem_singleton.1 hx]
    refine ⟨by simp, fun y hy => ?_⟩
    rw [List.mem_singleton.1 hy]; omega
theorem tx_app (a b : List UInt8) : tx a ++ tx b = tx (a ++ b) := by unfold tx; rw [ByteArray.mk_append_mk]
theorem tx_zero (a : UInt8) (tl : List UInt8) (h : 0 < (tx (a :: tl)).size) : (tx (a :: tl))[0] = a := rfl
theorem tx_cut1 (a : UInt8) (t : List UInt8) (n : Nat) (h : (a :: t).length = n) : (tx (a :: t)).extract 1 n = tx t := by
  unfold tx
  rw [ByteArray.extract_mk]
  subst h
  simp

set_option maxHeartbeats 16000000 in
theorem sections_any (ls : List (List UInt8)) (h10 : ∀ l ∈ ls, 10 ∉ l) (A : Option Addr) (n c B : Nat) (hn : (joinN ls).length = n) (hs : n ≤ 1500) (w : World) (hA : Seen w B 1 A n c (Lib.byteCells (joinN ls))) (hB : B ≤ w.heap.size) :
    Calls Tryd.prog 25 #[.slice A n c] w (GivesSecs w (dsL [] false (ls.map cR))) := by
  have LC := Lib.hid (lines_any ((joinN ls).map UInt8.toNat) (fun x hx => by obtain ⟨b, _, rfl⟩ := List.mem_map.1 hx; exact UInt8.toNat_lt b) A n c B (by simpa using hn) (by omega) w (by rw [bytes_nat]; exact hA) hB)
  rw [lines_eq h10] at LC
  unfold GivesLines at LC
  rw [tsv_eq] at LC
  have hL1 := (joinN_len ls).1
  have hL2 : ∀ l ∈ ls.map cR, l.length ≤ 100000 := by
    intro l hl
    obtain ⟨x, hx, rfl⟩ := List.mem_map.1 hl
    have h1 := cR_len x
    have h2 := (joinN_len ls).2 x hx
    omega
  have hL3 : (ls.map cR).length ≤ 1500 := by rw [List.length_map]; omega
  obtain ⟨L, hL⟩ : ∃ L, ls.map cR = L := ⟨_, rfl⟩
  rw [hL] at LC hL2 hL3 ⊢
  obtain ⟨N, hN⟩ : ∃ N, L.length = N := ⟨_, rfl⟩
  rw [List.length_map, hN] at LC
  rw [hN] at hL3
  have HL2 := Lib.hid hL2
  have HN := Lib.hid hN
  clear hA hL hL1 hL2 hN hn hs h10
  obtain ⟨i0, hi0, hz0, hz1, hz2⟩ := info_parts str_info
  obtain ⟨i1, hi1, hy0, hy1, hy2⟩ := info_parts slice38_info
  go_enter Tryd.func25, Tryd.ntmps25
  go_wp2_with (go_at_call 41; refine LC.out.mono ?_; rintro e wl ⟨v, rfl, ho, hbl⟩; obtain ⟨A1, c1, rfl, _⟩ := own_form ho; have SL := Lib.hid (Seen.of_own ho); have BL := Lib.hid hbl; clear ho hbl)
  go_loopg [4, 5, 12] N (fun j v4 v5 v wr => ∃ (k : Nat) (out : Secs) (rows : List Value) (o : Bool), k ≤ N ∧ j = N - k ∧ v = .int .i64 k ∧ v5 = .bool o ∧ Below wl.heap.size wl wr ∧ RRow wr wl.heap.size v4 rows out ∧
    (o = true → ∃ init mid z, out = init ++ [mid ++ [z]]) ∧ Fit k out ∧ dsL [] false L = dsL out o (L.drop k))
  case atStart => exact ⟨0, [], [], false, by omega, rfl, rfl, rfl, Below.refl _ _, RRow.nil _ _, fun h => (by cases h), ⟨Nat.le_refl _, fun s h => (by cases h)⟩, rfl⟩
  case round =>
    obtain ⟨k, out, rows, o, hk, rfl, rfl, rfl, hb, hR, ho, hF, hD⟩ := hrel
    obtain ⟨wo, rfl⟩ : ∃ W, W = wr := ⟨_, rfl⟩
    obtain ⟨vo, rfl⟩ : ∃ V, V = u4 := ⟨_, rfl⟩
    have BO := Lib.hid hb
    have RO := Lib.hid hR
    have FO := Lib.hid hF
    obtain ⟨A4, c4, rfl, _⟩ := own_form hR.2.1
    have hol : out.length ≤ k := hF.1
    by_cases hlt : k < N
    · have hkl : k < L.length := by have := HN.out; omega
      obtain ⟨b7, o7, u7, rfl, _, hu7, hc7⟩ := (SL.out.below BO.out).at hlt
      obtain ⟨l, hl⟩ : ∃ l, L[k] = l := ⟨_, rfl⟩
      obtain rfl : u7 = .string (tx l) := by
        have h := lsv_get L k hkl
        rw [hl] at h
        exact (Option.some.inj (h.symm.trans hu7)).symm
      have hD2 : L.drop k = l :: L.drop (k + 1) := by rw [List.drop_eq_getElem_cons hkl, hl]
      rw [hD2] at hD
      have hlb : l.length ≤ 100000 := by rw [← hl]; exact HL2.out _ (List.getElem_mem hkl)
      obtain ⟨t, ht⟩ : ∃ t, l.length = t := ⟨_, rfl⟩
      have hts : (tx l).size = t := by rw [tx_size, ht]
      rw [ht] at hlb
      have HD := Lib.hid hD
      have HO := Lib.hid ho
      have d0 : decide ((k : Int) < (N : Int)) = true := by rw [decide_eq_true_iff]; omega
      clear hu7 hl hD hD2 ho hR hb hF
      by_cases h72 : 72 < t
      · have d1 : decide ((72 : Int) < (t : Int)) = true := by rw [decide_eq_true_iff]; omega
        have hr : dsL [] false L = (3, []) := by rw [HD.out, dsL, if_pos (by omega)]
        have HR := Lib.hid hr
        clear hr
        go_wp2_with fail
        go_ret2
        rw [HR.out]
        exact ⟨_, [], rfl, BL.out.trans (BO.out.mono BL.out.size), fun _ => rfl, fun h => (by cases h)⟩
      have d1 : decide ((72 : Int) < (t : Int)) = false := by rw [decide_eq_false_iff_not]; omega
      cases l with
      | nil =>
        have he : (tx []).toList.isEmpty = true := by rw [ba_empty, tx_size]; rfl
        have hr : dsL [] false L = dsL out false (L.drop (k + 1)) := by rw [HD.out, dsL, if_neg (by simp), if_pos rfl]
        have HR := Lib.hid hr
        clear hr
        go_wp2_with fail
        go_roundg (N - (k + 1))
        case measure => omega
        case rel => exact ⟨k + 1, out, rows, false, by omega, rfl, by go_num, rfl, BO.out, RO.out, fun h => (by cases h), FO.out.up, HR.out⟩
      | cons a tl =>
        have ht0 : 0 < t := by rw [← ht]; simp
        have hne : ¬ a :: tl = [] := by simp
        have he : (tx (a :: tl)).toList.isEmpty = false := by rw [ba_empty, tx_size, ht, decide_eq_false_iff_not]; omega
        have hat := tx_zero a tl (by rw [hts]; exact ht0)
        have h72' : ¬ 72 < (a :: tl).length := by rw [ht]; exact h72
        have htl : tl.length ≤ 72 := by simp only [List.length_cons] at ht; omega
        have HT := Lib.hid ht
        clear ht
        by_cases ha : a = 32
        · subst ha
          have d3 : ((((tx (32 :: tl))[0]'(by rw [hts]; exact ht0)).toNat : Int) == 32) = true := by rw [hat]; rfl
          cases o with
          | false =>
            have hr : dsL [] false L = (2, []) := by rw [HD.out, dsL, if_neg h72', if_neg hne, if_pos ⟨rfl, rfl⟩]
            have HR := Lib.hid hr
            clear hr hat hne
            go_wp2_with fail
            go_ret2
            rw [HR.out]
            exact ⟨_, [], rfl, BL.out.trans (BO.out.mono BL.out.size), fun _ => rfl, fun h => (by cases h)⟩
          | true =>
            obtain ⟨init, mid, z, rfl⟩ := HO.out rfl
            have hr : dsL [] false L = dsL (init ++ [mid ++ [z ++ tl]]) true (L.drop (k + 1)) := by
              rw [HD.out, dsL, if_neg h72', if_neg hne, if_neg (fun h => by cases h.2), if_pos (show (32 :: tl).head? = some 32 from rfl), List.tail_cons, glue_eq]
            have HR := Lib.hid hr
            obtain ⟨rowsI, u, rfl, hrl, h9⟩ := RO.out.last
            have h38 := RO.out.2.1
            have hzb : z.length ≤ 72 * k := (FO.out.2 (mid ++ [z]) (by simp)).2 z (by simp)
            have hqb : (mid ++ [z]).length ≤ k := (FO.out.2 (mid ++ [z]) (by simp)).1
            obtain ⟨P, hP⟩ : ∃ P, (init ++ [mid ++ [z]]).length = P := ⟨_, rfl⟩
            obtain ⟨Q, hQ⟩ : ∃ Q, (mid ++ [z]).length = Q := ⟨_, rfl⟩
            obtain ⟨I, hI⟩ : ∃ I, init.length = I := ⟨_, rfl⟩
            obtain ⟨M, hM⟩ : ∃ M, mid.length = M := ⟨_, rfl⟩
            have hPI : P = I + 1 := by rw [← hP, ← hI]; simp
            have hQM : Q = M + 1 := by rw [← hQ, ← hM]; simp
            have RO2 := RO.out
            rw [hP] at h38 hol RO2 ⊢
            rw [hQ] at h9 hqb
            rw [hI] at hrl
            obtain ⟨gv, cv, e, hcv, _⟩ := own_pos h38 (by omega)
            obtain ⟨rfl, _, rfl⟩ := Value.slice.inj e
            obtain ⟨gu, cu, rfl, hcu, _⟩ := own_pos h9 (by omega)
            have HRO := Lib.hid RO2
            have q1 : (P : Int) - 1 = (I : Int) := by omega
            have q2 : (Q : Int) - 1 = (M : Int) := by omega
            have cV : wo.cell? ⟨gv, I, none⟩ = some (.slice (some ⟨gu, 0, none⟩) Q cu) := by
              rw [h38.cellAt I (by omega), List.getElem?_append_right (by omega), hrl, Nat.sub_self]; rfl
            have q3 : IntKind.i64.wrap ((Q : Int) - 1) = (M : Int) := by rw [q2]; exact IntWalk.i64_in _ (by omega)
            have q7 : IntKind.i64.wrap (M : Int) = (M : Int) := IntWalk.i64_in _ (by omega)
            have q4 : (0 : Int) ≤ (M : Int) := by omega
            have q5 : (M : Int) < (Q : Int) := by omega
            have q6 : (1 : Int) ≤ (t : Int) := by omega
            have cU : wo.drew.cell? ⟨gu, M, none⟩ = some (.string (tx z)) := by
              show wo.cell? ⟨gu, M, none⟩ = _
              rw [h9.cellAt M (by omega), ← hM, lsv_at]
            have fU : wo.drew.frozen? ⟨gu, M, none⟩ = false := h9.frozenAt M
            have hx := tx_cut1 32 tl t HT.out
            have hadd := run_string_add_sum (P := Tryd.prog) (w := wo.drew) (tx z) (tx tl) (by rw [tx_size, tx_size]; omega)
            rw [tx_app] at hadd
            have H9 := Lib.hid h9
            have H38 := Lib.hid h38
            have HRL := Lib.hid hrl
            have HIM := Lib.hid (And.intro hI hM)
            have HPQ := Lib.hid (And.intro hPI hQM)
            clear hr hat hne h9 h38 hrl e hP hQ hI hM hPI hQM RO2
            go_upto_region 15 with fail
            refine wp_region_still_tail 14 (by kernel_rfl) (by kernel_rfl) ?_
            simp only [List.take_succ_cons, List.take_zero, List.drop_succ_cons, List.drop_zero]
            repeat still_step
            refine wpStill_nil ?_
            go_wp2_with fail
            have O5 : Only (fun j => j = gu) wo (wo.setCell ⟨gu, M, none⟩ (.string (tx (z ++ tl)))).drew := ((Only.refl (fun j => j = gu) wo).setCell (p := ⟨gu, M, none⟩) (.inl rfl) _).drew
            have B5 : Below wl.heap.size wo (wo.setCell ⟨gu, M, none⟩ (.string (tx (z ++ tl)))).drew := O5.below BO.out.size (fun j hj => hj ▸ (own_whole H9.out rfl).1)
            have G9 : ((wo.setCell ⟨gu, M, none⟩ (.string (tx (z ++ tl)))).drew).ownsRow wl.heap.size 9 1 (.slice (some ⟨gu, 0, none⟩) Q cu) (mid ++ [z ++ tl]).length (lsv (mid ++ [z ++ tl])) := by
              have h := (H9.out.stored M (.string (tx (z ++ tl)))).1
              rw [← lsv_set mid z, HIM.out.2, show (mid ++ [z ++ tl]).length = Q by rw [HPQ.out.2, ← HIM.out.2]; simp]
              exact h
            have G38 : ((wo.setCell ⟨gu, M, none⟩ (.string (tx (z ++ tl)))).drew).ownsRow wl.heap.size 38 1 (.slice (some ⟨gv, 0, none⟩) P c4) (init.length + 1) (rowsI ++ [.slice (some ⟨gu, 0, none⟩) Q cu]) := by
              rw [show init.length + 1 = P by rw [HPQ.out.1, HIM.out.1]]
              exact own_only H38.out O5 (fun j hj hj2 => own_ne_own H38.out H9.out (by decide) j hj (by rw [hj2]; rfl))
            have GG := Lib.hid (HRO.out.change G9 G38 (O5.mono (fun j _ h => .inl (by rw [h]; rfl))) (.inl rfl))
            clear O5 G9 G38
            go_roundg (N - (k + 1))
            case measure => omega
            case rel => exact ⟨k + 1, _, _, true, by omega, rfl, by go_num, rfl, BO.out.trans B5, GG.out, fun _ => ⟨init, mid, _, rfl⟩, FO.out.glue htl, HR.out⟩
        · have d3 : ((((tx (a :: tl))[0]'(by rw [hts]; exact ht0)).toNat : Int) == 32) = false := by
            rw [hat, beq_eq_false_iff_ne]
            intro e
            exact ha (UInt8.toNat_inj.1 (by have e2 : a.toNat = 32 := by omega
                                            rw [e2]; rfl))
          have hb : (a :: tl).head? ≠ some 32 := by simpa using ha
          have hll : (a :: tl).length ≤ 72 := by omega
          cases o with
          | false =>
            have hr : dsL [] false L = dsL (out ++ [[a :: tl]]) true (L.drop (k + 1)) := by
              rw [HD.out, dsL, if_neg h72', if_neg hne, if_neg (fun h => hb h.1), if_neg hb, if_pos rfl]
            have HR := Lib.hid hr
            have W2 := Lib.hid ((((Only.refl Nob wo).alloc (.cells #[.string (tx (a :: tl))] 9))).alloc (.cells #[.slice (some ⟨wo.heap.size, 0, none⟩) 1 1] 38))
            have HO2 := Lib.hid (own_only RO.out.2.1 W2.out (fun _ _ h => h))
            have hss := seen_one (wo.alloc (.cells #[.string (tx (a :: tl))] 9)) 38 (.slice (some ⟨wo.heap.size, 0, none⟩) 1 1)
            rw [World.size_alloc] at hss
            have HS := Lib.hid hss
            have hbo := BO.out.size
            clear hr hat hne hss hb
            go_wp2_with (at_builtin; refine wpList_append_seen _ rfl (.tmp 72) (.tmp 75) _ rfl wl.heap.size 38 i1 _ 1 24 Tryd.underlying51 hi1 hy0 hy1 hy2 rfl (by omega) (.slice A4 out.length c4) out.length rows rfl HO2.out (wo.heap.size + 1 + 1) (some ⟨wo.heap.size + 1, 0, none⟩) 1 1 [.slice (some ⟨wo.heap.size, 0, none⟩) 1 1] rfl HS.out (by intro u hu; simp at hu; subst hu; rfl) (by simp [maxLen]; omega) (by omega) (by simp; omega) ?_; intro v2 w2 ho2 hg2 hv2; obtain ⟨A2, c2, rfl, _⟩ := own_form ho2; have HH := Lib.hid (And.intro ho2 hg2); clear ho2 hg2 hv2)
            obtain ⟨g1, g2⟩ := HH.out
            have hvk : ∀ j, (Value.slice A4 out.length c4).ownBlock = some j → wl.heap.size ≤ j := fun j hj => (own_whole RO.out.2.1 hj).1
            have B5 : Below wl.heap.size wo w2 := (((Below.refl _ wo).alloc hbo _).alloc (by simp; omega) _).grown g2 (by simp; omega) hvk
            have GG := Lib.hid (RO.out.push (l := a :: tl) hbo g1 g2)
            have HB5 := Lib.hid B5
            clear g1 g2 B5
            go_roundg (N - (k + 1))
            case measure => omega
            case rel => exact ⟨k + 1, _, _, true, by omega, rfl, by go_num, rfl, BO.out.trans HB5.out, GG.out, fun _ => ⟨out, [], _, rfl⟩, FO.out.push hll, HR.out⟩
          | true =>
            obtain ⟨init, mid, z, rfl⟩ := HO.out rfl
            have hr : dsL [] false L = dsL (init ++ [mid ++ [z] ++ [a :: tl]]) true (L.drop (k + 1)) := by
              rw [HD.out, dsL, if_neg h72', if_neg hne, if_neg (fun h => hb h.1), if_neg hb, if_neg (by simp), addL_eq]
            have HR := Lib.hid hr
            obtain ⟨rowsI, u, rfl, hrl, h9⟩ := RO.out.last
            have h38 := RO.out.2.1
            have hzb : z.length ≤ 72 * k := (FO.out.2 (mid ++ [z]) (by simp)).2 z (by simp)
            have hqb : (mid ++ [z]).length ≤ k := (FO.out.2 (mid ++ [z]) (by simp)).1
            obtain ⟨P, hP⟩ : ∃ P, (init ++ [mid ++ [z]]).length = P := ⟨_, rfl⟩
            obtain ⟨Q, hQ⟩ : ∃ Q, (mid ++ [z]).length = Q := ⟨_, rfl⟩
            obtain ⟨I, hI⟩ : ∃ I, init.length = I := ⟨_, rfl⟩
            obtain ⟨M, hM⟩ : ∃ M, mid.length = M := ⟨_, rfl⟩
            have hPI : P = I + 1 := by rw [← hP, ← hI]; simp
            have hQM : Q = M + 1 := by rw [← hQ, ← hM]; simp
            have RO2 := RO.out
            rw [hP] at h38 hol RO2 ⊢
            rw [hQ] at h9 hqb
            rw [hI] at hrl
            obtain ⟨gv, cv, e, hcv, _⟩ := own_pos h38 (by omega)
            obtain ⟨rfl, _, rfl⟩ := Value.slice.inj e
            obtain ⟨gu, cu, rfl, hcu, _⟩ := own_pos h9 (by omega)
            have HRO := Lib.hid RO2
            have q1 : (P : Int) - 1 = (I : Int) := by omega
            have q2 : (Q : Int) - 1 = (M : Int) := by omega
            have cV : wo.cell? ⟨gv, I, none⟩ = some (.slice (some ⟨gu, 0, none⟩) Q cu) := by
              rw [h38.cellAt I (by omega), List.getElem?_append_right (by omega), hrl, Nat.sub_self]; rfl
            have H9 := Lib.hid h9
            have H38 := Lib.hid h38
            have HRL := Lib.hid hrl
            have HIM := Lib.hid (And.intro hI hM)
            have HPQ := Lib.hid (And.intro hPI hQM)
            have W1 : Hid (Only Nob wo (wo.alloc (.cells #[.string (tx (a :: tl))] 9))) := Lib.hid ((Only.refl Nob wo).alloc _)
            have HO2 := Lib.hid (own_only h9 W1.out (fun _ _ h => h))
            have HO3 := Lib.hid (own_only h38 W1.out (fun _ _ h => h))
            have HS := Lib.hid (seen_one wo 9 (.string (tx (a :: tl))))
            have hbo := BO.out.size
            have HGV : Hid (I < P) := Lib.hid (by omega)
            clear hr hat hne hb h9 h38 hrl e hP hQ hI hM hPI hQM RO2
            go_wp2_with (at_builtin; refine wpList_append_seen _ rfl (.tmp 25) (.tmp 27) _ rfl wl.heap.size 9 i0 _ 1 16 Tryd.underlying38 hi0 hz0 hz1 hz2 rfl (by omega) (.slice (some ⟨gu, 0, none⟩) Q cu) Q (lsv (mid ++ [z])) rfl HO2.out (wo.heap.size + 1) (some ⟨wo.heap.size, 0, none⟩) 1 1 [.string (tx (a :: tl))] rfl HS.out (by intro u hu; simp at hu; subst hu; rfl) (by simp [maxLen]; omega) (by omega) (by simp; omega) ?_; intro v2 w2 ho2 hg2 hv2; obtain ⟨A2, c2, rfl, _⟩ := own_form ho2; have HX := Lib.hid (own_only HO3.out ((Only.refl (fun j => (Value.slice (some ⟨gu, 0, none⟩) Q cu).ownBlock = some j) _).grown hg2 (fun j hj _ => hj)) (fun j hj hj2 => own_ne_own HO3.out HO2.out (by decide) j hj hj2)); have cV2 := HX.out.cellAt I (by have := HGV.out; omega); rw [List.getElem?_append_right (by have := HRL.out; omega), HRL.out, Nat.sub_self, List.getElem?_cons_zero] at cV2; have fV2 := HX.out.frozenAt I; have HH := Lib.hid (And.intro ho2 (And.intro hg2 hv2)); clear ho2 hg2 hv2)
            obtain ⟨g1, g2, g3⟩ := HH.out
            have O4 : Only (fun j => j = gu) wo w2 := (W1.out.mono (fun _ _ h => h.elim)).trans ((Only.refl _ _).grown g2 (fun j hj _ => by simpa [Value.ownBlock] using hj.symm))
            have O5 : Only (fun j => j = gv) w2 (w2.setCell ⟨gv, I, none⟩ (.slice A2 (Q + 1) c2)) := (Only.refl (fun j => j = gv) w2).setCell (p := ⟨gv, I, none⟩) (.inl rfl) _
            have O6 : Only (fun j => j = gu ∨ j = gv) wo (w2.setCell ⟨gv, I, none⟩ (.slice A2 (Q + 1) c2)) := (O4.mono (fun _ _ h => .inl h)).trans (O5.mono (fun _ _ h => .inr h))
            have B5 : Below wl.heap.size wo (w2.setCell ⟨gv, I, none⟩ (.slice A2 (Q + 1) c2)) := O6.below hbo (fun j hj => by
              rcases hj with rfl | rfl
              · exact (own_whole H9.out rfl).1
              · exact (own_whole H38.out rfl).1)
            have G9 : (w2.setCell ⟨gv, I, none⟩ (.slice A2 (Q + 1) c2)).ownsRow wl.heap.size 9 1 (.slice A2 (Q + 1) c2) (mid ++ [z] ++ [a :: tl]).length (lsv (mid ++ [z] ++ [a :: tl])) := by
              rw [lsv_snoc (mid ++ [z]), show (mid ++ [z] ++ [a :: tl]).length = Q + 1 by rw [HPQ.out.2, ← HIM.out.2]; simp]
              exact own_only g1 O5 (fun j hj hj2 => own_ne_own g1 HX.out (by decide) j hj (by rw [hj2]; rfl))
            have G38 : (w2.setCell ⟨gv, I, none⟩ (.slice A2 (Q + 1) c2)).ownsRow wl.heap.size 38 1 (.slice (some ⟨gv, 0, none⟩) P c4) (init.length + 1) (rowsI ++ [.slice A2 (Q + 1) c2]) := by
              have h := (HX.out.stored I (.slice A2 (Q + 1) c2)).1
              rw [← HRL.out, List.set_append_right _ _ (Nat.le_refl _), Nat.sub_self, List.set_cons_zero, HRL.out] at h
              rw [show init.length + 1 = P by rw [HPQ.out.1, HIM.out.1]]
              exact h
            have GG := Lib.hid (HRO.out.change G9 G38 (O6.mono (fun j _ h => by
              rcases h with h | h
              · exact .inl (by rw [h]; rfl)
              · exact .inr (by rw [h]; rfl))) (by
                rcases g3 with g3 | g3
                · exact .inl g3
                · exact .inr (fun j hj => by rw [g3] at hj; injection hj with hj; simp at hj; omega)))
            have HB5 := Lib.hid B5
            clear O4 O5 O6 G9 G38 B5 g1 g2 g3
            go_roundg (N - (k + 1))
            case measure => omega
            case rel => exact ⟨k + 1, _, _, true, by omega, rfl, by go_num, rfl, BO.out.trans HB5.out, GG.out, fun _ => ⟨init, mid ++ [z], _, rfl⟩, FO.out.add hll, HR.out⟩
    · obtain rfl : k = N := by omega
      have hr : dsL [] false L = (0, out) := by rw [hD, List.drop_eq_nil_of_le (by have := HN.out; omega), dsL]
      have d0 : decide ((k : Int) < (k : Int)) = false := by rw [decide_eq_false_iff_not]; omega
      go_wp2_with fail
      go_ret2
      rw [hr]
      exact ⟨_, rows, rfl, BL.out.trans (hb.mono BL.out.size), fun h => absurd rfl h, fun _ => ⟨hR.base BL.out.size, k, by omega, hF⟩⟩
end Go.Proofs.YteadhiehhpafjaaDoor
