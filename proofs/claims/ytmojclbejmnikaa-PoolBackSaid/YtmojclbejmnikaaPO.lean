/-
  The program's Bytes of a pool. Conditions: a pool in memory, of at most a hundred thousand constants, texts of at most as many bytes.
-/
import Derived.Test.YtmojclbejmnikaaPN
import Derived.Test.YtmojclbejmnikaaPH
import Derived.Deep.MidRow
namespace Go.Proofs.Ytmojclbejmnikaa
open Go Go.RowKit
set_option maxRecDepth 100000

theorem neq_nil_iface (V : Value) (r : Raw) (h : ifc r = V) (w : World) : (binOp .neq 64 V .nilIface).run Try.prog w = .ok (.bool (!decide (formM r.tag = 0))) w := by
  subst h
  have f : ∀ k : Int, r.tag = k → formM k ≠ 0 → decide (formM r.tag = 0) = false := fun k h g => decide_eq_false (by rw [h]; exact g)
  rcases ifc_cases r with ⟨h, e⟩ | ⟨h, e⟩ | ⟨h, e⟩ | ⟨h, e⟩ | ⟨h, e⟩ | ⟨h, e⟩ | ⟨h, e⟩ | ⟨h, e⟩ <;> rw [e]
  · rw [f 1 h (by decide)]; rfl
  · rcases h with h | h
    · rw [f 3 h (by decide)]; rfl
    · rw [f 4 h (by decide)]; rfl
  · rcases h with h | h
    · rw [f 5 h (by decide)]; rfl
    · rw [f 6 h (by decide)]; rfl
  · rw [f 7 h (by decide)]; rfl
  · rw [f 8 h (by decide)]; rfl
  · rcases h with h | h | h
    · rw [f 9 h (by decide)]; rfl
    · rw [f 10 h (by decide)]; rfl
    · rw [f 11 h (by decide)]; rfl
  · rw [f 12 h (by decide)]; rfl
  · rw [decide_eq_true h]; rfl

/-! A slice from a place on. -/
theorem rv_drop (l : List Raw) (q : Nat) : (rv l).drop (q * 5) = rv (l.drop q) := by
  induction q generalizing l with
  | zero => simp
  | succ q ih =>
    cases l with
    | nil => simp [rv]
    | cons x l =>
      have e : rv (x :: l) = rawC x ++ rv l := rfl
      rw [e, List.drop_append, show (q + 1) * 5 - (rawC x).length = q * 5 by simp [rawC]; omega, List.drop_of_length_le (by simp [rawC]; omega), List.nil_append, ih]; rfl
theorem Seen.rawFrom {w : World} {B : Nat} {A : Option Addr} {len c q : Nat} {l : List Raw} (h : Seen w B 5 A len c (rv l)) (hq : q ≤ len) : Seen w B 5 (if c = q then A else A.map (·.add (q * 5))) (len - q) (c - q) (rv (l.drop q)) := by
  rw [← rv_drop]
  obtain ⟨h1, h2, h3⟩ := h
  refine ⟨by rw [List.length_drop, h1]; omega, by omega, ?_⟩
  rcases h3 with ⟨rfl, rfl⟩ | ⟨⟨b, o, s⟩, rfl, h3⟩
  · exact .inl ⟨by simp, by omega⟩
  · by_cases hc : c = q
    · rw [if_pos hc]
      refine .inr ⟨_, rfl, fun hx => ?_⟩
      exfalso; apply hx; apply List.drop_eq_nil_of_le; omega
    · rw [if_neg hc]
      refine .inr ⟨_, rfl, fun hx => ?_⟩
      obtain ⟨g1, g2, g3⟩ := h3 (by intro e; rw [e] at hx; simp at hx)
      simp only at g1 g2 g3
      subst g1
      simp only [Addr.add_lit]
      refine ⟨trivial, g2, fun j u hu => ?_⟩
      rw [Nat.add_assoc]
      exact g3 _ _ (by rw [List.getElem?_drop] at hu; exact hu)
theorem slice_raw (A : Option Addr) (n c m : Nat) (h : m ≤ n) (w : World) : (Instr.slice 30 (.slice A n c) (some (.int .i64 (m : Int))) none none).run Try.prog w = .ok (.slice (if c = m then A else A.map (·.add (m * 5))) (n - m) (c - m)) w := by
  have h0 : (0 : Int) ≤ (m : Int) := by omega
  have h1 : (m : Int) ≤ (n : Int) := by omega
  have e : ((m : Int)).toNat = m := by omega
  have ht : Try.prog.underlying 30 = some (.slice (Try.prog.elem 30)) := by kernel_rfl
  rw [run_slice_l w 30 A n c ht .i64 _ h0 h1, e, show Try.prog.elem 30 = 47 by kernel_rfl]
  rw [Try.sizeOf47]
  rfl
theorem slice_raw2 (A : Option Addr) (n c m : Nat) (h : m ≤ n) (w : World) : (Instr.sliceAt 30 (.slice A n c) (some (.int .i64 (m : Int))) none none).run Try.prog w = .ok (.slice (if c = m then A else A.map (·.add (m * 5))) (n - m) (c - m)) w := by
  have ht : Try.prog.underlying 30 = some (.slice (Try.prog.elem 30)) := by kernel_rfl
  rw [run_sliceAt_slice w 30 _ _ _ _ ht, slice_raw A n c m h w]

/-- What stands behind a constant's tag. -/
def restB (r : Raw) : List Nat :=
  if formM r.tag = 116 then beN r.text.size 2 ++ txN r.text
  else if formM r.tag = 52 then beN r.bits 4
  else if formM r.tag = 56 then beN r.bits 8
  else if formM r.tag = 97 then beN (u64N r.a) 2
  else beN (u64N r.a) 2 ++ beN (u64N r.b) 2
theorem rawB_rest (r : Raw) (h : formM r.tag ≠ 0) : rawB r = (r.tag % 256).toNat :: restB r := by unfold rawB restB; rw [if_neg h]
theorem restB_len (r : Raw) (h : r.text.size ≤ 100000) : (restB r).length ≤ 100002 := by
  unfold restB
  split
  · rw [List.length_append, beN_len, txN_len]; omega
  · split
    · rw [beN_len]; omega
    · split
      · rw [beN_len]; omega
      · split
        · rw [beN_len]; omega
        · rw [List.length_append, beN_len, beN_len]; omega
theorem raws_len2 : ∀ (l : List Raw), (∀ r ∈ l, r.text.size ≤ 100000) → (l.flatMap rawB).length ≤ 100003 * l.length
  | [], _ => by simp
  | r :: l, h => by
    have h1 : (rawB r).length ≤ 100003 := by
      by_cases hf : formM r.tag = 0
      · unfold rawB; rw [if_pos hf]; simp
      · rw [rawB_rest r hf, List.length_cons]; have := restB_len r (h r (by simp)); omega
    have h2 := raws_len2 l (fun x hx => h x (by simp [hx]))
    rw [List.flatMap_cons, List.length_append, List.length_cons]; omega

set_option maxHeartbeats 16000000 in
theorem pbytes_any (l : List Raw) (A : Option Addr) (n c B : Nat) (hn : l.length = n) (hs : n ≤ 100000) (ht : ∀ r ∈ l, r.text.size ≤ 100000) (w : World) (hA : Seen w B 5 A n c (rv l)) (hB : B ≤ w.heap.size) :
    Calls Try.prog 16 #[.slice A n c] w (GivesB w (bytesM l).length (bytesM l)) := by
  obtain ⟨i0, hi0, hz0, hz1, hz2⟩ := info_parts byte_info
  have TW := Lib.hid (two_any n w)
  rw [u64_nat (by omega)] at TW
  obtain ⟨m, hm⟩ : ∃ m, min n 1 = m := ⟨_, rfl⟩
  have hmn : m ≤ n := by omega
  have hminA : (if (n : Int) ≤ 1 then (n : Int) else 1) = (m : Int) := by split <;> omega
  have hminB : (if (1 : Int) < (n : Int) then (1 : Int) else (n : Int)) = (m : Int) := by split <;> omega
  have hminC : (if (n : Int) < 1 then (n : Int) else 1) = (m : Int) := by split <;> omega
  have hminD : (if n ≤ 1 then (n : Int) else 1) = (m : Int) := by split <;> omega
  have hminE : (if 1 < n then (1 : Int) else (n : Int)) = (m : Int) := by split <;> omega
  have hdl : l.drop 1 = l.drop m := by
    by_cases h : n = 0
    · have : l = [] := List.eq_nil_of_length_eq_zero (by omega)
      subst this; simp
    · congr 1; omega
  have SL := slice_raw A n c m hmn
  have SL2 := slice_raw2 A n c m hmn
  have HA2 := Lib.hid (hA.rawFrom (q := m) hmn)
  obtain ⟨A2, hA2⟩ : ∃ A2, (if c = m then A else A.map (·.add (m * 5))) = A2 := ⟨_, rfl⟩
  obtain ⟨n2, hn2⟩ : ∃ n2, n - m = n2 := ⟨_, rfl⟩
  obtain ⟨c2, hc2⟩ : ∃ c2, c - m = c2 := ⟨_, rfl⟩
  obtain ⟨l2, hl2⟩ : ∃ l2, l.drop m = l2 := ⟨_, rfl⟩
  rw [hA2, hn2, hc2] at SL SL2 HA2
  rw [hl2] at HA2
  have hln : l2.length = n2 := by rw [← hl2, List.length_drop, hn, hn2]
  have ht2 : ∀ r ∈ l2, r.text.size ≤ 100000 := fun r hr => ht r (by rw [← hl2] at hr; exact List.mem_of_mem_drop hr)
  obtain ⟨U0, hU0⟩ : ∃ U, beN n 2 = U := ⟨_, rfl⟩
  have hU0l : U0.length = 2 := by rw [← hU0, beN_len]
  have HR : Hid (bytesM l = U0 ++ l2.flatMap rawB) := Lib.hid (by unfold bytesM; rw [hn, hdl, hl2, hU0])
  rw [hU0] at TW
  have H1 := Lib.hid (And.intro hm (And.intro hdl (And.intro hA2 (And.intro hn2 (And.intro hc2 hl2)))))
  have hs2 : n2 ≤ 100000 := by omega
  have hmp : (m : Int) ≤ (n : Int) := by omega
  clear hm hdl hA2 hn2 hc2 hl2 ht hA
  go_enter Try.func16, Try.ntmps16
  go_wp2_with fail
  refine TW.out.mono ?_
  rintro e w1 ⟨A1, c1, rfl, h0, o1, b1⟩
  have O1 := Lib.hid o1
  have B1 := Lib.hid b1
  clear o1 b1
  go_wp2_with fail
  clear hminA hminB hminC hminD hminE SL SL2 hmp
  go_loopg [3, 16] n2 (fun j v3 v wr => ∃ k : Nat, k ≤ n2 ∧ j = n2 - k ∧ v = .int .i64 k ∧ wr.ownsRow w.heap.size 5 1 v3 (U0 ++ (l2.take k).flatMap rawB).length (bv (U0 ++ (l2.take k).flatMap rawB)) ∧ Below w.heap.size w wr)
  case atStart => exact ⟨0, by omega, rfl, rfl, (by rw [List.take_zero, List.flatMap_nil, List.append_nil, hU0l]; exact O1.out), B1.out⟩
  case round =>
    obtain ⟨k, hk, rfl, rfl, ho, hbl⟩ := hrel
    obtain ⟨wo, rfl⟩ : ∃ W, W = wr := ⟨_, rfl⟩
    obtain ⟨U, hU⟩ : ∃ U, U0 ++ (l2.take k).flatMap rawB = U := ⟨_, rfl⟩
    rw [hU] at ho
    obtain ⟨P, hP⟩ : ∃ P, U.length = P := ⟨_, rfl⟩
    rw [hP] at ho
    obtain ⟨A3, c3, rfl, _⟩ := own_form ho
    have HB := Lib.hid hbl
    have HO := Lib.hid ho
    have HU := Lib.hid hU
    have hPl : P ≤ 2 + 100003 * k := by
      have h1 := raws_len2 (l2.take k) (fun r hr => ht2 r (List.mem_of_mem_take hr))
      have h2 : (l2.take k).length ≤ k := by rw [List.length_take]; omega
      rw [← hP, ← hU, List.length_append, hU0l]; omega
    have HP := Lib.hid hP
    clear hbl ho hU hP
    by_cases hlt : k < n2
    · have hkl : k < l2.length := by omega
      have d0 : decide ((k : Int) < (n2 : Int)) = true := by rw [decide_eq_true_iff]; omega
      obtain ⟨bb, oo, rfl, hbb, hc⟩ := (HA2.out.below (HB.out.mono hB)).raw hkl hln
      have htx := ht2 _ (List.getElem_mem hkl)
      obtain ⟨r, hr⟩ : ∃ r, l2[k] = r := ⟨_, rfl⟩
      have HST : Hid (U0 ++ (l2.take (k + 1)).flatMap rawB = U ++ rawB r) := Lib.hid (by rw [take_next l2 k hkl, hr, List.flatMap_append, ← HU.out, List.append_assoc]; simp)
      rw [hr] at hc htx
      have m0 : wo.cell? ⟨bb, oo + k * 5, none⟩ = some (.int .i64 r.tag) := hc 0 _ rfl
      have m1 : wo.cell? ⟨bb, oo + k * 5 + 1, none⟩ = some (.string r.text) := by rw [Nat.add_assoc]; exact hc 1 _ rfl
      have m2 : wo.cell? ⟨bb, oo + k * 5 + 2, none⟩ = some (.int .u64 r.bits) := by rw [Nat.add_assoc]; exact hc 2 _ rfl
      have m3 : wo.cell? ⟨bb, oo + k * 5 + 3, none⟩ = some (.int .i64 r.a) := by rw [Nat.add_assoc]; exact hc 3 _ rfl
      have m4 : wo.cell? ⟨bb, oo + k * 5 + 4, none⟩ = some (.int .i64 r.b) := by rw [Nat.add_assoc]; exact hc 4 _ rfl
      clear hc
      obtain ⟨w2, hw2⟩ : ∃ W, wo.alloc (.cells #[.int .i64 r.tag, .string r.text, .int .u64 r.bits, .int .i64 r.a, .int .i64 r.b] 47) = W := ⟨_, rfl⟩
      obtain ⟨gq, hgq⟩ : ∃ q, wo.heap.size = q := ⟨_, rfl⟩
      have P1 : Hid (Whole w2 gq 47 (rawA r)) := Lib.hid (hw2 ▸ hgq ▸ Whole.new wo 47 _)
      have BA : Below wo.heap.size wo w2 := hw2 ▸ (Below.refl wo.heap.size wo).alloc (Nat.le_refl _) _
      have HB2 := Lib.hid (HB.out.trans (BA.mono HB.out.size))
      have HO2 := Lib.hid (own_only HO.out (Only.of_below BA Nob) (fun _ _ h => h))
      have CA := Lib.hid (con_any r w2)
      have HRR := Lib.hid (And.intro hr htx)
      clear BA hr htx
      go_wp2_with (refine wpList_load_row rfl 47 (.tmp 5) rfl gq rfl 47 (rawA r) (0, 0) _ P1.out Try.underlying47 rfl rfl ?_)
      refine CA.out.mono ?_
      rintro e w3 ⟨rfl, hw3⟩
      have P3 : Hid (Whole w3 gq 47 (rawA r)) := Lib.hid (hw3 ▸ P1.out.alloc _)
      have BA3 : Below w2.heap.size w2 w3 := hw3 ▸ (Below.refl w2.heap.size w2).alloc (Nat.le_refl _) _
      have HB3 := Lib.hid (HB2.out.trans (BA3.mono HB2.out.size))
      have HO3 := Lib.hid (own_only HO2.out (Only.of_below BA3 Nob) (fun _ _ h => h))
      clear BA3 hw3 hw2 m0 m1 m2 m3 m4
      obtain ⟨V, hV⟩ : ∃ V, ifc r = V := ⟨_, rfl⟩
      rw [hV]
      have hnil := neq_nil_iface V r hV
      have hgd := guard_nil_iface V r hV .neq (.inr rfl)
      have HV := Lib.hid hV
      clear hV
      by_cases hf : formM r.tag = 0
      · rw [decide_eq_true hf] at hnil
        have HF := Lib.hid hf
        clear hf
        go_wp2_with fail
        go_roundg (n2 - (k + 1))
        case measure => omega
        case rel =>
          refine ⟨k + 1, by omega, rfl, by go_num, ?_, HB3.out⟩
          rw [HST.out, show rawB r = [] by unfold rawB; rw [if_pos HF.out], List.append_nil, HP.out]
          exact HO3.out
      rw [decide_eq_false hf] at hnil
      have HRW := Lib.hid (rawB_rest r hf)
      have HF := Lib.hid hf
      clear hf
      obtain ⟨tb, htb⟩ : ∃ x, (r.tag % 256).toNat = x := ⟨_, rfl⟩
      rw [htb] at HRW
      have ut : IntKind.u8.wrap r.tag = (tb : Int) := by rw [IntKind.wrap_u8]; omega
      clear htb
      obtain ⟨q, hq⟩ : ∃ q, (restB r).length = q := ⟨_, rfl⟩
      have hql : q ≤ 100002 := by have := restB_len r HRR.out.2; omega
      have HQ := Lib.hid hq
      clear hq
      have BB : Below w3.heap.size w3 (w3.alloc (.cells #[.int .u8 (tb : Int)] 5)) := (Below.refl w3.heap.size w3).alloc (Nat.le_refl _) _
      have HSS := Lib.hid (seen_new w3 5 (bv [tb]) 1 rfl #[.int .u8 (tb : Int)] rfl)
      have HO4 := Lib.hid (own_only HO3.out (Only.of_below BB Nob) (fun _ _ h => h))
      have HB4 := Lib.hid (HB3.out.trans (BB.mono HB3.out.size))
      have r1 : Hid (P + 1 ≤ maxLen) := Lib.hid (by simp only [maxLen]; omega)
      have r2 : Hid ((P + 1) * 1 ≤ 140737488355328) := Lib.hid (by omega)
      have r3 : Hid (w.heap.size ≤ (w3.alloc (.cells #[.int .u8 (tb : Int)] 5)).heap.size) := Lib.hid HB4.out.size
      have r4 : Hid (P + 1 + q ≤ maxLen) := Lib.hid (by simp only [maxLen]; omega)
      have r5 : Hid ((P + 1 + q) * 1 ≤ 140737488355328) := Lib.hid (by omega)
      have x0 : w3.cell? ⟨gq, 0, none⟩ = some (.int .i64 r.tag) := P3.out.cell 0
      clear BB
      rcases ifc_cases r with ⟨h, e⟩ | ⟨h, e⟩ | ⟨h, e⟩ | ⟨h, e⟩ | ⟨h, e⟩ | ⟨h, e⟩ | ⟨h, e⟩ | ⟨h, e⟩
      · rw [HV.out] at e
        subst e
        have CON := Lib.hid (fun W => (show Calls Try.prog 76 #[.string r.text] W (GivesB W q (restB r)) by
          have hq := HQ.out
          have hf : formM r.tag = 116 := by rw [h]; rfl
          unfold restB at hq ⊢; rw [if_pos hf] at hq ⊢; rw [List.length_append, beN_len, txN_len] at hq; subst hq
          exact text_bytes_any r.text HRR.out.2 W))
        have HH := Lib.hid h
        clear h
        go_wp2_with (at_builtin; refine wpList_append_seen _ rfl (.tmp 24) (.tmp 28) _ rfl w.heap.size 5 i0 _ 1 1 Try.underlying22 hi0 hz0 hz1 hz2 rfl (by omega) (.slice A3 P c3) P (bv U) rfl HO4.out (w3.heap.size + 1) (some ⟨w3.heap.size, 0, none⟩) 1 1 (bv [tb]) rfl HSS.out (bv_oneCell _) r1.out r2.out r3.out ?_; intro v5 w5 ho5 hg5 hv5; have HB5 := Lib.hid (HB4.out.grown hg5 r3.out (fun j hj => (own_whole HO4.out hj).1)); have HO5 := Lib.hid ho5; clear ho5 hg5 hv5)
        refine (CON.out w5).mono ?_
        rintro e w6 ⟨A6, c6, rfl, h6, o6, b6⟩
        rw [← bv_append] at HO5
        have HB6 := Lib.hid (HB5.out.trans (b6.mono HB5.out.size))
        have HO6 := Lib.hid (own_only HO5.out (Only.of_below b6 Nob) (fun _ _ h => h))
        have S6 := Lib.hid (GivesB.seen o6)
        clear o6 b6
        go_wp2_with (at_builtin; refine wpList_append_seen _ rfl (.tmp 30) (.tmp 32) _ rfl w.heap.size 5 i0 _ 1 1 Try.underlying22 hi0 hz0 hz1 hz2 rfl (by omega) v5 (P + 1) (bv (U ++ [tb])) rfl HO6.out _ A6 q c6 (bv (restB r)) rfl S6.out (bv_oneCell _) r4.out r5.out HB6.out.size ?_; intro v7 w7 ho7 hg7 hv7; have HB7 := Lib.hid (HB6.out.grown hg7 HB6.out.size (fun j hj => (own_whole HO6.out hj).1)); have HO7 := Lib.hid ho7; clear ho7 hg7 hv7)
        go_roundg (n2 - (k + 1))
        case measure => omega
        case rel =>
          refine ⟨k + 1, by omega, rfl, by go_num, ?_, HB7.out⟩
          have e1 : U ++ rawB r = (U ++ [tb]) ++ restB r := by rw [HRW.out, List.append_assoc]; rfl
          have e2 : ((U ++ [tb]) ++ restB r).length = P + 1 + q := by rw [List.length_append, List.length_append, HP.out, HQ.out]; rfl
          rw [HST.out, e1, e2, bv_append]
          exact HO7.out
      · rw [HV.out] at e
        subst e
        have CON := Lib.hid (fun W => (show Calls Try.prog 78 #[.agg #[.int .u64 r.bits, .int .i64 4]] W (GivesB W q (restB r)) by
          have hq := HQ.out
          have hf : formM r.tag = 52 := by rcases h with h | h <;> rw [h] <;> rfl
          unfold restB at hq ⊢; rw [if_neg (by rw [hf]; decide), if_pos hf] at hq ⊢; rw [beN_len] at hq; subst hq
          exact num_bytes_any r.bits 4 (.inl rfl) W))
        have HH := Lib.hid h
        clear h
        go_wp2_with (at_builtin; refine wpList_append_seen _ rfl (.tmp 24) (.tmp 28) _ rfl w.heap.size 5 i0 _ 1 1 Try.underlying22 hi0 hz0 hz1 hz2 rfl (by omega) (.slice A3 P c3) P (bv U) rfl HO4.out (w3.heap.size + 1) (some ⟨w3.heap.size, 0, none⟩) 1 1 (bv [tb]) rfl HSS.out (bv_oneCell _) r1.out r2.out r3.out ?_; intro v5 w5 ho5 hg5 hv5; have HB5 := Lib.hid (HB4.out.grown hg5 r3.out (fun j hj => (own_whole HO4.out hj).1)); have HO5 := Lib.hid ho5; clear ho5 hg5 hv5)
        refine (CON.out w5).mono ?_
        rintro e w6 ⟨A6, c6, rfl, h6, o6, b6⟩
        rw [← bv_append] at HO5
        have HB6 := Lib.hid (HB5.out.trans (b6.mono HB5.out.size))
        have HO6 := Lib.hid (own_only HO5.out (Only.of_below b6 Nob) (fun _ _ h => h))
        have S6 := Lib.hid (GivesB.seen o6)
        clear o6 b6
        go_wp2_with (at_builtin; refine wpList_append_seen _ rfl (.tmp 30) (.tmp 32) _ rfl w.heap.size 5 i0 _ 1 1 Try.underlying22 hi0 hz0 hz1 hz2 rfl (by omega) v5 (P + 1) (bv (U ++ [tb])) rfl HO6.out _ A6 q c6 (bv (restB r)) rfl S6.out (bv_oneCell _) r4.out r5.out HB6.out.size ?_; intro v7 w7 ho7 hg7 hv7; have HB7 := Lib.hid (HB6.out.grown hg7 HB6.out.size (fun j hj => (own_whole HO6.out hj).1)); have HO7 := Lib.hid ho7; clear ho7 hg7 hv7)
        go_roundg (n2 - (k + 1))
        case measure => omega
        case rel =>
          refine ⟨k + 1, by omega, rfl, by go_num, ?_, HB7.out⟩
          have e1 : U ++ rawB r = (U ++ [tb]) ++ restB r := by rw [HRW.out, List.append_assoc]; rfl
          have e2 : ((U ++ [tb]) ++ restB r).length = P + 1 + q := by rw [List.length_append, List.length_append, HP.out, HQ.out]; rfl
          rw [HST.out, e1, e2, bv_append]
          exact HO7.out
      · rw [HV.out] at e
        subst e
        have CON := Lib.hid (fun W => (show Calls Try.prog 78 #[.agg #[.int .u64 r.bits, .int .i64 8]] W (GivesB W q (restB r)) by
          have hq := HQ.out
          have hf : formM r.tag = 56 := by rcases h with h | h <;> rw [h] <;> rfl
          unfold restB at hq ⊢; rw [if_neg (by rw [hf]; decide), if_neg (by rw [hf]; decide), if_pos hf] at hq ⊢; rw [beN_len] at hq; subst hq
          exact num_bytes_any r.bits 8 (.inr rfl) W))
        have HH := Lib.hid h
        clear h
        go_wp2_with (at_builtin; refine wpList_append_seen _ rfl (.tmp 24) (.tmp 28) _ rfl w.heap.size 5 i0 _ 1 1 Try.underlying22 hi0 hz0 hz1 hz2 rfl (by omega) (.slice A3 P c3) P (bv U) rfl HO4.out (w3.heap.size + 1) (some ⟨w3.heap.size, 0, none⟩) 1 1 (bv [tb]) rfl HSS.out (bv_oneCell _) r1.out r2.out r3.out ?_; intro v5 w5 ho5 hg5 hv5; have HB5 := Lib.hid (HB4.out.grown hg5 r3.out (fun j hj => (own_whole HO4.out hj).1)); have HO5 := Lib.hid ho5; clear ho5 hg5 hv5)
        refine (CON.out w5).mono ?_
        rintro e w6 ⟨A6, c6, rfl, h6, o6, b6⟩
        rw [← bv_append] at HO5
        have HB6 := Lib.hid (HB5.out.trans (b6.mono HB5.out.size))
        have HO6 := Lib.hid (own_only HO5.out (Only.of_below b6 Nob) (fun _ _ h => h))
        have S6 := Lib.hid (GivesB.seen o6)
        clear o6 b6
        go_wp2_with (at_builtin; refine wpList_append_seen _ rfl (.tmp 30) (.tmp 32) _ rfl w.heap.size 5 i0 _ 1 1 Try.underlying22 hi0 hz0 hz1 hz2 rfl (by omega) v5 (P + 1) (bv (U ++ [tb])) rfl HO6.out _ A6 q c6 (bv (restB r)) rfl S6.out (bv_oneCell _) r4.out r5.out HB6.out.size ?_; intro v7 w7 ho7 hg7 hv7; have HB7 := Lib.hid (HB6.out.grown hg7 HB6.out.size (fun j hj => (own_whole HO6.out hj).1)); have HO7 := Lib.hid ho7; clear ho7 hg7 hv7)
        go_roundg (n2 - (k + 1))
        case measure => omega
        case rel =>
          refine ⟨k + 1, by omega, rfl, by go_num, ?_, HB7.out⟩
          have e1 : U ++ rawB r = (U ++ [tb]) ++ restB r := by rw [HRW.out, List.append_assoc]; rfl
          have e2 : ((U ++ [tb]) ++ restB r).length = P + 1 + q := by rw [List.length_append, List.length_append, HP.out, HQ.out]; rfl
          rw [HST.out, e1, e2, bv_append]
          exact HO7.out
      · rw [HV.out] at e
        subst e
        have CON := Lib.hid (fun W => (show Calls Try.prog 80 #[.agg #[.int .i64 r.a]] W (GivesB W q (restB r)) by
          have hq := HQ.out
          have hf : formM r.tag = 97 := by rw [h]; rfl
          unfold restB at hq ⊢; rw [if_neg (by rw [hf]; decide), if_neg (by rw [hf]; decide), if_neg (by rw [hf]; decide), if_pos hf] at hq ⊢; rw [beN_len] at hq; subst hq
          exact of_bytes_any r.a W))
        have HH := Lib.hid h
        clear h
        go_wp2_with (at_builtin; refine wpList_append_seen _ rfl (.tmp 24) (.tmp 28) _ rfl w.heap.size 5 i0 _ 1 1 Try.underlying22 hi0 hz0 hz1 hz2 rfl (by omega) (.slice A3 P c3) P (bv U) rfl HO4.out (w3.heap.size + 1) (some ⟨w3.heap.size, 0, none⟩) 1 1 (bv [tb]) rfl HSS.out (bv_oneCell _) r1.out r2.out r3.out ?_; intro v5 w5 ho5 hg5 hv5; have HB5 := Lib.hid (HB4.out.grown hg5 r3.out (fun j hj => (own_whole HO4.out hj).1)); have HO5 := Lib.hid ho5; clear ho5 hg5 hv5)
        refine (CON.out w5).mono ?_
        rintro e w6 ⟨A6, c6, rfl, h6, o6, b6⟩
        rw [← bv_append] at HO5
        have HB6 := Lib.hid (HB5.out.trans (b6.mono HB5.out.size))
        have HO6 := Lib.hid (own_only HO5.out (Only.of_below b6 Nob) (fun _ _ h => h))
        have S6 := Lib.hid (GivesB.seen o6)
        clear o6 b6
        go_wp2_with (at_builtin; refine wpList_append_seen _ rfl (.tmp 30) (.tmp 32) _ rfl w.heap.size 5 i0 _ 1 1 Try.underlying22 hi0 hz0 hz1 hz2 rfl (by omega) v5 (P + 1) (bv (U ++ [tb])) rfl HO6.out _ A6 q c6 (bv (restB r)) rfl S6.out (bv_oneCell _) r4.out r5.out HB6.out.size ?_; intro v7 w7 ho7 hg7 hv7; have HB7 := Lib.hid (HB6.out.grown hg7 HB6.out.size (fun j hj => (own_whole HO6.out hj).1)); have HO7 := Lib.hid ho7; clear ho7 hg7 hv7)
        go_roundg (n2 - (k + 1))
        case measure => omega
        case rel =>
          refine ⟨k + 1, by omega, rfl, by go_num, ?_, HB7.out⟩
          have e1 : U ++ rawB r = (U ++ [tb]) ++ restB r := by rw [HRW.out, List.append_assoc]; rfl
          have e2 : ((U ++ [tb]) ++ restB r).length = P + 1 + q := by rw [List.length_append, List.length_append, HP.out, HQ.out]; rfl
          rw [HST.out, e1, e2, bv_append]
          exact HO7.out
      · rw [HV.out] at e
        subst e
        have CON := Lib.hid (fun W => (show Calls Try.prog 80 #[.agg #[.int .i64 r.a]] W (GivesB W q (restB r)) by
          have hq := HQ.out
          have hf : formM r.tag = 97 := by rw [h]; rfl
          unfold restB at hq ⊢; rw [if_neg (by rw [hf]; decide), if_neg (by rw [hf]; decide), if_neg (by rw [hf]; decide), if_pos hf] at hq ⊢; rw [beN_len] at hq; subst hq
          exact of_bytes_any r.a W))
        have HH := Lib.hid h
        clear h
        go_wp2_with (at_builtin; refine wpList_append_seen _ rfl (.tmp 24) (.tmp 28) _ rfl w.heap.size 5 i0 _ 1 1 Try.underlying22 hi0 hz0 hz1 hz2 rfl (by omega) (.slice A3 P c3) P (bv U) rfl HO4.out (w3.heap.size + 1) (some ⟨w3.heap.size, 0, none⟩) 1 1 (bv [tb]) rfl HSS.out (bv_oneCell _) r1.out r2.out r3.out ?_; intro v5 w5 ho5 hg5 hv5; have HB5 := Lib.hid (HB4.out.grown hg5 r3.out (fun j hj => (own_whole HO4.out hj).1)); have HO5 := Lib.hid ho5; clear ho5 hg5 hv5)
        refine (CON.out w5).mono ?_
        rintro e w6 ⟨A6, c6, rfl, h6, o6, b6⟩
        rw [← bv_append] at HO5
        have HB6 := Lib.hid (HB5.out.trans (b6.mono HB5.out.size))
        have HO6 := Lib.hid (own_only HO5.out (Only.of_below b6 Nob) (fun _ _ h => h))
        have S6 := Lib.hid (GivesB.seen o6)
        clear o6 b6
        go_wp2_with (at_builtin; refine wpList_append_seen _ rfl (.tmp 30) (.tmp 32) _ rfl w.heap.size 5 i0 _ 1 1 Try.underlying22 hi0 hz0 hz1 hz2 rfl (by omega) v5 (P + 1) (bv (U ++ [tb])) rfl HO6.out _ A6 q c6 (bv (restB r)) rfl S6.out (bv_oneCell _) r4.out r5.out HB6.out.size ?_; intro v7 w7 ho7 hg7 hv7; have HB7 := Lib.hid (HB6.out.grown hg7 HB6.out.size (fun j hj => (own_whole HO6.out hj).1)); have HO7 := Lib.hid ho7; clear ho7 hg7 hv7)
        go_roundg (n2 - (k + 1))
        case measure => omega
        case rel =>
          refine ⟨k + 1, by omega, rfl, by go_num, ?_, HB7.out⟩
          have e1 : U ++ rawB r = (U ++ [tb]) ++ restB r := by rw [HRW.out, List.append_assoc]; rfl
          have e2 : ((U ++ [tb]) ++ restB r).length = P + 1 + q := by rw [List.length_append, List.length_append, HP.out, HQ.out]; rfl
          rw [HST.out, e1, e2, bv_append]
          exact HO7.out
      · rw [HV.out] at e
        subst e
        have CON := Lib.hid (fun W => (show Calls Try.prog 86 #[.agg #[.int .i64 r.a, .int .i64 r.b]] W (GivesB W q (restB r)) by
          have hq := HQ.out
          have hf : formM r.tag = 98 := by rcases h with h | h | h <;> rw [h] <;> rfl
          unfold restB at hq ⊢; rw [if_neg (by rw [hf]; decide), if_neg (by rw [hf]; decide), if_neg (by rw [hf]; decide), if_neg (by rw [hf]; decide)] at hq ⊢; rw [List.length_append, beN_len, beN_len] at hq; subst hq
          exact mem_bytes_any r.a r.b W))
        have HH := Lib.hid h
        clear h
        go_wp2_with (at_builtin; refine wpList_append_seen _ rfl (.tmp 24) (.tmp 28) _ rfl w.heap.size 5 i0 _ 1 1 Try.underlying22 hi0 hz0 hz1 hz2 rfl (by omega) (.slice A3 P c3) P (bv U) rfl HO4.out (w3.heap.size + 1) (some ⟨w3.heap.size, 0, none⟩) 1 1 (bv [tb]) rfl HSS.out (bv_oneCell _) r1.out r2.out r3.out ?_; intro v5 w5 ho5 hg5 hv5; have HB5 := Lib.hid (HB4.out.grown hg5 r3.out (fun j hj => (own_whole HO4.out hj).1)); have HO5 := Lib.hid ho5; clear ho5 hg5 hv5)
        refine (CON.out w5).mono ?_
        rintro e w6 ⟨A6, c6, rfl, h6, o6, b6⟩
        rw [← bv_append] at HO5
        have HB6 := Lib.hid (HB5.out.trans (b6.mono HB5.out.size))
        have HO6 := Lib.hid (own_only HO5.out (Only.of_below b6 Nob) (fun _ _ h => h))
        have S6 := Lib.hid (GivesB.seen o6)
        clear o6 b6
        go_wp2_with (at_builtin; refine wpList_append_seen _ rfl (.tmp 30) (.tmp 32) _ rfl w.heap.size 5 i0 _ 1 1 Try.underlying22 hi0 hz0 hz1 hz2 rfl (by omega) v5 (P + 1) (bv (U ++ [tb])) rfl HO6.out _ A6 q c6 (bv (restB r)) rfl S6.out (bv_oneCell _) r4.out r5.out HB6.out.size ?_; intro v7 w7 ho7 hg7 hv7; have HB7 := Lib.hid (HB6.out.grown hg7 HB6.out.size (fun j hj => (own_whole HO6.out hj).1)); have HO7 := Lib.hid ho7; clear ho7 hg7 hv7)
        go_roundg (n2 - (k + 1))
        case measure => omega
        case rel =>
          refine ⟨k + 1, by omega, rfl, by go_num, ?_, HB7.out⟩
          have e1 : U ++ rawB r = (U ++ [tb]) ++ restB r := by rw [HRW.out, List.append_assoc]; rfl
          have e2 : ((U ++ [tb]) ++ restB r).length = P + 1 + q := by rw [List.length_append, List.length_append, HP.out, HQ.out]; rfl
          rw [HST.out, e1, e2, bv_append]
          exact HO7.out
      · rw [HV.out] at e
        subst e
        have CON := Lib.hid (fun W => (show Calls Try.prog 84 #[.agg #[.int .i64 r.a, .int .i64 r.b]] W (GivesB W q (restB r)) by
          have hq := HQ.out
          have hf : formM r.tag = 98 := by rw [h]; rfl
          unfold restB at hq ⊢; rw [if_neg (by rw [hf]; decide), if_neg (by rw [hf]; decide), if_neg (by rw [hf]; decide), if_neg (by rw [hf]; decide)] at hq ⊢; rw [List.length_append, beN_len, beN_len] at hq; subst hq
          exact pair_bytes_any r.a r.b W))
        have HH := Lib.hid h
        clear h
        go_wp2_with (at_builtin; refine wpList_append_seen _ rfl (.tmp 24) (.tmp 28) _ rfl w.heap.size 5 i0 _ 1 1 Try.underlying22 hi0 hz0 hz1 hz2 rfl (by omega) (.slice A3 P c3) P (bv U) rfl HO4.out (w3.heap.size + 1) (some ⟨w3.heap.size, 0, none⟩) 1 1 (bv [tb]) rfl HSS.out (bv_oneCell _) r1.out r2.out r3.out ?_; intro v5 w5 ho5 hg5 hv5; have HB5 := Lib.hid (HB4.out.grown hg5 r3.out (fun j hj => (own_whole HO4.out hj).1)); have HO5 := Lib.hid ho5; clear ho5 hg5 hv5)
        refine (CON.out w5).mono ?_
        rintro e w6 ⟨A6, c6, rfl, h6, o6, b6⟩
        rw [← bv_append] at HO5
        have HB6 := Lib.hid (HB5.out.trans (b6.mono HB5.out.size))
        have HO6 := Lib.hid (own_only HO5.out (Only.of_below b6 Nob) (fun _ _ h => h))
        have S6 := Lib.hid (GivesB.seen o6)
        clear o6 b6
        go_wp2_with (at_builtin; refine wpList_append_seen _ rfl (.tmp 30) (.tmp 32) _ rfl w.heap.size 5 i0 _ 1 1 Try.underlying22 hi0 hz0 hz1 hz2 rfl (by omega) v5 (P + 1) (bv (U ++ [tb])) rfl HO6.out _ A6 q c6 (bv (restB r)) rfl S6.out (bv_oneCell _) r4.out r5.out HB6.out.size ?_; intro v7 w7 ho7 hg7 hv7; have HB7 := Lib.hid (HB6.out.grown hg7 HB6.out.size (fun j hj => (own_whole HO6.out hj).1)); have HO7 := Lib.hid ho7; clear ho7 hg7 hv7)
        go_roundg (n2 - (k + 1))
        case measure => omega
        case rel =>
          refine ⟨k + 1, by omega, rfl, by go_num, ?_, HB7.out⟩
          have e1 : U ++ rawB r = (U ++ [tb]) ++ restB r := by rw [HRW.out, List.append_assoc]; rfl
          have e2 : ((U ++ [tb]) ++ restB r).length = P + 1 + q := by rw [List.length_append, List.length_append, HP.out, HQ.out]; rfl
          rw [HST.out, e1, e2, bv_append]
          exact HO7.out
      · exact absurd h HF.out
    · have d0 : decide ((k : Int) < (n2 : Int)) = false := by rw [decide_eq_false_iff_not]; omega
      go_wp2_with fail
      go_ret
      have e1 : bytesM l = U := by rw [HR.out, ← HU.out, List.take_of_length_le (by omega)]
      obtain ⟨_, hcm⟩ : ∃ x : Nat, c3 ≤ maxLen := ⟨0, by obtain ⟨A', c', e, hc⟩ := own_form HO.out; cases e; exact hc⟩
      rw [e1, HP.out]
      exact ⟨A3, c3, rfl, hcm, HO.out, HB.out⟩
end Go.Proofs.Ytmojclbejmnikaa
