/-
  Mathematics of units and signs: which rows are right, what is encoded is decoded, the order of rows. Nothing of the program's memory.
-/
import Derived.Test.YtdfliogomkpceaaDoorUG
namespace Go.Proofs.YtdfliogomkpceaaDoor
open Go Go.RowKit
set_option maxRecDepth 100000

theorem u8n (x : Nat) (h : x < 256) : (UInt8.ofNat x).toNat = x := by rw [UInt8.toNat_ofNat', Nat.mod_eq_of_lt h]
theorem gN_zero (a : UInt8) (t : List UInt8) : gN (a :: t) 0 = a.toNat := rfl
theorem gN_one (a b : UInt8) (t : List UInt8) : gN (a :: b :: t) 1 = b.toNat := rfl
/-- A unit's bytes tell it. -/
theorem uB_cons (v : Nat) (hv : v < 65536) : ∃ c t, uB v = c :: t ∧ nOf c.toNat = t.length + 1 ∧ ∀ r, vOf c.toNat (gN (t ++ r) 0) (gN (t ++ r) 1) = v := by
  unfold uB
  by_cases h1 : 1 ≤ v ∧ v < 128
  · rw [if_pos h1]
    refine ⟨_, _, rfl, ?_, fun r => ?_⟩
    · rw [u8n v (by omega), nOf, if_neg (by omega), if_neg (by omega)]; rfl
    · rw [u8n v (by omega), vOf, if_neg (by omega), if_neg (by omega)]
  · rw [if_neg h1]
    by_cases h2 : v < 2048
    · rw [if_pos h2]
      refine ⟨_, _, rfl, ?_, fun r => ?_⟩
      · rw [u8n _ (by omega), nOf, if_neg (by omega), if_pos (by omega)]; rfl
      · rw [u8n _ (by omega), vOf, if_neg (by omega), if_pos (by omega), List.cons_append, gN_zero, u8n _ (by omega)]; omega
    · rw [if_neg h2]
      refine ⟨_, _, rfl, ?_, fun r => ?_⟩
      · rw [u8n _ (by omega), nOf, if_pos (by omega)]; rfl
      · rw [u8n _ (by omega), vOf, if_pos (by omega), List.cons_append, List.cons_append, gN_zero, gN_one, u8n _ (by omega), u8n _ (by omega)]; omega
theorem dU_back : ∀ (q p : List Nat), (∀ x ∈ q, x < 65536) → dU p (uBs q) = some (p ++ q)
  | [], p, _ => by show dU p [] = some (p ++ []); rw [List.append_nil, dU]
  | v :: q, p, h => by
    have hv := h v (by simp)
    obtain ⟨c, t, e, hn, hvo⟩ := uB_cons v hv
    have e1 : uBs (v :: q) = c :: (t ++ uBs q) := by show uB v ++ uBs q = _; rw [e]; rfl
    have ht : (c :: (t ++ uBs q)).take (t.length + 1) = uB v := by rw [e, List.take_succ_cons, List.take_left]
    rw [e1, dU, hn, hvo, if_neg (by simp), if_neg (by omega), if_neg (fun h => h ht.symm), Nat.add_sub_cancel, List.drop_left, dU_back q _ fun x hx => h x (by simp [hx])]
    simp
theorem dU_fwd {u : List Nat} : ∀ (n : Nat) (p : List Nat) (s : List UInt8), s.length ≤ n → dU p s = some u → ∃ q, u = p ++ q ∧ uBs q = s ∧ ∀ x ∈ q, x < 65536
  | n, p, [], _, h => by rw [dU] at h; cases h; exact ⟨[], by simp, rfl, by simp⟩
  | 0, p, c :: r, hn, _ => by simp at hn
  | n + 1, p, c :: r, hn, h => by
    rw [dU] at h
    split at h
    · cases h
    rename_i hl
    split at h
    · cases h
    rename_i h65
    split at h
    · cases h
    rename_i hb
    obtain ⟨q, h1, h2, h3⟩ := dU_fwd n _ _ (by rw [List.length_drop]; simp at hn; omega) h
    refine ⟨vOf c.toNat (gN r 0) (gN r 1) :: q, by rw [h1]; simp, ?_, fun x hx => ?_⟩
    · have hb2 : uB (vOf c.toNat (gN r 0) (gN r 1)) = (c :: r).take (nOf c.toNat) := Decidable.not_not.1 hb
      show uB _ ++ uBs q = c :: r
      have hp := nOf_pos c.toNat
      rw [hb2, h2]
      have e : r.drop (nOf c.toNat - 1) = (c :: r).drop (nOf c.toNat) := by
        rw [show nOf c.toNat = (nOf c.toNat - 1) + 1 by omega, List.drop_succ_cons, Nat.add_sub_cancel]
      rw [e, List.take_append_drop]
    · rcases List.mem_cons.1 hx with rfl | hx
      · omega
      · exact h3 x hx
/-- Which units a row tells. -/
theorem units_iff (s : List UInt8) (u : List Nat) : unitsM s = some u ↔ uBs u = s ∧ ∀ x ∈ u, x < 65536 := by
  constructor
  · intro h
    obtain ⟨q, h1, h2, h3⟩ := dU_fwd s.length [] s (Nat.le_refl _) h
    rw [List.nil_append] at h1
    subst h1
    exact ⟨h2, h3⟩
  · rintro ⟨rfl, h⟩
    exact dU_back u [] h

/-- A sign that may be. -/
def okR (c : Nat) : Prop := (c < 55296 ∨ 57344 ≤ c) ∧ c < 1114112
theorem enc_rune {c : Nat} (h : okR c) : enc c = Lib.encodeRune (c : Int) := by
  obtain ⟨h1, h2⟩ := h
  have hv : Utf8.valid (c : Int) = true := by unfold Utf8.valid; simp; omega
  unfold enc Utf8.encode
  simp only [hv, if_true, Int.toNat_natCast]
  have b : ∀ x : Int, ∀ y : Nat, x = y → UInt8.ofNat y = x.toNat.toUInt8 := fun x y e => by subst e; rfl
  unfold Lib.encodeRune
  by_cases a1 : c < 128
  · rw [if_pos a1, Lib.encodeRuneZ_one (by omega) (by omega)]; rfl
  by_cases a2 : c < 2048
  · rw [if_neg a1, if_pos a2, Lib.encodeRuneZ_two (by omega) (by omega)]
    simp only [List.map_cons, List.map_nil]
    rw [← b _ (192 + c / 64) (by omega), ← b _ (128 + c % 64) (by omega)]
  by_cases a3 : c < 65536
  · rw [if_neg a1, if_neg a2, if_pos a3, Lib.encodeRuneZ_three (by omega)]
    simp only [List.map_cons, List.map_nil]
    rw [← b _ (224 + c / 4096) (by omega), ← b _ (128 + c / 64 % 64) (by omega), ← b _ (128 + c % 64) (by omega)]
  · rw [if_neg a1, if_neg a2, if_neg a3, Lib.encodeRuneZ_four (by omega) (by omega)]
    simp only [List.map_cons, List.map_nil]
    rw [← b _ (240 + c / 262144) (by omega), ← b _ (128 + c / 4096 % 64) (by omega), ← b _ (128 + c / 64 % 64) (by omega), ← b _ (128 + c % 64) (by omega)]
theorem dec_ok (l : List UInt8) : okR (Lib.decodeL l).1 := by
  rw [Lib.decodeL_N]
  have hb : ∀ k, (l.getD k 0).toNat < 256 := fun k => UInt8.toNat_lt _
  have h0 := hb 0
  rcases Lib.decodeN_shape l.length (l.getD 0 0).toNat (l.getD 1 0).toNat (l.getD 2 0).toNat (l.getD 3 0).toNat with ⟨c, e⟩ | ⟨c1, c2, c3, cv, e⟩ | ⟨c1, c2, c3, c4, c5, cv, e⟩ | ⟨c1, c2, c3, c4, c5, c6, cv, e⟩ | e
  all_goals (rw [e]; unfold okR; simp only; omega)
theorem bad_width {s : List UInt8} (h : ¬ badS s) : ¬ ((Lib.decodeL s).1 = 65533 ∧ (Lib.decodeL s).2 = 1) := by
  rintro ⟨h1, h2⟩
  apply h
  refine ⟨h1, fun e => ?_⟩
  have e2 : s = 239 :: 191 :: 189 :: s.drop 3 := by
    have := List.take_append_drop 3 s
    rw [e] at this; exact this.symm
  rw [e2, Lib.decodeL_N] at h2
  simp only [List.length_cons] at h2
  have : Lib.decodeN ((s.drop 3).length + 1 + 1 + 1) 239 191 189 ((s.drop 3).getD 0 0).toNat = (65533, 3) := by
    unfold Lib.decodeN
    simp
  have h3 : (Lib.decodeN ((s.drop 3).length + 1 + 1 + 1) 239 191 189 ((s.drop 3).getD 0 0).toNat).2 = 1 := h2
  rw [this] at h3
  cases h3
theorem sg_fwd {u : List Nat} : ∀ (n : Nat) (p : List Nat) (s : List UInt8), s.length ≤ n → sgM p s = some u → ∃ q, u = p ++ q ∧ q.flatMap enc = s ∧ ∀ x ∈ q, okR x
  | n, p, [], _, h => by rw [sgM] at h; cases h; exact ⟨[], by simp, rfl, by simp⟩
  | 0, p, c :: r, hn, _ => by simp at hn
  | n + 1, p, c :: r, hn, h => by
    rw [sgM] at h
    split at h
    · cases h
    rename_i hb
    obtain ⟨q, h1, h2, h3⟩ := sg_fwd n _ _ (by rw [List.length_drop]; simp at hn; omega) h
    have hok := dec_ok (c :: r)
    have he := Lib.encode_decode (c :: r) (by simp) (bad_width hb)
    have hp := dec_pos (c :: r) 0 (by simp)
    rw [List.drop_zero] at hp
    refine ⟨(Lib.decodeL (c :: r)).1 :: q, by rw [h1]; simp, ?_, fun x hx => ?_⟩
    · rw [List.flatMap_cons, enc_rune hok, he, h2]
      have e : r.drop ((Lib.decodeL (c :: r)).2 - 1) = (c :: r).drop (Lib.decodeL (c :: r)).2 := by
        have := hp.1
        rw [show (Lib.decodeL (c :: r)).2 = ((Lib.decodeL (c :: r)).2 - 1) + 1 by omega, List.drop_succ_cons, Nat.add_sub_cancel]
      rw [e, List.take_append_drop]
    · rcases List.mem_cons.1 hx with rfl | hx
      · exact hok
      · exact h3 x hx
theorem deM_cons {out : List UInt8} {c : Nat} (h : ¬ (55296 ≤ c ∧ c < 57344)) (r : List Nat) : deM out (c :: r) = deM (out ++ enc c) r := by
  cases r with
  | nil => simp only [deM, if_neg h]
  | cons d r => simp only [deM, if_neg h]
theorem deM_uOfs : ∀ (q : List Nat) (out : List UInt8), (∀ x ∈ q, okR x) → deM out (uOfs q) = some (out ++ q.flatMap enc)
  | [], out, _ => by show deM out [] = _; rw [deM]; simp
  | c :: q, out, h => by
    obtain ⟨h1, h2⟩ := h c (by simp)
    have ih := fun o => deM_uOfs q o fun x hx => h x (by simp [hx])
    show deM out (uOf c ++ uOfs q) = _
    by_cases h6 : c < 65536
    · rw [uOf, if_pos h6, List.singleton_append, deM_cons (by omega), ih, List.flatMap_cons, List.append_assoc]
    · rw [uOf, if_neg h6]
      show deM out ((55296 + (c - 65536) / 1024) :: (56320 + (c - 65536) % 1024) :: uOfs q) = _
      rw [deM, if_pos (by omega), if_neg (by omega), show 65536 + (55296 + (c - 65536) / 1024 - 55296) * 1024 + (56320 + (c - 65536) % 1024 - 56320) = c by omega, ih, List.flatMap_cons, List.append_assoc]
/-- WHAT IS ENCODED IS DECODED. -/
theorem decode_encode {s e : List UInt8} (h : encodeM s = some e) : decodeM e = some s := by
  unfold encodeM at h
  cases hs : sgM [] s with
  | none => rw [hs] at h; cases h
  | some u =>
    rw [hs] at h
    obtain ⟨q, h1, h2, h3⟩ := sg_fwd s.length [] s (Nat.le_refl _) hs
    rw [List.nil_append] at h1
    subst h1
    cases h
    have hlt : ∀ x ∈ uOfs u, x < 65536 := uOfs_lt fun x hx => (h3 x hx).2
    unfold decodeM
    rw [(units_iff _ _).2 ⟨rfl, hlt⟩]
    show deM [] (uOfs u) = _
    rw [deM_uOfs u [] h3, h2, List.nil_append]

theorem ltU_self : ∀ a : List Nat, ltU a a = false
  | [] => rfl
  | x :: a => by rw [ltU, if_pos rfl, ltU_self a]
theorem ltU_total : ∀ a b : List Nat, ltU a b = false → ltU b a = decide (a ≠ b)
  | [], [], _ => by simp [ltU]
  | [], _ :: _, h => by simp [ltU] at h
  | _ :: _, [], _ => by simp [ltU]
  | x :: a, y :: b, h => by
    rw [ltU] at h ⊢
    by_cases e : x = y
    · subst e
      rw [if_pos rfl] at h ⊢
      rw [ltU_total a b h]
      simp
    · rw [if_neg e, decide_eq_false_iff_not] at h
      rw [if_neg (Ne.symm e), decide_eq_true (by omega), decide_eq_true (by simp [e])]
theorem ltU_trans : ∀ a b c : List Nat, ltU a b = true → ltU b c = true → ltU a c = true
  | [], [], _, h, _ => by simp [ltU] at h
  | [], _ :: _, [], _, h => by simp [ltU] at h
  | [], _ :: _, _ :: _, _, _ => rfl
  | _ :: _, [], _, h, _ => by simp [ltU] at h
  | _ :: _, _ :: _, [], _, h => by simp [ltU] at h
  | x :: a, y :: b, z :: c, h1, h2 => by
    rw [ltU] at h1 h2 ⊢
    by_cases e : x = y
    · subst e
      rw [if_pos rfl] at h1
      by_cases f : x = z
      · subst f
        rw [if_pos rfl] at h2 ⊢
        exact ltU_trans a b c h1 h2
      · rw [if_neg f] at h2 ⊢; exact h2
    · rw [if_neg e, decide_eq_true_iff] at h1
      by_cases f : y = z
      · subst f
        rw [if_neg e, decide_eq_true_iff]; exact h1
      · rw [if_neg f, decide_eq_true_iff] at h2
        rw [if_neg (by omega), decide_eq_true_iff]; omega
end Go.Proofs.YtdfliogomkpceaaDoor
