/-
  Mathematics: the program's first unit of a row is the document's. Conditions: none.
-/
import Derived.Test.YtibkdmliolebgaaDoorWB
import Derived.Test.YtibkdmliolebgaaDoorUH
namespace Go.Proofs.YtibkdmliolebgaaDoor
open Go Go.RowKit
set_option maxRecDepth 100000

/-- A unit's bytes begin a row: that is its first unit. -/
theorem fu_some (v : Nat) (hv : v < 65536) (r : List UInt8) : fuM (uB v ++ r) = (v, (uB v).length) := by
  have hsz := szN_len v hv
  unfold fuM
  unfold uB at hsz ⊢
  by_cases h1 : 1 ≤ v ∧ v < 128
  · rw [if_pos h1] at hsz ⊢
    have g0 : gN ([UInt8.ofNat v] ++ r) 0 = v := by rw [List.cons_append, gN_zero, u8n v (by omega)]
    rw [g0]
    have hh : hiN v = (v, 1) := by unfold hiN; rw [if_pos h1.2]
    rw [hh, if_neg (by simp)]
    simp only [Nat.sub_self, ct]
    rw [← hsz]; simp
  · rw [if_neg h1] at hsz ⊢
    by_cases h2 : v < 2048
    · rw [if_pos h2] at hsz ⊢
      have g0 : gN ([UInt8.ofNat (192 + v / 64), UInt8.ofNat (128 + v % 64)] ++ r) 0 = 192 + v / 64 := by rw [List.cons_append, gN_zero, u8n _ (by omega)]
      have g1 : gN ([UInt8.ofNat (192 + v / 64), UInt8.ofNat (128 + v % 64)] ++ r) 1 = 128 + v % 64 := by rw [List.cons_append, List.cons_append, gN_one, u8n _ (by omega)]
      rw [g0]
      have hh : hiN (192 + v / 64) = (v / 64, 2) := by unfold hiN; rw [if_neg (by omega), if_neg (by omega), if_pos (by omega)]; congr 1; omega
      rw [hh, if_neg (by simp)]
      simp only [show 2 - 1 = 1 from rfl, ct, g1]
      rw [if_pos (by omega), show v / 64 * 64 % 65536 + (128 + v % 64) % 64 = v by omega]
      simp only
      rw [← hsz]; simp
    · rw [if_neg h2] at hsz ⊢
      have g0 : gN ([UInt8.ofNat (224 + v / 4096), UInt8.ofNat (128 + v / 64 % 64), UInt8.ofNat (128 + v % 64)] ++ r) 0 = 224 + v / 4096 := by rw [List.cons_append, gN_zero, u8n _ (by omega)]
      have g1 : gN ([UInt8.ofNat (224 + v / 4096), UInt8.ofNat (128 + v / 64 % 64), UInt8.ofNat (128 + v % 64)] ++ r) 1 = 128 + v / 64 % 64 := by rw [List.cons_append, List.cons_append, gN_one, u8n _ (by omega)]
      have g2 : gN ([UInt8.ofNat (224 + v / 4096), UInt8.ofNat (128 + v / 64 % 64), UInt8.ofNat (128 + v % 64)] ++ r) 2 = 128 + v % 64 := by
        have : gN ([UInt8.ofNat (224 + v / 4096), UInt8.ofNat (128 + v / 64 % 64), UInt8.ofNat (128 + v % 64)] ++ r) 2 = (UInt8.ofNat (128 + v % 64)).toNat := rfl
        rw [this, u8n _ (by omega)]
      rw [g0]
      have hh : hiN (224 + v / 4096) = (v / 4096, 3) := by unfold hiN; rw [if_neg (by omega), if_neg (by omega), if_neg (by omega), if_pos (by omega)]; congr 1; omega
      rw [hh, if_neg (by simp)]
      simp only [show 3 - 1 = 2 from rfl, ct, g1, g2]
      rw [if_pos (by omega), if_pos (by omega), show (v / 4096 * 64 % 65536 + (128 + v / 64 % 64) % 64) * 64 % 65536 + (128 + v % 64) % 64 = v by omega]
      simp only
      rw [← hsz]; simp
theorem byte_of {a : UInt8} {x : Nat} (h : a.toNat = x) : UInt8.ofNat x = a := by rw [← h]; exact UInt8.ofNat_toNat
/-- A first unit's bytes begin the row. -/
theorem fu_inv {s : List UInt8} {v m : Nat} (h : fuM s = (v, m)) (hm : m ≠ 0) : v < 65536 ∧ m = (uB v).length ∧ ∃ r, s = uB v ++ r := by
  unfold fuM at h
  split at h
  · injection h with h1 h2; omega
  rename_i hlen
  cases s with
  | nil => simp [gN, hiN] at hlen
  | cons c s =>
  rw [gN_zero] at h hlen
  have hc := UInt8.toNat_lt c
  obtain ⟨C, hC⟩ : ∃ C, c.toNat = C := ⟨_, rfl⟩
  rw [hC] at h hlen hc
  by_cases h1 : C < 128
  · have hh : hiN C = (C, 1) := by unfold hiN; rw [if_pos h1]
    rw [hh] at h hlen
    simp only [Nat.sub_self, ct] at h
    split at h
    · rename_i hsz
      injection h with h1' h2'; subst h1' h2'
      refine ⟨by omega, by rw [szN_len _ (by omega), hsz], s, ?_⟩
      unfold szN at hsz
      have hp : 1 ≤ C := by
        rw [if_neg (by omega)] at hsz
        split at hsz
        · omega
        · omega
      unfold uB
      rw [if_pos ⟨hp, h1⟩, byte_of hC]; rfl
    · injection h with h1' h2'; omega
  · by_cases h2 : C < 192
    · have hh : hiN C = (0, 0) := by unfold hiN; rw [if_neg h1, if_pos h2]
      rw [hh] at hlen; simp at hlen
    by_cases h3 : C < 224
    · have hh : hiN C = (C - 192, 2) := by unfold hiN; rw [if_neg h1, if_neg h2, if_pos h3]
      rw [hh] at h hlen
      cases s with
      | nil => simp at hlen
      | cons a s =>
      obtain ⟨A, hA⟩ : ∃ A, a.toNat = A := ⟨_, rfl⟩
      have ha := UInt8.toNat_lt a
      have hct : ct (c :: a :: s) (2 - 1) 1 (C - 192) = if A / 64 = 2 then some ((C - 192) * 64 % 65536 + A % 64) else none := by rw [← hA]; rfl
      rw [hA] at ha
      simp only at h
      rw [hct] at h
      by_cases hq : A / 64 = 2
      · rw [if_pos hq] at h
        obtain ⟨V, hV⟩ : ∃ V, (C - 192) * 64 % 65536 + A % 64 = V := ⟨_, rfl⟩
        rw [hV] at h
        simp only at h
        split at h
        · rename_i hsz
          injection h with h1' h2'; subst h1' h2'
          refine ⟨by omega, by rw [szN_len _ (by omega), hsz], s, ?_⟩
          have hp : ¬ (1 ≤ V ∧ V < 128) := by
            intro hp
            unfold szN at hsz
            rw [if_neg (by omega), if_neg (by omega)] at hsz
            omega
          unfold uB
          rw [if_neg hp, if_pos (by omega), show 192 + V / 64 = C by omega, show 128 + V % 64 = A by omega, byte_of hC, byte_of hA]; rfl
        · injection h with h1' h2'; omega
      · rw [if_neg hq] at h
        simp only at h
        injection h with h1' h2'; omega
    · by_cases h4 : C < 240
      · have hh : hiN C = (C - 224, 3) := by unfold hiN; rw [if_neg h1, if_neg h2, if_neg h3, if_pos h4]
        rw [hh] at h hlen
        match s, hlen with
        | [], hlen => simp at hlen
        | [_], hlen => simp at hlen
        | a :: b :: s, hlen =>
        obtain ⟨A, hA⟩ : ∃ A, a.toNat = A := ⟨_, rfl⟩
        have ha := UInt8.toNat_lt a
        obtain ⟨B, hB⟩ : ∃ A, b.toNat = A := ⟨_, rfl⟩
        have hb := UInt8.toNat_lt b
        have hct : ct (c :: a :: b :: s) (3 - 1) 1 (C - 224) = if A / 64 = 2 then (if B / 64 = 2 then some (((C - 224) * 64 % 65536 + A % 64) * 64 % 65536 + B % 64) else none) else none := by rw [← hA, ← hB]; rfl
        rw [hA] at ha
        rw [hB] at hb
        simp only at h
        rw [hct] at h
        by_cases hq : A / 64 = 2
        · by_cases hq2 : B / 64 = 2
          · rw [if_pos hq, if_pos hq2] at h
            obtain ⟨V, hV⟩ : ∃ V, ((C - 224) * 64 % 65536 + A % 64) * 64 % 65536 + B % 64 = V := ⟨_, rfl⟩
            rw [hV] at h
            simp only at h
            split at h
            · rename_i hsz
              injection h with h1' h2'; subst h1' h2'
              refine ⟨by omega, by rw [szN_len _ (by omega), hsz], s, ?_⟩
              have hp : 2047 < V := by
                unfold szN at hsz
                by_cases h : 2047 < V
                · exact h
                · rw [if_neg h] at hsz
                  split at hsz <;> omega
              unfold uB
              rw [if_neg (by omega), if_neg (by omega), show 224 + V / 4096 = C by omega, show 128 + V / 64 % 64 = A by omega, show 128 + V % 64 = B by omega, byte_of hC, byte_of hA, byte_of hB]; rfl
            · injection h with h1' h2'; omega
          · rw [if_pos hq, if_neg hq2] at h
            simp only at h
            injection h with h1' h2'; omega
        · rw [if_neg hq] at h
          simp only at h
          injection h with h1' h2'; omega
      · have hh : hiN C = (0, 0) := by unfold hiN; rw [if_neg h1, if_neg h2, if_neg h3, if_neg h4]
        rw [hh] at hlen; simp at hlen
/-- One more unit is read. -/
theorem dU_unit {p : List Nat} {s : List UInt8} {v m : Nat} (h : fuM s = (v, m)) (hm : m ≠ 0) : dU p s = dU (p ++ [v]) (s.drop m) := by
  obtain ⟨hv, hl, r, rfl⟩ := fu_inv h hm
  obtain ⟨c, t, e, hn, hvo⟩ := uB_cons v hv
  have ht : (c :: (t ++ r)).take (t.length + 1) = uB v := by rw [e, List.take_succ_cons, List.take_left]
  have e1 : uB v ++ r = c :: (t ++ r) := by rw [e]; rfl
  rw [hl, List.drop_left, e1, dU, hn, hvo, if_neg (by simp), if_neg (by omega), if_neg (fun h => h ht.symm), Nat.add_sub_cancel, List.drop_left]
/-- No unit begins the row: it is not right. -/
theorem dU_none {p : List Nat} {s : List UInt8} {v : Nat} (h : fuM s = (v, 0)) (hs : s ≠ []) : dU p s = none := by
  cases hd : dU p s with
  | none => rfl
  | some u =>
    obtain ⟨q, rfl, hq, hx⟩ := dU_fwd s.length p s (Nat.le_refl _) hd
    cases q with
    | nil => exact absurd hq.symm hs
    | cons x q =>
      have e : s = uB x ++ uBs q := by rw [← hq]; rfl
      have hx1 := hx x (by simp)
      rw [e, fu_some x hx1] at h
      injection h with h1 h2
      have := (uB_le x).2
      omega
end Go.Proofs.YtibkdmliolebgaaDoor
