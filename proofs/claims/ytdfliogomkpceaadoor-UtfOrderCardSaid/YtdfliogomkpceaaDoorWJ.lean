/-
  Mathematics: rows of units with 0's bytes put down to the least byte stand as their units do. Conditions: none.
-/
import Derived.Test.YtdfliogomkpceaaDoorUH
import Derived.Lib.Replace
import Derived.Lib.CountLaws
import Derived.Lib.IndexLaws
namespace Go.Proofs.YtdfliogomkpceaaDoor
open Go Go.RowKit
set_option maxRecDepth 100000

def zr : List UInt8 := [192, 128]
def ra (s : List UInt8) : List UInt8 := Lib.replaceK zr [0] (Lib.count s zr) s
theorem ra_all (s : List UInt8) : Lib.replaceAll s zr [0] = ra s := by
  unfold Lib.replaceAll Lib.replace Lib.replaceNum
  have e : (zr == [0]) = false := by decide
  rw [e]
  simp only [Bool.false_eq_true, if_false]
  rw [if_pos (.inl (by decide))]; rfl
theorem ra_nil : ra [] = [] := rfl
theorem zr_ne : zr ≠ [] := by decide
theorem index_other {c : UInt8} (t : List UInt8) (h : c ≠ 192) : Lib.index (c :: t) zr = if Lib.index t zr == -1 then -1 else Lib.index t zr + 1 := by
  rw [Lib.index]
  have : zr.isPrefixOf (c :: t) = false := by
    show ((192 == c) && _) = false
    have : ((192 : UInt8) == c) = false := by rw [beq_eq_false_iff_ne]; exact fun e => h e.symm
    rw [this]; rfl
  rw [this]; simp
theorem ra_other {c : UInt8} (t : List UInt8) (h : c ≠ 192) : ra (c :: t) = c :: ra t := by
  have hi := index_other t h
  rcases Lib.index_spec t zr with ⟨h1, _⟩ | ⟨i, h1, _⟩
  · rw [h1] at hi
    have h2 : Lib.index (c :: t) zr = -1 := by rw [hi]; rfl
    unfold ra
    rw [Lib.count_miss h1, Lib.count_miss h2]; rfl
  · have h2 : Lib.index (c :: t) zr = ((i + 1 : Nat) : Int) := by
      have e : (Lib.index t zr == -1) = false := by rw [beq_eq_false_iff_ne]; omega
      rw [hi, e, h1]; simp
    unfold ra
    rw [Lib.count_hit zr_ne h1, Lib.count_hit zr_ne h2]
    have e : (c :: t).drop (i + 1 + zr.length) = t.drop (i + zr.length) := by
      rw [show i + 1 + zr.length = i + zr.length + 1 by omega, List.drop_succ_cons]
    rw [e, Nat.add_comm 1, Lib.replaceK_hit _ _ _ _ _ h1, Lib.replaceK_hit _ _ _ _ _ h2, e]; rfl
theorem ra_zero (t : List UInt8) : ra (192 :: 128 :: t) = 0 :: ra t := by
  have h1 : Lib.index (192 :: 128 :: t) zr = ((0 : Nat) : Int) := by
    rw [Lib.index]
    have : zr.isPrefixOf (192 :: 128 :: t) = true := rfl
    rw [this]; rfl
  unfold ra
  rw [Lib.count_hit zr_ne h1, Nat.add_comm 1, Lib.replaceK_hit _ _ _ _ _ h1]; rfl
/-- A unit's bytes, 0's put down to one. -/
def rB (x : Nat) : List UInt8 := if x = 0 then [0] else uB x
def rBs (l : List Nat) : List UInt8 := l.flatMap rB
theorem u8_ne {x : Nat} (h : x < 256) (hx : x ≠ 192) : UInt8.ofNat x ≠ 192 := fun e => hx (by rw [← u8n x h, e]; rfl)
theorem ra_unit (x : Nat) (hx : x < 65536) (r : List UInt8) : ra (uB x ++ r) = rB x ++ ra r := by
  unfold rB
  by_cases h0 : x = 0
  · subst h0
    rw [if_pos rfl]
    exact ra_zero r
  · rw [if_neg h0]
    unfold uB
    by_cases h1 : 1 ≤ x ∧ x < 128
    · rw [if_pos h1, List.singleton_append, ra_other _ (u8_ne (by omega) (by omega))]; rfl
    · rw [if_neg h1]
      by_cases h2 : x < 2048
      · rw [if_pos h2]
        simp only [List.cons_append, List.nil_append]
        rw [ra_other _ (u8_ne (by omega) (by omega)), ra_other _ (u8_ne (by omega) (by omega))]
      · rw [if_neg h2]
        simp only [List.cons_append, List.nil_append]
        rw [ra_other _ (u8_ne (by omega) (by omega)), ra_other _ (u8_ne (by omega) (by omega)), ra_other _ (u8_ne (by omega) (by omega))]
theorem ra_units : ∀ l : List Nat, (∀ x ∈ l, x < 65536) → ra (uBs l) = rBs l
  | [], _ => ra_nil
  | x :: l, h => by
    show ra (uB x ++ uBs l) = rB x ++ rBs l
    rw [ra_unit x (h x (by simp)), ra_units l fun y hy => h y (by simp [hy])]
theorem bl_cons (a b : UInt8) (x y : List UInt8) : Op.bytesLess (a :: x) (b :: y) = if a.toNat < b.toNat then true else if a.toNat = b.toNat then Op.bytesLess x y else false := by
  rw [Op.bytesLess]
  by_cases h1 : a.toNat < b.toNat
  · have : a < b := UInt8.lt_iff_toNat_lt.2 h1
    simp [h1, this]
  · have h1' : ¬ a < b := fun h => h1 (UInt8.lt_iff_toNat_lt.1 h)
    by_cases h2 : a.toNat = b.toNat
    · have : a = b := UInt8.toNat_inj.1 h2
      subst this
      simp
    · have : ¬ a = b := fun e => h2 (by rw [e])
      simp [h1, h1', h2, this]
theorem bl_app : ∀ (p x y : List UInt8), Op.bytesLess (p ++ x) (p ++ y) = Op.bytesLess x y
  | [], _, _ => rfl
  | a :: p, x, y => by rw [List.cons_append, List.cons_append, bl_cons, if_neg (Nat.lt_irrefl _), if_pos rfl, bl_app p x y]
theorem rB_one {x : Nat} (h : x < 128) : rB x = [UInt8.ofNat x] := by
  unfold rB
  by_cases h0 : x = 0
  · subst h0; rfl
  · rw [if_neg h0, uB, if_pos (by omega)]
theorem rB_two {x : Nat} (h : 128 ≤ x) (h2 : x < 2048) : rB x = [UInt8.ofNat (192 + x / 64), UInt8.ofNat (128 + x % 64)] := by
  unfold rB; rw [if_neg (by omega), uB, if_neg (by omega), if_pos h2]
theorem rB_three {x : Nat} (h : 2048 ≤ x) : rB x = [UInt8.ofNat (224 + x / 4096), UInt8.ofNat (128 + x / 64 % 64), UInt8.ofNat (128 + x % 64)] := by
  unfold rB; rw [if_neg (by omega), uB, if_neg (by omega), if_neg (by omega)]
theorem rB_lt {x y : Nat} (h : x < y) (hy : y < 65536) (s t : List UInt8) : Op.bytesLess (rB x ++ s) (rB y ++ t) = true ∧ Op.bytesLess (rB y ++ t) (rB x ++ s) = false := by
  have nn : ∀ k, k < 256 → (UInt8.ofNat k).toNat = k := u8n
  by_cases y1 : y < 128
  · rw [rB_one y1, rB_one (by omega), List.singleton_append, List.singleton_append, bl_cons, bl_cons, nn _ (by omega), nn _ (by omega), if_pos h, if_neg (by omega), if_neg (by omega)]
    exact ⟨rfl, rfl⟩
  by_cases y2 : y < 2048
  · rw [rB_two (x := y) (by omega) y2]
    by_cases x1 : x < 128
    · rw [rB_one x1]
      simp only [List.cons_append, List.nil_append]
      rw [bl_cons, bl_cons, nn _ (by omega), nn _ (by omega), if_pos (by omega), if_neg (by omega), if_neg (by omega)]
      exact ⟨rfl, rfl⟩
    · rw [rB_two (by omega) (by omega)]
      simp only [List.cons_append, List.nil_append]
      rw [bl_cons, bl_cons, bl_cons, bl_cons, nn _ (by omega), nn _ (by omega), nn _ (by omega), nn _ (by omega)]
      by_cases e : x / 64 = y / 64
      · rw [if_neg (by omega), if_pos (by omega), if_pos (by omega), if_neg (by omega), if_pos (by omega), if_neg (by omega), if_neg (by omega)]
        exact ⟨rfl, rfl⟩
      · rw [if_pos (by omega), if_neg (by omega), if_neg (by omega)]
        exact ⟨rfl, rfl⟩
  · rw [rB_three (x := y) (by omega)]
    by_cases x1 : x < 128
    · rw [rB_one x1]
      simp only [List.cons_append, List.nil_append]
      rw [bl_cons, bl_cons, nn _ (by omega), nn _ (by omega), if_pos (by omega), if_neg (by omega), if_neg (by omega)]
      exact ⟨rfl, rfl⟩
    by_cases x2 : x < 2048
    · rw [rB_two (by omega) x2]
      simp only [List.cons_append, List.nil_append]
      rw [bl_cons, bl_cons (UInt8.ofNat (224 + y / 4096)), nn (192 + x / 64) (by omega), nn (224 + y / 4096) (by omega), if_pos (by omega), if_neg (by omega), if_neg (by omega)]
      exact ⟨rfl, rfl⟩
    · rw [rB_three (by omega)]
      simp only [List.cons_append, List.nil_append]
      rw [bl_cons, bl_cons, bl_cons, bl_cons, bl_cons, bl_cons, nn _ (by omega), nn _ (by omega), nn _ (by omega), nn _ (by omega), nn _ (by omega), nn _ (by omega)]
      by_cases e : x / 4096 = y / 4096
      · rw [if_neg (by omega), if_pos (by omega)]
        by_cases e2 : x / 64 % 64 = y / 64 % 64
        · rw [if_neg (by omega), if_pos (by omega), if_pos (by omega), if_neg (by omega), if_pos (by omega), if_neg (by omega), if_pos (by omega), if_neg (by omega), if_neg (by omega)]
          exact ⟨rfl, rfl⟩
        · rw [if_pos (by omega), if_neg (by omega), if_pos (by omega), if_neg (by omega), if_neg (by omega)]
          exact ⟨rfl, rfl⟩
      · rw [if_pos (by omega), if_neg (by omega), if_neg (by omega)]
        exact ⟨rfl, rfl⟩
theorem rB_cons (y : Nat) : ∃ c t, rB y = c :: t := by
  unfold rB
  split
  · exact ⟨_, _, rfl⟩
  · cases h : uB y with
    | nil => have := (uB_le y).2; rw [h] at this; simp at this
    | cons c t => exact ⟨_, _, rfl⟩
/-- ROWS STAND AS THEIR UNITS DO. -/
theorem rBs_lt : ∀ a b : List Nat, (∀ x ∈ a, x < 65536) → (∀ x ∈ b, x < 65536) → Op.bytesLess (rBs a) (rBs b) = ltU a b
  | [], [], _, _ => rfl
  | [], y :: b, _, _ => by
    obtain ⟨c, t, e⟩ := rB_cons y
    show Op.bytesLess [] (rB y ++ rBs b) = true
    rw [e]; rfl
  | x :: a, [], _, _ => by
    obtain ⟨c, t, e⟩ := rB_cons x
    show Op.bytesLess (rB x ++ rBs a) [] = false
    rw [e]; rfl
  | x :: a, y :: b, ha, hb => by
    show Op.bytesLess (rB x ++ rBs a) (rB y ++ rBs b) = if x = y then ltU a b else decide (x < y)
    have hx := ha x (by simp)
    have hy := hb y (by simp)
    by_cases e : x = y
    · subst e
      rw [if_pos rfl, bl_app, rBs_lt a b (fun z hz => ha z (by simp [hz])) (fun z hz => hb z (by simp [hz]))]
    · rw [if_neg e]
      rcases Nat.lt_or_ge x y with h | h
      · rw [(rB_lt h hy _ _).1, decide_eq_true h]
      · rw [(rB_lt (show y < x by omega) hx _ _).2, decide_eq_false (by omega)]
end Go.Proofs.YtdfliogomkpceaaDoor
