/-
  The reader and the document s reader, call by call: the same answers. Conditions: each theorem names the range of its arguments.
-/
import Derived.Test.YtgjpfmijijbjbaaQ1
namespace Go.Proofs.Ytgjpfmijijbjbaa
open Go.RowKit

theorem unpack_append (a b : List Nat) : unpack (a ++ b) = unpack a ++ unpack b := by simp [unpack]
theorem unpack_drop (bs : List Nat) (q : Nat) (h : q ≤ bs.length) : (unpack bs).drop (8 * q) = unpack (bs.drop q) := by
  have h1 : unpack bs = unpack (bs.take q) ++ unpack (bs.drop q) := by rw [← unpack_append, List.take_append_drop]
  have h2 : (unpack (bs.take q)).length = 8 * q := by simp; omega
  rw [h1, List.drop_append_of_le_length (by omega), List.drop_of_length_le (by omega), List.nil_append]
theorem unpack_take (bs : List Nat) (q : Nat) (h : q ≤ bs.length) : (unpack bs).take (8 * q) = unpack (bs.take q) := by
  have h1 : unpack bs = unpack (bs.take q) ++ unpack (bs.drop q) := by rw [← unpack_append, List.take_append_drop]
  have h2 : (unpack (bs.take q)).length = 8 * q := by simp; omega
  rw [h1, List.take_append_of_le_length (by omega), List.take_of_length_le (by omega)]
theorem pack_unpack (l : List Nat) (h : ∀ x ∈ l, x < 256) : pack (unpack l) = l := by
  apply List.ext_getElem?
  intro i
  by_cases hi : i < l.length
  · rw [pack_get _ _ (by simp; omega), List.getElem?_eq_getElem hi, unpack_part l (8 * i) 8 (by omega) (by omega), num_bitsOf]
    have h1 : 8 * i / 8 = i := by omega
    have h2 : 8 * i % 8 = 0 := by omega
    simp only [h1, h2, Nat.pow_zero, Nat.div_one]
    have := h _ (List.getElem_mem hi)
    rw [Nat.mod_eq_of_lt (by omega)]
  · rw [List.getElem?_eq_none (by simp; omega), List.getElem?_eq_none (by omega)]
theorem pack_mid (bs : List Nat) (q n : Nat) (h : ∀ x ∈ bs, x < 256) (hq : q + n ≤ bs.length) : pack (((unpack bs).drop (q * 8)).take (8 * n)) = (bs.drop q).take n := by
  rw [Nat.mul_comm q 8, unpack_drop bs q (by omega), unpack_take _ n (by simp; omega), pack_unpack]
  intro x hx
  exact h x (List.mem_of_mem_drop (List.mem_of_mem_take hx))

/-- What Get answers: the number, the error, the place. -/
def getR (l : List Bool) (a : Nat) (n : Int) : Nat × Int × Nat :=
  if n < 0 ∨ 32 < n then (0, 1, a) else if (l.length : Int) - a < n then (0, 6, a) else (num ((l.drop a).take n.toNat), 0, a + n.toNat)
/-- What Take answers: the bytes, the error, the place. -/
def takeR (bs : List Nat) (a : Nat) (n : Int) : List Nat × Int × Nat :=
  if n < 0 then ([], 1, a) else if (bs.length : Int) - ((a + 7) / 8 : Nat) < n then ([], 6, (a + 7) / 8 * 8) else ((bs.drop ((a + 7) / 8)).take n.toNat, 0, (a + 7) / 8 * 8 + 8 * n.toNat)

theorem getR_place (l : List Bool) (a : Nat) (n : Int) (h : a ≤ l.length) : (getR l a n).2.2 ≤ l.length := by
  unfold getR
  split
  · exact h
  · split
    · exact h
    · simp only; omega
theorem takeR_place (bs : List Nat) (a : Nat) (n : Int) (h : a ≤ 8 * bs.length) : (takeR bs a n).2.2 ≤ 8 * bs.length := by
  unfold takeR
  split
  · exact h
  · split
    · simp only; omega
    · simp only; omega

theorem get_any (B g : Nat) (sv : Value) (bs : List Nat) (a : Nat) (n : Int) (w : World) (h : ReaderAt w B g sv bs a) (hb : bs.length ≤ 1000) (h256 : ∀ x ∈ bs, x < 256) (ha : a ≤ 8 * bs.length) :
    Calls Try.prog 19 #[.pointer (some ⟨g, 0, none⟩), .int .i64 n] w fun e w' => e = .returned (.tuple #[.int .u32 (getR (unpack bs) a n).1, .int .i64 (getR (unpack bs) a n).2.1]) ∧ ReaderAt w' B g sv bs (getR (unpack bs) a n).2.2 ∧ Only (fun k => k = g) w w' := by
  unfold getR
  by_cases h1 : n < 0 ∨ 32 < n
  · rw [if_pos h1]
    refine (get_arg g n h1 w).mono ?_
    rintro e w' ⟨rfl, rfl⟩
    exact ⟨rfl, h, Only.refl _ _⟩
  · rw [if_neg h1]
    by_cases h2 : ((unpack bs).length : Int) - a < n
    · rw [if_pos h2]
      rw [unpack_length] at h2
      refine (get_end B g sv bs a n w h (by omega) ha (by omega) (by omega)).mono ?_
      rintro e w' ⟨rfl, rfl⟩
      exact ⟨rfl, h, (Only.refl _ _).drew⟩
    · rw [if_neg h2]
      rw [unpack_length] at h2
      obtain ⟨k, rfl⟩ := Int.eq_ofNat_of_zero_le (show 0 ≤ n by omega)
      refine (get_yes B g sv bs a k w h (by omega) h256 (by omega) (by omega)).mono ?_
      rintro e w' ⟨rfl, hR, hO⟩
      exact ⟨rfl, hR, hO⟩
theorem refGet_any (B g : Nat) (sv : Value) (l : List Bool) (a : Nat) (n : Int) (w : World) (h : RefAt w B g sv l a) (hb : l.length ≤ 8000) (ha : a ≤ l.length) :
    Calls Try.prog 20 #[.pointer (some ⟨g, 0, none⟩), .int .i64 n] w fun e w' => e = .returned (.tuple #[.int .u32 (getR l a n).1, .int .i64 (getR l a n).2.1]) ∧ RefAt w' B g sv l (getR l a n).2.2 ∧ Only (fun k => k = g) w w' := by
  unfold getR
  by_cases h1 : n < 0 ∨ 32 < n
  · rw [if_pos h1]
    refine (refGet_arg g n h1 w).mono ?_
    rintro e w' ⟨rfl, rfl⟩
    exact ⟨rfl, h, Only.refl _ _⟩
  · rw [if_neg h1]
    by_cases h2 : (l.length : Int) - a < n
    · rw [if_pos h2]
      refine (refGet_end B g sv l a n w h ha (by omega) h2).mono ?_
      rintro e w' ⟨rfl, rfl⟩
      exact ⟨rfl, h, (Only.refl _ _).drew⟩
    · rw [if_neg h2]
      obtain ⟨k, rfl⟩ := Int.eq_ofNat_of_zero_le (show 0 ≤ n by omega)
      refine (refGet_yes B g sv l a k w h (by omega) (by omega) (by omega)).mono ?_
      rintro e w' ⟨rfl, hR, hO⟩
      exact ⟨rfl, hR, hO⟩

/-- Take's answer in memory: a row of these bytes. -/
def TakeSeen (w : World) (xs : List Nat) (err : Int) (e : Ending) (w' : World) : Prop :=
  ∃ v, e = .returned (.tuple #[v, .int .i64 err]) ∧ w'.ownsRow w.heap.size 5 1 v xs.length (xs.map fun x : Nat => Value.int .u8 x)

theorem take_any (B g : Nat) (sv : Value) (bs : List Nat) (a : Nat) (n : Int) (w : World) (h : ReaderAt w B g sv bs a) (hb : bs.length ≤ 1000) (ha : a ≤ 8 * bs.length) :
    Calls Try.prog 23 #[.pointer (some ⟨g, 0, none⟩), .int .i64 n] w fun e w' => TakeSeen w (takeR bs a n).1 (takeR bs a n).2.1 e w' ∧ ReaderAt w' B g sv bs (takeR bs a n).2.2 ∧ Only (fun k => k = g) w w' := by
  unfold takeR
  by_cases h1 : n < 0
  · rw [if_pos h1]
    refine (take_neg g n h1 w).mono ?_
    rintro e w' ⟨rfl, rfl⟩
    exact ⟨⟨_, rfl, World.ownsRow_nil _ _ _ _⟩, h, Only.refl _ _⟩
  · rw [if_neg h1]
    by_cases h2 : (bs.length : Int) - ((a + 7) / 8 : Nat) < n
    · rw [if_pos h2]
      refine (take_end B g sv bs a n w h (by omega) ha (by omega) h2).mono ?_
      rintro e w' ⟨rfl, hR, hO⟩
      exact ⟨⟨_, rfl, World.ownsRow_nil _ _ _ _⟩, hR, hO⟩
    · rw [if_neg h2]
      obtain ⟨k, rfl⟩ := Int.eq_ofNat_of_zero_le (show 0 ≤ n by omega)
      refine (take_yes B g sv bs a k w h (by omega) (by omega)).mono ?_
      rintro e w' ⟨v, rfl, ho, hR, hO⟩
      have hl : ((bs.drop ((a + 7) / 8)).take k).length = k := by simp; omega
      refine ⟨⟨v, rfl, ?_⟩, hR, hO⟩
      simp only [Int.toNat_natCast, hl]
      exact ho
theorem refTake_any (B g : Nat) (sv : Value) (bs : List Nat) (a : Nat) (n : Int) (w : World) (h : RefAt w B g sv (unpack bs) a) (hb : bs.length ≤ 1000) (h256 : ∀ x ∈ bs, x < 256) (ha : a ≤ 8 * bs.length) :
    Calls Try.prog 24 #[.pointer (some ⟨g, 0, none⟩), .int .i64 n] w fun e w' => TakeSeen w (takeR bs a n).1 (takeR bs a n).2.1 e w' ∧ RefAt w' B g sv (unpack bs) (takeR bs a n).2.2 ∧ Only (fun k => k = g) w w' := by
  unfold takeR
  by_cases h1 : n < 0
  · rw [if_pos h1]
    refine (refTake_neg g n h1 w).mono ?_
    rintro e w' ⟨rfl, rfl⟩
    exact ⟨⟨_, rfl, World.ownsRow_nil _ _ _ _⟩, h, Only.refl _ _⟩
  · rw [if_neg h1]
    by_cases h2 : (bs.length : Int) - ((a + 7) / 8 : Nat) < n
    · rw [if_pos h2]
      refine (refTake_end B g sv (unpack bs) a n w h (by simp; omega) (by simp; omega) (by omega) (by rw [unpack_length]; omega)).mono ?_
      rintro e w' ⟨rfl, hR, hO⟩
      exact ⟨⟨_, rfl, World.ownsRow_nil _ _ _ _⟩, hR, hO⟩
    · rw [if_neg h2]
      obtain ⟨k, rfl⟩ := Int.eq_ofNat_of_zero_le (show 0 ≤ n by omega)
      refine (refTake_yes B g sv (unpack bs) a k w h (by simp; omega) (by simp; omega)).mono ?_
      rintro e w' ⟨v, rfl, ho, hR, hO⟩
      rw [pack_mid bs ((a + 7) / 8) k h256 (by omega)] at ho
      have hl : ((bs.drop ((a + 7) / 8)).take k).length = k := by simp; omega
      refine ⟨⟨v, rfl, ?_⟩, hR, hO⟩
      simp only [Int.toNat_natCast, hl]
      exact ho

theorem ReaderAt.keep {w w' : World} {B g gq : Nat} {sv : Value} {bs : List Nat} {a : Nat} {cs : Array Value} (h : ReaderAt w B g sv bs a) (hq : Whole w gq 43 cs) (ho : Only (fun k => k = gq) w w') : ReaderAt w' B g sv bs a :=
  ⟨h.1, h.2.1.only ho (fun e => h.2.1.ne hq (by decide) e), own_only h.2.2 ho (fun k hk e => own_ne_whole h.2.2 hq (by decide) k hk e)⟩
theorem RefAt.keep {w w' : World} {B g gq : Nat} {sv : Value} {l : List Bool} {a : Nat} {cs : Array Value} (h : RefAt w B gq sv l a) (hq : Whole w g 76 cs) (ho : Only (fun k => k = g) w w') : RefAt w' B gq sv l a :=
  ⟨h.1, h.2.1.only ho (fun e => h.2.1.ne hq (by decide) e), own_only h.2.2 ho (fun k hk e => own_ne_whole h.2.2 hq (by decide) k hk e)⟩
theorem RefAt.only {w w' : World} {B g : Nat} {sv : Value} {l : List Bool} {a : Nat} {S : Nat → Prop} (h : RefAt w B g sv l a) (ho : Only S w w') (hS : ∀ k, k < w.heap.size → ¬ S k) : RefAt w' B g sv l a :=
  ⟨h.1, h.2.1.only ho (hS _ h.2.1.lt), own_only h.2.2 ho (fun k hk => hS k (own_whole h.2.2 hk).2.choose_spec.lt)⟩
end Go.Proofs.Ytgjpfmijijbjbaa
