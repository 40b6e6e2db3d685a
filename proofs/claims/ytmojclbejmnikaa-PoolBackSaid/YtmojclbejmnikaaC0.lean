/-
  Plain mathematics of numbers' bytes, and words for blocks of bytes. Conditions: none. Nothing of the program stands here.
-/
import Derived.Test.YtmojclbejmnikaaB
import Derived.Laws.CopyOwn
namespace Go.Proofs.Ytmojclbejmnikaa
open Go.RowKit

/-- A number's bytes, the lowest first. -/
def leb (v : Nat) : Nat → List Nat
  | 0 => []
  | n + 1 => v % 256 :: leb (v / 256) n

@[simp] theorem leb_length (v n : Nat) : (leb v n).length = n := by
  induction n generalizing v with
  | zero => rfl
  | succ n ih => simp [leb, ih]

theorem leb_succ (v n : Nat) : leb v (n + 1) = leb v n ++ [v / 256 ^ n % 256] := by
  induction n generalizing v with
  | zero => simp [leb]
  | succ n ih =>
    rw [leb, ih]
    simp only [leb, List.cons_append]
    rw [Nat.div_div_eq_div_mul, Nat.pow_succ, Nat.mul_comm 256]

theorem leb_lt (v n : Nat) : ∀ x ∈ leb v n, x < 256 := by
  induction n generalizing v with
  | zero => simp [leb]
  | succ n ih =>
    intro x hx
    simp only [leb, List.mem_cons] at hx
    rcases hx with rfl | hx
    · omega
    · exact ih _ x hx

/-- What bytes tell, the lowest first. -/
def len_ (l : List Nat) : Nat := l.foldr (fun b v => b + 256 * v) 0
/-- What bytes tell, the highest first. -/
def big_ (l : List Nat) : Nat := l.foldl (fun v b => v * 256 + b) 0

theorem len_leb (v n : Nat) : len_ (leb v n) = v % 256 ^ n := by
  induction n generalizing v with
  | zero => simp [leb, len_, Nat.mod_one]
  | succ n ih =>
    have h1 : len_ (leb v (n + 1)) = v % 256 + 256 * len_ (leb (v / 256) n) := rfl
    rw [h1, ih, Nat.pow_succ, Nat.mul_comm (256 ^ n) 256, Nat.mod_mul]

theorem big_reverse (l : List Nat) : big_ l.reverse = len_ l := by
  unfold big_ len_
  rw [List.foldl_reverse]
  congr 1
  funext b v
  omega

theorem big_append (l : List Nat) (x : Nat) : big_ (l ++ [x]) = big_ l * 256 + x := by
  simp [big_]

theorem big_lt (l : List Nat) (h : ∀ x ∈ l, x < 256) : big_ l < 256 ^ l.length := by
  have key : ∀ (r : List Nat), (∀ x ∈ r, x < 256) → len_ r < 256 ^ r.length := by
    intro r
    induction r with
    | nil => simp [len_]
    | cons a r ih =>
      intro h
      have h1 : len_ (a :: r) = a + 256 * len_ r := rfl
      have h2 := ih (fun x hx => h x (by simp [hx]))
      have h3 := h a (by simp)
      rw [h1, List.length_cons, Nat.pow_succ]
      omega
  have := key l.reverse (by simpa using h)
  rw [← big_reverse, List.reverse_reverse, List.length_reverse] at this
  exact this

/-- Values of bytes. -/
def bv (l : List Nat) : List Value := l.map fun x : Nat => Value.int .u8 x

theorem bv_append (a b : List Nat) : bv (a ++ b) = bv a ++ bv b := List.map_append
@[simp] theorem bv_length (a : List Nat) : (bv a).length = a.length := List.length_map _
theorem bv_set (a : List Nat) (i x : Nat) : (bv a).set i (.int .u8 x) = bv (a.set i x) := by simp [bv, List.map_set]
theorem bv_get (a : List Nat) (i : Nat) (h : i < a.length) : (bv a)[i]? = some (.int .u8 (a[i] : Nat)) := by simp [bv, h]

theorem set_front (bs t : List Nat) (r x : Nat) : (bs ++ List.replicate (r + 1) 0 ++ t).set (bs.length + r) x = bs ++ List.replicate r 0 ++ x :: t := by
  rw [List.append_assoc, List.set_append_right _ _ (by omega), List.replicate_succ', List.append_assoc, List.append_assoc]
  congr 1
  rw [show bs.length + r - bs.length = r by omega, List.set_append_right _ _ (by simp)]
  simp
theorem set_back (bs t : List Nat) (r x : Nat) : (bs ++ t ++ List.replicate (r + 1) 0).set (bs.length + t.length) x = bs ++ (t ++ [x]) ++ List.replicate r 0 := by
  rw [List.set_append_right _ _ (by simp), List.length_append, Nat.sub_self, List.replicate_succ]
  simp

theorem own_full {w : World} {base : Nat} {e : TypeId} {g n : Nat} {xs : List Value} (h : w.ownsRow base e 1 (.slice (some ⟨g, 0, none⟩) n n) n xs) : Whole w g e xs.toArray := by
  rcases h.2 with ⟨hv, _⟩ | ⟨g', cap, cur, hv, _, hh, _, _, hcs, ht⟩
  · cases hv
  · injection hv with h1 h2 h3
    injection h1 with h1
    injection h1 with h1
    subst h1 h3
    have : cur.toList = xs := by rw [← ht, List.take_of_length_le (by simp; omega)]
    unfold Whole
    rw [hh, ← this]

theorem own_of_whole {w : World} {base : Nat} {e : TypeId} {g n : Nat} {xs : List Value} (h : Whole w g e xs.toArray) (hn : xs.length = n) (hm : n ≤ maxLen) (hb : base ≤ g) : w.ownsRow base e 1 (.slice (some ⟨g, 0, none⟩) n n) n xs := by
  refine ⟨by omega, .inr ⟨g, n, xs.toArray, rfl, hb, h, Nat.le_refl _, hm, by simp; omega, ?_⟩⟩
  simp only
  exact List.take_of_length_le (by omega)
end Go.Proofs.Ytmojclbejmnikaa
