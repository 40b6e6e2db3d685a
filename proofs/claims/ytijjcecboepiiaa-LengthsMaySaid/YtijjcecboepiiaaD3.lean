/-
  The document's words as texts: Number. Conditions: at most fifteen bits.
-/
import Derived.Test.YtijjcecboepiiaaD2
import Derived.Laws.RangeString
import Derived.Deep.LoopGhost
namespace Go.Proofs.Ytijjcecboepiiaa
open Go.RowKit

def bnum (l : List Bool) : Nat := l.foldl (fun a b => 2 * a + b.toNat) 0
theorem bnum_snoc (l : List Bool) (b : Bool) : bnum (l ++ [b]) = 2 * bnum l + b.toNat := by simp [bnum]
theorem fold_lt (l : List Bool) : ∀ a, l.foldl (fun a b => 2 * a + b.toNat) a + 1 ≤ (a + 1) * 2 ^ l.length := by
  induction l with
  | nil => intro a; simp
  | cons b l ih =>
    intro a
    have h := ih (2 * a + b.toNat)
    rw [List.foldl_cons, List.length_cons, Nat.pow_succ]
    refine Nat.le_trans h ?_
    rw [show (a + 1) * (2 ^ l.length * 2) = (2 * a + 2) * 2 ^ l.length by rw [Nat.mul_comm (2 ^ l.length), ← Nat.mul_assoc]; congr 1; omega]
    exact Nat.mul_le_mul_right _ (by cases b <;> simp)
theorem bnum_lt (l : List Bool) : bnum l < 2 ^ l.length := by have := fold_lt l 0; unfold bnum; omega
theorem bnum_hi : ∀ n v, bnum (hi n v) = v % 2 ^ n
  | 0, v => by rw [hi_zero]; simp [bnum, Nat.mod_one]
  | n + 1, v => by
    rw [hi_snoc, bnum_snoc, bnum_hi n (v / 2), Nat.pow_succ, Nat.mul_comm (2 ^ n), Nat.mod_mul]
    have : (v % 2 == 1).toNat = v % 2 := by rcases Nat.mod_two_eq_zero_or_one v with h | h <;> rw [h] <;> rfl
    omega

set_option maxHeartbeats 1000000 in
theorem number_any (l : List Bool) (n : Nat) (hn : l.length = n) (h15 : n ≤ 15) (w : World) : Calls Try.prog 21 #[.string (tx l)] w fun e w' => e = .returned (.int .u32 (bnum l : Nat)) ∧ Below w.heap.size w w' := by
  have hsz : (tx l).size = n := by rw [tx_size, hn]
  have HSZ := Lib.hid hsz; clear hsz
  have HN := Lib.hid hn; clear hn
  have HA := Lib.hid (tx_at l)
  have hb := bnum_lt l
  obtain ⟨s, hs⟩ : ∃ s, tx l = s := ⟨_, rfl⟩
  have HT := Lib.hid hs
  rw [hs] at HSZ ⊢
  clear hs hb
  go_enter Try.func21, Try.ntmps21
  go_wp2
  go_loopg [3, 5] n (fun j v _ wr => ∃ k : Nat, k ≤ n ∧ j = n - k ∧ v = .int .u32 (bnum (l.take k) : Nat) ∧ wr = w.iter s k)
  case atStart => exact ⟨0, by omega, rfl, rfl, rfl⟩
  case round =>
    obtain ⟨k, hk, rfl, rfl, rfl⟩ := hrel
    by_cases hlt : k < n
    · have hks : k < s.size := by rw [HSZ.out]; exact hlt
      have hkl : k < l.length := by rw [HN.out]; exact hlt
      have hv : (s[k].toNat) = if l[k] then 49 else 48 := by
        have h1 := HT.out
        subst h1
        rw [HA.out]; split <;> rfl
      have h128 : s[k].toNat < 128 := by rw [hv]; split <;> omega
      have hnx := fun ty => run_next_ascii (P := Try.prog) w s k ty hks h128
      have E := Lib.hid (bnum_snoc (l.take k) l[k])
      rw [← take_snoc l k hkl] at E
      have hbl := bnum_lt (l.take k)
      have hp : 2 ^ (l.take k).length ≤ 32768 := Nat.pow_le_pow_right (n := 2) (i := (l.take k).length) (j := 15) (by omega) (by simp; omega)
      have hb2 : bnum (l.take k) ≤ 32768 := by omega
      clear hbl hp h128
      have HV := Lib.hid hv; clear hv
      obtain ⟨V, hV⟩ : ∃ V, bnum (l.take k) = V := ⟨_, rfl⟩
      rw [hV] at E hb2 ⊢
      clear hV
      obtain ⟨x, hx⟩ : ∃ x, s[k].toNat = x := ⟨_, rfl⟩
      simp only [hx] at hnx
      rw [hx] at HV
      clear hx
      obtain ⟨b, hb⟩ : ∃ b, l[k] = b := ⟨_, rfl⟩
      rw [hb] at HV E
      clear hb
      cases b with
      | true =>
        obtain rfl : x = 49 := by have := HV.out; simpa using this
        go_wp2
        go_roundg (n - (k + 1))
        case measure => omega
        case rel => exact ⟨k + 1, by omega, rfl, by rw [E.out]; go_num, rfl⟩
      | false =>
        obtain rfl : x = 48 := by have := HV.out; simpa using this
        go_wp2
        go_roundg (n - (k + 1))
        case measure => omega
        case rel => exact ⟨k + 1, by omega, rfl, by rw [E.out]; go_num, rfl⟩
    · obtain rfl : k = n := by omega
      have hnx := fun ty => run_next_end (P := Try.prog) w s k ty (by rw [HSZ.out]; omega)
      rw [List.take_of_length_le (by rw [HN.out]; exact Nat.le_refl _)]
      go_wp2
      go_ret
      exact ⟨rfl, (Below.refl _ _).alloc (Nat.le_refl _) _⟩
end Go.Proofs.Ytijjcecboepiiaa
