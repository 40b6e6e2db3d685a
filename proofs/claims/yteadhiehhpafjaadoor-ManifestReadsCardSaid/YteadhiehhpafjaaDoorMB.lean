/-
  The document's Name. Conditions: a text of at most a million bytes.
-/
import Derived.Test.YteadhiehhpafjaaDoorMA
namespace Go.Proofs.YteadhiehhpafjaaDoor
open Go.RowKit
set_option maxRecDepth 100000

/-- A small or great letter, or a digit. -/
def letter (x : Nat) : Bool := decide (97 ≤ x ∧ x ≤ 122 ∨ 65 ≤ x ∧ x ≤ 90 ∨ 48 ≤ x ∧ x ≤ 57)
/-- A byte that a name may have at that place. -/
def okN (i x : Nat) : Bool := decide ((97 ≤ x ∧ x ≤ 122 ∨ 65 ≤ x ∧ x ≤ 90 ∨ 48 ≤ x ∧ x ≤ 57) ∨ (i ≠ 0 ∧ (x = 95 ∨ x = 45)))
def nameC (s : ByteArray) : Bool := (List.range s.size).all fun k => okN k (by_ s k)
def nameM (s : ByteArray) : Bool := nameC s && decide (1 ≤ s.size ∧ s.size ≤ 70)
theorem nameC_no {s : ByteArray} {k : Nat} (h : k < s.size) (hb : okN k (by_ s k) = false) : nameC s = false := by
  unfold nameC
  rw [List.all_eq_false]
  exact ⟨k, List.mem_range.2 h, by rw [hb]; simp⟩
theorem nameC_yes {s : ByteArray} (h : ∀ j, j < s.size → okN j (by_ s j) = true) : nameC s = true := by
  unfold nameC
  rw [List.all_eq_true]
  exact fun k hk => h k (List.mem_range.1 hk)

set_option linter.unusedSimpArgs false in
set_option maxHeartbeats 4000000 in
theorem name_any (s : ByteArray) (n : Nat) (hn : s.size = n) (hs : n ≤ 1000000) (w : World) : Calls Tryd.prog 18 #[.string s] w (Rets w (.bool (nameM s))) := by
  go_enter Tryd.func18, Tryd.ntmps18
  go_wp2
  go_loopg [3] n (fun j v wr => ∃ k : Nat, k ≤ n ∧ j = n - k ∧ v = .int .i64 k ∧ wr = w ∧ ∀ j, j < k → okN j (by_ s j) = true)
  case atStart => exact ⟨0, by omega, rfl, rfl, rfl, fun j hj => by omega⟩
  case round =>
    obtain ⟨k, hk, rfl, rfl, rfl, hal⟩ := hrel
    by_cases hlt : k < n
    · have hks : k < s.size := by omega
      have hx := by_at s k hks
      have hr : ∀ j, okN k (by_ s k) = true → j < k + 1 → okN j (by_ s j) = true := by
        intro j ho hj
        by_cases hjk : j < k
        · exact hal j hjk
        · obtain rfl : j = k := by omega
          exact ho
      have HR := Lib.hid hr
      have HF := Lib.hid (fun h => show nameM s = false by rw [nameM, nameC_no hks h, Bool.false_and])
      rw [hx] at HR HF
      clear hr hal hx
      go_wp2
      all_goals rename_i h5 h4 h3 h2 h1
      all_goals try simp only [Bool.and_eq_true, Bool.or_eq_true, Bool.not_eq_true', Bool.not_eq_false', decide_eq_false_iff_not, decide_eq_true_eq, bne_iff_ne, beq_iff_eq, bne_eq_false_iff_eq, beq_eq_false_iff_ne, ne_eq] at h1
      all_goals try simp only [Bool.and_eq_true, Bool.or_eq_true, Bool.not_eq_true', Bool.not_eq_false', decide_eq_false_iff_not, decide_eq_true_eq, bne_iff_ne, beq_iff_eq, bne_eq_false_iff_eq, beq_eq_false_iff_ne, ne_eq] at h2
      all_goals try simp only [Bool.and_eq_true, Bool.or_eq_true, Bool.not_eq_true', Bool.not_eq_false', decide_eq_false_iff_not, decide_eq_true_eq, bne_iff_ne, beq_iff_eq, bne_eq_false_iff_eq, beq_eq_false_iff_ne, ne_eq] at h3
      all_goals try simp only [Bool.and_eq_true, Bool.or_eq_true, Bool.not_eq_true', Bool.not_eq_false', decide_eq_false_iff_not, decide_eq_true_eq, bne_iff_ne, beq_iff_eq, bne_eq_false_iff_eq, beq_eq_false_iff_ne, ne_eq] at h4
      all_goals try simp only [Bool.and_eq_true, Bool.or_eq_true, Bool.not_eq_true', Bool.not_eq_false', decide_eq_false_iff_not, decide_eq_true_eq, bne_iff_ne, beq_iff_eq, bne_eq_false_iff_eq, beq_eq_false_iff_ne, ne_eq] at h5
      all_goals try (have hk0 : k = 0 := ‹k = 0›; subst hk0)
      all_goals first
        | (go_ret; refine ⟨?_, rfl⟩; rw [HF.out (by unfold okN; rw [decide_eq_false_iff_not]; omega)]; rfl)
        | (go_roundg (n - (0 + 1))
           case measure => omega
           case rel => exact ⟨0 + 1, by omega, rfl, by go_num, rfl, fun j => HR.out j (by unfold okN; rw [decide_eq_true_iff]; omega)⟩)
        | (go_roundg (n - (k + 1))
           case measure => omega
           case rel => exact ⟨k + 1, by omega, rfl, by go_num, rfl, fun j => HR.out j (by unfold okN; rw [decide_eq_true_iff]; omega)⟩)
    · obtain rfl : k = n := by omega
      have hv := nameC_yes (fun j (hj : j < s.size) => hal j (by omega))
      have hw : nameM s = decide (1 ≤ s.size ∧ s.size ≤ 70) := by rw [nameM, hv, Bool.true_and]
      rw [hn] at hw
      have HW := Lib.hid hw
      clear hw hv
      by_cases h1 : 1 ≤ k
      · by_cases h2 : k ≤ 70
        · have hw : nameM s = true := by rw [HW.out, decide_eq_true_iff]; omega
          have hd : decide ((k : Int) ≤ 70) = true := by rw [decide_eq_true_iff]; omega
          go_wp2
          go_ret
          exact ⟨by rw [hw, ← hd]; rfl, rfl⟩
        · have hw : nameM s = false := by rw [HW.out, decide_eq_false_iff_not]; omega
          have hd : decide ((k : Int) ≤ 70) = false := by rw [decide_eq_false_iff_not]; omega
          go_wp2
          go_ret
          exact ⟨by rw [hw, ← hd]; rfl, rfl⟩
      · have hw : nameM s = false := by rw [HW.out, decide_eq_false_iff_not]; omega
        go_wp2
        go_ret
        exact ⟨rfl, rfl⟩
end Go.Proofs.YteadhiehhpafjaaDoor
