/-
  The document's Value. Conditions: a text of at most a million bytes.
-/
import Derived.Test.YteadhiehhpafjaaDoorB
import Derived.Test.YteadhiehhpafjaaDoorProg
import Derived.Deep.LoopGhost
import Derived.Laws.Concat
namespace Go.Proofs.YteadhiehhpafjaaDoor
open Go.RowKit
set_option maxRecDepth 100000

/-- A sign's byte. -/
def by_ (s : ByteArray) (k : Nat) : Nat := (s.data.toList.getD k 0).toNat
theorem by_lt (s : ByteArray) (k : Nat) : by_ s k < 256 := UInt8.toNat_lt _
theorem by_at (s : ByteArray) (k : Nat) (h : k < s.size) : by_ s k = s[k].toNat := by
  have h1 : k < s.data.toList.length := by simpa using h
  simp only [by_, List.getD_eq_getElem?_getD, List.getElem?_eq_getElem h1, Option.getD_some]
  rfl

/-- A byte that a value may have. -/
def okV (x : Nat) : Bool := !(x == 0 || x == 10 || x == 13)
def valueM (s : ByteArray) : Bool := (List.range s.size).all fun k => okV (by_ s k)
theorem valueM_no {s : ByteArray} {k : Nat} (h : k < s.size) (hb : okV (by_ s k) = false) : valueM s = false := by
  unfold valueM
  rw [List.all_eq_false]
  exact ⟨k, List.mem_range.2 h, by rw [hb]; simp⟩
theorem valueM_yes {s : ByteArray} (h : ∀ j, j < s.size → okV (by_ s j) = true) : valueM s = true := by
  unfold valueM
  rw [List.all_eq_true]
  exact fun k hk => h k (List.mem_range.1 hk)

/-- A call that leaves all as it was. -/
def Rets (w : World) (v : Value) (e : Ending) (w' : World) : Prop := e = .returned v ∧ w = w'
theorem okV_no {x : Nat} : okV x = false ↔ x = 0 ∨ x = 10 ∨ x = 13 := by simp [okV]; omega
theorem okV_yes {x : Nat} : okV x = true ↔ x ≠ 0 ∧ x ≠ 10 ∧ x ≠ 13 := by simp [okV, and_assoc]

set_option maxHeartbeats 1000000 in
theorem value_any (s : ByteArray) (n : Nat) (hn : s.size = n) (hs : n ≤ 1000000) (w : World) : Calls Tryd.prog 42 #[.string s] w (Rets w (.bool (valueM s))) := by
  go_enter Tryd.func42, Tryd.ntmps42
  go_wp2
  go_loopg [3] n (fun j v wr => ∃ k : Nat, k ≤ n ∧ j = n - k ∧ v = .int .i64 k ∧ wr = w ∧ ∀ j, j < k → okV (by_ s j) = true)
  case atStart => exact ⟨0, by omega, rfl, rfl, rfl, fun j hj => by omega⟩
  case round =>
    obtain ⟨k, hk, rfl, rfl, rfl, hal⟩ := hrel
    by_cases hlt : k < n
    · have hks : k < s.size := by omega
      have hx := by_at s k hks
      by_cases hb : okV (by_ s k) = true
      · have hb2 := okV_yes.1 hb
        rw [hx] at hb2
        obtain ⟨b1, b2, b3⟩ := hb2
        have c1 : ((s[k].toNat : Int) == 0) = false := by rw [beq_eq_false_iff_ne]; omega
        have c2 : ((s[k].toNat : Int) == 10) = false := by rw [beq_eq_false_iff_ne]; omega
        have c3 : ((s[k].toNat : Int) == 13) = false := by rw [beq_eq_false_iff_ne]; omega
        go_wp2
        go_roundg (n - (k + 1))
        case measure => omega
        case rel =>
          refine ⟨k + 1, by omega, rfl, by go_num, rfl, fun j hj => ?_⟩
          by_cases hjk : j < k
          · exact hal j hjk
          · obtain rfl : j = k := by omega
            exact hb
      · have hb3 : okV (by_ s k) = false := by simpa using hb
        have hv := valueM_no hks hb3
        have hb2 := okV_no.1 hb3
        rw [hx] at hb2
        rw [hv]
        clear hb hb3 hx hv
        go_wp2
        all_goals first | (go_ret; exact ⟨rfl, rfl⟩) | (exfalso; simp at *; omega)
    · obtain rfl : k = n := by omega
      have hv := valueM_yes (fun j (hj : j < s.size) => hal j (by omega))
      go_wp2
      go_ret
      exact ⟨by rw [hv]; rfl, rfl⟩
end Go.Proofs.YteadhiehhpafjaaDoor
