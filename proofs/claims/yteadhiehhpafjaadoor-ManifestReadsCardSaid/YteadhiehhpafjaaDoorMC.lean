/-
  The document's Small and first. Conditions: a text of at most a million bytes.
-/
import Derived.Test.YteadhiehhpafjaaDoorMB
import Derived.Laws.BytesArg
import Derived.Deep.LoopGhost
namespace Go.Proofs.YteadhiehhpafjaaDoor
open Go.RowKit
set_option maxRecDepth 100000

theorem first_any (b : Bool) (w : World) : Calls Tryd.prog 43 #[.bool b] w (Rets w (.string (if b then ⟨#[109, 97, 110, 105, 102, 101, 115, 116, 45, 118, 101, 114, 115, 105, 111, 110]⟩ else ⟨#[110, 97, 109, 101]⟩))) := by
  cases b
  all_goals
    go_enter Tryd.func43, Tryd.ntmps43
    go_wp2
    go_ret
    exact ⟨rfl, rfl⟩

/-- A letter small. -/
def low (u : UInt8) : UInt8 := if 65 ≤ u.toNat ∧ u.toNat ≤ 90 then UInt8.ofNat (u.toNat + 32) else u
/-- The first bytes of a text, their letters small. -/
def smP (s : ByteArray) (k : Nat) : ByteArray := ⟨((s.data.toList.take k).map low).toArray⟩
def smallM (s : ByteArray) : ByteArray := ⟨(s.data.toList.map low).toArray⟩
theorem smP_size (s : ByteArray) (k : Nat) (h : k ≤ s.size) : (smP s k).size = k := by
  have : k ≤ s.data.toList.length := by simpa using h
  show ((s.data.toList.take k).map low).toArray.size = k
  simp only [List.size_toArray, List.length_map, List.length_take]
  omega
theorem smP_all (s : ByteArray) : smP s s.size = smallM s := by
  have : s.data.toList.take s.size = s.data.toList := List.take_of_length_le (by simp)
  rw [smP, this, smallM]
theorem smP_step (s : ByteArray) (k : Nat) (h : k < s.size) : smP s (k + 1) = smP s k ++ ⟨#[low s[k]]⟩ := by
  have h1 : k < s.data.toList.length := by simpa using h
  have e : s.data.toList.take (k + 1) = s.data.toList.take k ++ [s[k]] := by
    rw [List.take_add_one, List.getElem?_eq_getElem h1]; rfl
  have x : ((⟨#[low s[k]]⟩ : ByteArray)) = ByteArray.mk [low s[k]].toArray := rfl
  rw [smP, smP, e, x, ByteArray.mk_append_mk, List.map_append]; rfl
theorem low_nums (u : UInt8) : strOfNums [((if 65 ≤ u.toNat ∧ u.toNat ≤ 90 then u.toNat + 32 else u.toNat : Nat) : Int)] = ⟨#[low u]⟩ := by
  unfold low
  split
  · rfl
  · show (⟨#[UInt8.ofNat u.toNat]⟩ : ByteArray) = ⟨#[u]⟩
    rw [UInt8.ofNat_toNat]
theorem low_up {u : UInt8} (h : 65 ≤ u.toNat ∧ u.toNat ≤ 90) : strOfNums [(u.toNat : Int) + 32] = ⟨#[low u]⟩ := by
  have e := low_nums u
  rw [if_pos h] at e
  exact e
theorem low_not {u : UInt8} (h : ¬ (65 ≤ u.toNat ∧ u.toNat ≤ 90)) : strOfNums [(u.toNat : Int)] = ⟨#[low u]⟩ := by
  have e := low_nums u
  rw [if_neg h] at e
  exact e
theorem conv1 (w : World) (x : Int) : (convert 22 9 (.slice (some ⟨w.heap.size, 0, none⟩) 1 1)).run Tryd.prog (w.alloc (.cells #[.int .u8 x] 5)) = .ok (.string (strOfNums [x])) (w.alloc (.cells #[.int .u8 x] 5)) := by
  refine run_convert_bytes_arg _ 22 5 Tryd.underlying22 Tryd.underlying5 w.heap.size 0 1 1 [x] rfl (fun i hi => ?_) 9 Tryd.underlying9
  have hW := Whole.new w 5 #[.int .u8 x]
  match i, hi with
  | 0, _ => exact hW.cell 0

/-- A call that changes nothing that was there. -/
def Gives (w : World) (v : Value) (e : Ending) (w' : World) : Prop := e = .returned v ∧ Below w.heap.size w w'

set_option maxHeartbeats 4000000 in
theorem small_any (s : ByteArray) (n : Nat) (hn : s.size = n) (hs : n ≤ 1000000) (w : World) : Calls Tryd.prog 20 #[.string s] w (Gives w (.string (smallM s))) := by
  have HA := Lib.hid (smP_all s)
  go_enter Tryd.func20, Tryd.ntmps20
  go_wp2
  go_loopg [3, 4] n (fun j o v wr => ∃ k : Nat, k ≤ n ∧ j = n - k ∧ v = .int .i64 k ∧ o = .string (smP s k) ∧ Below w.heap.size w wr)
  case atStart => exact ⟨0, by omega, rfl, rfl, by rfl, Below.refl _ _⟩
  case round =>
    obtain ⟨k, hk, rfl, rfl, rfl, hb⟩ := hrel
    by_cases hlt : k < n
    · have hks : k < s.size := by omega
      have H1 := Lib.hid (smP_size s k (by omega))
      have H2 := Lib.hid (smP_step s k hks)
      have HB := Lib.hid hb
      have h256 : s[k].toNat < 256 := UInt8.toNat_lt _
      by_cases hup : 65 ≤ s[k].toNat ∧ s[k].toNat ≤ 90
      · obtain ⟨u1, u2⟩ := hup
        have cv := conv1 wr ((s[k].toNat : Int) + 32)
        rw [low_up ⟨u1, u2⟩] at cv
        have hp := H1.out
        have hd : (⟨#[low s[k]]⟩ : ByteArray).size = 1 := rfl
        have hadd := run_string_add_sum (P := Tryd.prog) (w := wr.alloc (.cells #[.int .u8 ((s[k].toNat : Int) + 32)] 5)) (smP s k) ⟨#[low s[k]]⟩ (by rw [hp, hd]; omega)
        rw [← H2.out] at hadd
        clear hd
        generalize (⟨#[low s[k]]⟩ : ByteArray) = D at cv hadd
        go_wp2
        go_roundg (n - (k + 1))
        case measure => omega
        case rel => exact ⟨k + 1, by omega, rfl, rfl, by go_num, HB.out.alloc (HB.out.size) _⟩
      · by_cases hlo : 65 ≤ s[k].toNat
        · have hgt : 90 < s[k].toNat := by omega
          have cv := conv1 wr ((s[k].toNat : Int))
          rw [low_not hup] at cv
          have hp := H1.out
          have hd : (⟨#[low s[k]]⟩ : ByteArray).size = 1 := rfl
          have hadd := run_string_add_sum (P := Tryd.prog) (w := wr.alloc (.cells #[.int .u8 ((s[k].toNat : Int))] 5)) (smP s k) ⟨#[low s[k]]⟩ (by rw [hp, hd]; omega)
          rw [← H2.out] at hadd
          clear hd
          generalize (⟨#[low s[k]]⟩ : ByteArray) = D at cv hadd
          go_wp2
          go_roundg (n - (k + 1))
          case measure => omega
          case rel => exact ⟨k + 1, by omega, rfl, rfl, by go_num, HB.out.alloc (HB.out.size) _⟩
        · have hgt : s[k].toNat < 65 := by omega
          have cv := conv1 wr ((s[k].toNat : Int))
          rw [low_not hup] at cv
          have hp := H1.out
          have hd : (⟨#[low s[k]]⟩ : ByteArray).size = 1 := rfl
          have hadd := run_string_add_sum (P := Tryd.prog) (w := wr.alloc (.cells #[.int .u8 ((s[k].toNat : Int))] 5)) (smP s k) ⟨#[low s[k]]⟩ (by rw [hp, hd]; omega)
          rw [← H2.out] at hadd
          clear hd
          generalize (⟨#[low s[k]]⟩ : ByteArray) = D at cv hadd
          go_wp2
          go_roundg (n - (k + 1))
          case measure => omega
          case rel => exact ⟨k + 1, by omega, rfl, rfl, by go_num, HB.out.alloc (HB.out.size) _⟩
    · obtain rfl : k = n := by omega
      rw [hn] at HA
      go_wp2
      go_ret
      exact ⟨by rw [HA.out]; rfl, hb⟩
end Go.Proofs.YteadhiehhpafjaaDoor
