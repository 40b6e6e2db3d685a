/-
  The program's number of a text of signs. Conditions: at most four signs.
-/
import Derived.Test.YtdoclbgmbneggaaDoorI
import Derived.Lib.ConvBytes
import Derived.Deep.LoopGhost
namespace Go.Proofs.YtdoclbgmbneggaaDoor
open Go.RowKit
set_option maxRecDepth 100000

/-- A sign's byte. -/
def by_ (s : ByteArray) (k : Nat) : Nat := (s.data.toList.getD k 0).toNat
theorem by_lt (s : ByteArray) (k : Nat) : by_ s k < 256 := UInt8.toNat_lt _
/-- The number that so many signs tell. -/
def nuA (s : ByteArray) : Nat → Int
  | 0 => 0
  | k + 1 => 10 * nuA s k + (by_ s k : Int) - 48
theorem nuA_in (s : ByteArray) (k : Nat) (hk : k ≤ 4) : -60000 ≤ nuA s k ∧ nuA s k ≤ 300000 := by
  have h0 := by_lt s 0; have h1 := by_lt s 1; have h2 := by_lt s 2; have h3 := by_lt s 3
  have e0 : nuA s 0 = 0 := rfl
  have e1 : nuA s 1 = 10 * nuA s 0 + (by_ s 0 : Int) - 48 := rfl
  have e2 : nuA s 2 = 10 * nuA s 1 + (by_ s 1 : Int) - 48 := rfl
  have e3 : nuA s 3 = 10 * nuA s 2 + (by_ s 2 : Int) - 48 := rfl
  have e4 : nuA s 4 = 10 * nuA s 3 + (by_ s 3 : Int) - 48 := rfl
  match k, hk with
  | 0, _ => have : nuA s 0 = 0 := rfl; omega
  | 1, _ => omega
  | 2, _ => omega
  | 3, _ => omega
  | 4, _ => omega

set_option maxHeartbeats 1000000 in
theorem number_any (s : ByteArray) (n : Nat) (hn : s.size = n) (h4 : n ≤ 4) (w : World) : Calls Tryd.prog 24 #[.string s] w (Gives w (.int .i64 (nuA s n))) := by
  have HC := Lib.hid (fun j hj => Lib.bytesWorld_cell w 5 s j hj)
  have B0 : Hid (Below w.heap.size w (Lib.bytesWorld w 5 s)) := Lib.hid ⟨rfl, rfl, rfl, by rw [Lib.bytesWorld_size]; omega, fun i hi => Lib.bytesWorld_at_old w 5 s i hi⟩
  have HN := Lib.hid hn
  have cv := Lib.run_convert_string_bytes (P := Tryd.prog) w 9 56 5 s (Tryd.underlying9) Tryd.underlying56 Tryd.underlying5
  rw [hn] at cv
  clear hn
  obtain ⟨W0, hW0⟩ : ∃ W, Lib.bytesWorld w 5 s = W := ⟨_, rfl⟩
  rw [hW0] at HC B0 cv
  clear hW0
  obtain ⟨cp, hcp⟩ : ∃ c, grownCap w n 0 5 = c := ⟨_, rfl⟩
  rw [hcp] at cv
  clear hcp
  go_enter Tryd.func24, Tryd.ntmps24
  go_wp2
  go_loopg [3, 9] n (fun j v i wr => ∃ k : Nat, k ≤ n ∧ j = n - k ∧ v = .int .i64 (nuA s k) ∧ i = .int .i64 k ∧ wr = W0)
  case atStart => exact ⟨0, by omega, rfl, rfl, rfl, rfl⟩
  case round =>
    obtain ⟨k, hk, rfl, rfl, rfl, rfl⟩ := hrel
    by_cases hlt : k < n
    · have hc := HC.out k (by rw [HN.out]; exact hlt)
      obtain ⟨V1, V2⟩ := nuA_in s k (by omega)
      have hb := by_lt s k
      have E : Hid (nuA s (k + 1) = 10 * nuA s k + (by_ s k : Int) - 48) := Lib.hid rfl
      change wr.cell? _ = some (.int .u8 (by_ s k)) at hc
      obtain ⟨V, hV⟩ : ∃ V, nuA s k = V := ⟨_, rfl⟩
      rw [hV] at E V1 V2 ⊢
      obtain ⟨x, hx⟩ : ∃ x, by_ s k = x := ⟨_, rfl⟩
      rw [hx] at E hc hb
      clear hV hx
      go_wp2
      go_roundg (n - (k + 1))
      case measure => omega
      case rel => exact ⟨k + 1, by omega, rfl, by rw [E.out], by go_num, rfl⟩
    · obtain rfl : k = n := by omega
      have hd : decide ((k : Int) < k) = false := by simp
      go_wp2
      go_ret
      exact ⟨rfl, B0.out⟩
end Go.Proofs.YtdoclbgmbneggaaDoor
