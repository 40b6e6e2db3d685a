/-
  The document: Divisor. Conditions: none.
-/
import Derived.Test.YtdpdfnekokmgoaaU3
import Derived.Test.YtdpdfnekokmgoaaY2
import Derived.Test.YtdpdfnekokmgoaaG
namespace Go.Proofs.Ytdpdfnekokmgoaa
open Go.RowKit

/-- The divisor's powers. -/
def powers : List Nat := [32, 26, 23, 22, 16, 12, 11, 10, 8, 7, 5, 4, 2, 1, 0]
def divTo (k : Nat) : List Bool := (powers.take k).foldl (fun l p => l.set (32 - p) true) (List.replicate 33 false)
theorem divTo_end : divTo 15 = divs := by decide
theorem divTo_length (k : Nat) : (divTo k).length = 33 := by
  unfold divTo
  have : ∀ (ps : List Nat) (l : List Bool), (ps.foldl (fun l p => l.set (32 - p) true) l).length = l.length := by
    intro ps
    induction ps with
    | nil => intro l; rfl
    | cons p ps ih => intro l; rw [List.foldl_cons, ih, List.length_set]
  rw [this]; simp
theorem divTo_step (k : Nat) (h : k < powers.length) : divTo (k + 1) = (divTo k).set (32 - powers[k]) true := by
  unfold divTo
  rw [List.take_succ_eq_append_getElem h, List.foldl_append]
  rfl
theorem powers_le (k : Nat) (h : k < powers.length) : powers[k] ≤ 32 := by
  have : ∀ p ∈ powers, p ≤ 32 := by decide
  exact this _ (List.getElem_mem h)

def iv (l : List Nat) : List Value := l.map fun x : Nat => Value.int .i64 x

def DivIn (w : World) (v : Value) (g : Nat) (k : Nat) (wr : World) : Prop := wr.ownsRow w.heap.size 4 1 v 33 ((divTo k).map .bool) ∧ Whole wr g 3 (iv powers).toArray ∧ Below w.heap.size w wr

theorem made_bools (m : Nat) : (madeCells (Value.bool false).cells (m * 1)).toList = (List.replicate m false).map Value.bool := by
  rw [show (Value.bool false).cells = #[.bool false] from rfl, toList_madeCells_one]; simp

set_option maxHeartbeats 1000000 in
theorem divisor_any (w : World) : Calls Try.prog 20 #[] w (GivesRow w 4 1 33 (divs.map .bool)) := by
  obtain ⟨i0, hi0, hz0, hz1, hz2⟩ := info_parts bool_info
  have hO : i0.bytes * 33 ≤ 281474976710656 := by rw [hz2]; omega
  go_enter Try.func20, Try.ntmps20
  go_wp2_with (at_make; refine wpList_make_full _ rfl _ _ 41 rfl w.heap.size 4 i0 _ 1 Try.underlying41 hi0 hz0 hz1 _ _ 33 33 33 rfl rfl rfl rfl hO (by simp only [maxLen]; omega) (Nat.le_refl _) ?_; intro w1 hown1 hg1)
  have hW0 : Whole (w1.alloc (.cells #[.int .i64 32, .int .i64 26, .int .i64 23, .int .i64 22, .int .i64 16, .int .i64 12, .int .i64 11, .int .i64 10, .int .i64 8, .int .i64 7, .int .i64 5, .int .i64 4, .int .i64 2, .int .i64 1, .int .i64 0] 3)) w1.heap.size 3 (iv powers).toArray := Whole.new w1 3 _
  have hB0 : Below w.heap.size w w1 := (Below.refl _ _).grown hg1 (Nat.le_refl _) (by simp)
  rw [made_bools 33] at hown1
  have H0 : Hid (DivIn w (.slice (some ⟨w.heap.size, 0, none⟩) 33 33) w1.heap.size 0 (w1.alloc (.cells #[.int .i64 32, .int .i64 26, .int .i64 23, .int .i64 22, .int .i64 16, .int .i64 12, .int .i64 11, .int .i64 10, .int .i64 8, .int .i64 7, .int .i64 5, .int .i64 4, .int .i64 2, .int .i64 1, .int .i64 0] 3))) :=
    Lib.hid ⟨hown1.alloc _, hW0, hB0.alloc hB0.size _⟩
  have hlt0 : w.heap.size < w1.heap.size := by
    obtain ⟨_, cs, hh⟩ := own_whole hown1 (k := w.heap.size) rfl
    exact hh.lt
  generalize w1.alloc (.cells #[.int .i64 32, .int .i64 26, .int .i64 23, .int .i64 22, .int .i64 16, .int .i64 12, .int .i64 11, .int .i64 10, .int .i64 8, .int .i64 7, .int .i64 5, .int .i64 4, .int .i64 2, .int .i64 1, .int .i64 0] 3) = W at *
  generalize w1.heap.size = g at *
  clear hown1 hg1 hW0 hB0 hO
  go_loopw [3, 7] (fun _ i wr => ∃ k : Nat, k ≤ 15 ∧ i = .int .i64 k ∧ DivIn w (.slice (some ⟨w.heap.size, 0, none⟩) 33 33) g k wr) (fun _ i _ => 15 - (intOf i).toNat)
  case atStart => exact ⟨0, Nat.zero_le _, rfl, H0.out⟩
  case round =>
    obtain ⟨k, hk, rfl, hin⟩ := hrel
    by_cases hlt : k < 15
    · have hkp : k < powers.length := hlt
      have hst := Lib.hid (divTo_step k hkp)
      have hle := powers_le k hkp
      have hc : wr.cell? ⟨g, k, none⟩ = some (.int .i64 (powers[k] : Nat)) := by
        rw [hin.2.1.cell]
        simp [iv, hkp]
      obtain ⟨q, hq⟩ : ∃ q, powers[k] = q := ⟨_, rfl⟩
      rw [hq] at hc hle hst
      clear hq hkp
      obtain ⟨r, hr⟩ : ∃ r, 32 - q = r := ⟨_, rfl⟩
      rw [hr] at hst
      have hr2 : r < 33 := by omega
      have es : (32 : Int) - q = r := by omega
      obtain ⟨y, hy⟩ : ∃ y, (divTo k)[r]? = some y := ⟨_, List.getElem?_eq_getElem (by rw [divTo_length]; omega)⟩
      obtain ⟨hc2, hf2, hg2⟩ := own_cell hin.1 (i := r) (u := .bool y) (by rw [List.getElem?_map, hy]; rfl)
      have hr0 : (0 : Int) ≤ r := by omega
      have hr1 : (r : Int) < 33 := by omega
      clear hr hy
      have HIn := Lib.hid hin; clear hin
      go_wp2
      go_roundw
      case rel =>
        obtain ⟨i1, i2, i3⟩ := HIn.out
        refine ⟨k + 1, by omega, by go_num, ?_, i2.far (by simp; omega) _, i3.setCell (Nat.le_refl _) _⟩
        rw [hst.out, List.map_set]
        exact own_put i1 r _
      case measure => simp [intOf]; omega
    · have hk15 : k = 15 := by omega
      have HIn : Hid (DivIn w (.slice (some ⟨w.heap.size, 0, none⟩) 33 33) g 15 wr) := by rw [hk15] at hin; exact Lib.hid hin
      clear hin hk15
      go_wp2
      go_ret
      exact ⟨_, rfl, by rw [← divTo_end]; exact HIn.out.1, HIn.out.2.2⟩
end Go.Proofs.Ytdpdfnekokmgoaa
