/-
  The program's digits: two of a number below a hundred, four of a year. Conditions: the table of powers of ten is as the library lays it.
-/
import Derived.Test.YtdoclbgmbneggaaDoorMA
import Derived.Test.YtdoclbgmbneggaaDoorS
namespace Go.Proofs.YtdoclbgmbneggaaDoor
open Go.RowKit Go.Sort
set_option maxRecDepth 100000

/-- The table of powers of ten lies there. -/
def Tab (w : World) : Prop := Lib.TabIs Tryd.prog w "internal/strconv.uint64pow10" .u64 Lib.pow10Tab
theorem Tab.bel {w w' : World} (h : Tab w) (hb : Below w.heap.size w w') : Tab w' := by
  unfold Tab Lib.TabIs World.var? at *
  cases hg : Program.globalNamed Tryd.prog "internal/strconv.uint64pow10" with
  | none => simp [hg] at h
  | some g =>
    simp only [hg, Option.bind_some] at h ⊢
    have hlt : g < w.heap.size := by
      rcases Nat.lt_or_ge g w.heap.size with h' | h'
      · exact h'
      · rw [Array.getElem?_eq_none h'] at h; simp at h
    rw [hb.block g hlt]
    exact h
theorem below_grow (B : Nat) (w : World) (hB : B ≤ w.heap.size) (k : Nat) (os : Array Obj) : Below B w (grow (w.drewN k) os) :=
  ⟨rfl, rfl, rfl, by show w.heap.size ≤ (w.heap ++ os).size; rw [Array.size_append]; omega, fun j hj => heap_grow_old (w.drewN k) os (show j < w.heap.size by omega)⟩

theorem nil_app (D : ByteArray) : (⟨#[]⟩ : ByteArray) ++ D = D := by
  apply ba_ext
  rw [ap_data]
  rfl

theorem digits2_any (n : Nat) (hn : n < 100) (w : World) : Calls Tryd.prog 20 #[.int .i64 n, .int .i64 2] w (Gives w (.string (tw n))) := by
  have I := Lib.hid (fun W => Tryd.strconv_Itoa_small n hn W)
  by_cases h : n < 10
  · have hs := dec_size1 h
    have hw := tw_one h
    generalize (⟨(Lib.decDigits n).toArray⟩ : ByteArray) = D at *
    generalize tw n = E at *
    have hw := Lib.hid hw
    have R := Lib.hid (fun W => Tryd.strings_Repeat_one ⟨#[48]⟩ W)
    have hz : (2 : Int) - (D.size : Int) = 1 := by omega
    clear hn h
    go_enter Tryd.func20, Tryd.ntmps20
    go_wp2_with fail
    refine (I.out _).mono ?_; rintro e _ ⟨rfl, rfl⟩
    go_wp2_with fail
    refine (R.out _).mono ?_; rintro e _ ⟨rfl, rfl⟩
    go_wp2_with fail
    go_ret
    exact ⟨by rw [← hw.out]; rfl, Below.refl _ _⟩
  · have hs := dec_size2 h hn
    rw [tw_two h hn] at I hs
    generalize tw n = D at *
    have R := Lib.hid (fun W => Tryd.strings_Repeat_zero ⟨#[48]⟩ W)
    have hz : (2 : Int) - (D.size : Int) = 0 := by omega
    clear hn h
    go_enter Tryd.func20, Tryd.ntmps20
    go_wp2_with fail
    refine (I.out _).mono ?_; rintro e _ ⟨rfl, rfl⟩
    go_wp2_with fail
    refine (R.out _).mono ?_; rintro e _ ⟨rfl, rfl⟩
    go_wp2_with fail
    go_ret
    exact ⟨by rw [nil_app]; rfl, Below.refl _ _⟩
theorem digits4_any (y : Nat) (h1 : 1000 ≤ y) (h2 : y < 10000) (w : World) (ht : Tab w) : Calls Tryd.prog 20 #[.int .i64 y, .int .i64 4] w (Gives w (.string (tw (y / 100) ++ tw (y % 100)))) := by
  have I := Lib.hid (Tryd.strconv_Itoa y (by omega) (by omega) w ht)
  rw [itoa_year h1 h2] at I
  have hs := year_size (y / 100) (y % 100)
  generalize tw (y / 100) ++ tw (y % 100) = D at *
  have R := Lib.hid (fun W => Tryd.strings_Repeat_zero ⟨#[48]⟩ W)
  have hz : (4 : Int) - (D.size : Int) = 0 := by omega
  clear h1 h2 ht
  go_enter Tryd.func20, Tryd.ntmps20
  go_wp2_with fail
  refine (I.out).mono ?_; rintro e w' ⟨rfl, k, os, hw⟩
  have hb := below_grow w.heap.size w (Nat.le_refl _) k os
  rw [← hw] at hb
  clear hw
  go_wp2_with fail
  refine (R.out _).mono ?_; rintro e _ ⟨rfl, rfl⟩
  go_wp2_with fail
  go_ret
  exact ⟨by rw [nil_app]; rfl, hb⟩
end Go.Proofs.YtdoclbgmbneggaaDoor
