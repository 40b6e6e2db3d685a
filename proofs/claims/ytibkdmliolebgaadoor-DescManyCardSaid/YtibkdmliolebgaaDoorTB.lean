/-
  The library's IndexRune, IndexAny, ContainsAny for a few plain signs, at any text. Conditions: two to eight signs below 128; a text of at most a hundred thousand bytes.
-/
import Derived.Test.YtibkdmliolebgaaDoorVA
import Derived.Test.YtibkdmliolebgaaDoorS
import Derived.Laws.RangeAny
import Derived.WalkMore
import Derived.BigQuiet
import Derived.Lib.OthersKept
import Derived.Lib.DecodeN
namespace Go.Proofs.YtibkdmliolebgaaDoor
open Go Go.RowKit
set_option maxRecDepth 1000000

/-- Is it a sign? -/
def Sign (r : Nat) : Prop := r < 55296 ∨ (57343 < r ∧ r ≤ 1114111)
theorem vrune_any (r : Nat) (h : Sign r) (w : World) : Calls Tryd.prog 59 #[.int .i32 r] w (Rets w (.bool true)) := by
  have d0 : decide ((0 : Int) ≤ (r : Int)) = true := by rw [decide_eq_true_iff]; omega
  rcases h with h | h
  · have d1 : decide ((r : Int) < 55296) = true := by rw [decide_eq_true_iff]; omega
    go_enter Tryd.func59, Tryd.ntmps59
    go_wp2
    go_ret
    exact ⟨rfl, rfl⟩
  · have d1 : decide ((r : Int) < 55296) = false := by rw [decide_eq_false_iff_not]; omega
    have d2 : decide ((57343 : Int) < (r : Int)) = true := by rw [decide_eq_true_iff]; omega
    have d3 : decide ((r : Int) ≤ 1114111) = true := by rw [decide_eq_true_iff]; omega
    clear h
    go_enter Tryd.func59, Tryd.ntmps59
    go_wp2
    go_ret
    exact ⟨rfl, rfl⟩
theorem valid_of {r : Nat} (h : Sign r) : Utf8.valid (r : Int) = true := by
  unfold Utf8.valid; unfold Sign at h
  simp; omega

theorem miss_byte {l : List UInt8} {u : UInt8} (h : ∀ b ∈ l, b ≠ u) : Lib.indexByte l u = -1 := by
  induction l with
  | nil => rfl
  | cons a l ih =>
    have hne : (a == u) = false := by rw [beq_eq_false_iff_ne]; exact h a (by simp)
    have hi := ih (fun b hb => h b (by simp [hb]))
    simp [Lib.indexByte, hne, hi]
theorem miss_high {C : List UInt8} (hC : ∀ b ∈ C, b.toNat < 128) (k n y : Nat) (h1 : 128 ≤ y) (h2 : y < 256) : Lib.indexByte ((tx C).extract k n).data.toList (y : Int).toNat.toUInt8 = -1 := by
  refine miss_byte fun b hb => ?_
  rw [tx_cut, tx_list] at hb
  have hm := hC b (List.mem_of_mem_take (List.mem_of_mem_drop hb))
  rintro rfl
  have hy : ((y : Int).toNat.toUInt8).toNat = y := by
    show (UInt8.ofNat _).toNat = y
    rw [UInt8.toNat_ofNat']; simp; omega
  omega

set_option maxHeartbeats 1000000 in
theorem irune_big (C : List UInt8) (hC : ∀ b ∈ C, b.toNat < 128) (n : Nat) (hn : C.length = n) (hn2 : n < 1000) (r : Nat) (h : Sign r) (h128 : 128 ≤ r) (hE : r ≠ 65533) (w : World) :
    Calls Tryd.prog 49 #[.string (tx C), .int .i32 r] w (Gives w (.int .i64 (-1))) := by
  have V := Lib.hid (fun W => vrune_any r h W)
  have d0 : decide ((0 : Int) ≤ (r : Int)) = true := by rw [decide_eq_true_iff]; omega
  have d1 : decide ((r : Int) < 128) = false := by rw [decide_eq_false_iff_not]; omega
  have hE2 : ((r : Int) == 65533) = false := by rw [beq_eq_false_iff_ne]; omega
  obtain ⟨z2, z4, zl⟩ := encode_facts (r : Int) (valid_of h) (by omega)
  have HM := Lib.hid (fun k y => miss_high hC k n y)
  have hts : (tx C).size = n := by rw [tx_size, hn]
  obtain ⟨R, hR⟩ : ∃ R, Utf8.encode (r : Int) = R := ⟨_, rfl⟩
  rw [hR] at z2 z4
  simp only [hR] at zl
  obtain ⟨z, hz⟩ : ∃ z, R.size = z := ⟨_, rfl⟩
  have hz3 : z = 2 ∨ z = 3 ∨ z = 4 := by omega
  have HC := Lib.hid hC
  clear hC
  rcases hz3 with rfl | rfl | rfl
  · obtain ⟨y, hy⟩ : ∃ y, (R[1]'(by omega)).toNat = y := ⟨_, rfl⟩
    have hy2 : 128 ≤ y := by rw [← hy]; have := zl (by omega); simpa [hz] using this
    have hy3 : y < 256 := by rw [← hy]; exact UInt8.toNat_lt _
    have q2 : IntKind.i64.wrap 2 = 2 := by decide
    by_cases hlt : 1 < n
    · have hqC : 1 < C.length := by omega
      obtain ⟨x, hx⟩ : ∃ x, C[1].toNat = x := ⟨_, rfl⟩
      have hxt : ((tx C)[1]'(by rw [hts]; exact hlt)).toNat = x := by rw [tx_at]; exact hx
      have hx2 : x < 128 := by rw [← hx]; exact HC.out _ (List.getElem_mem hqC)
      have e1 : ((x : Int) != (y : Int)) = true := by rw [bne_iff_ne]; omega
      have e2 : (1 : Int) < (n : Int) := by omega
      have e3 : (2 : Int) ≤ (n : Int) := by omega
      have cI : ∀ W, Calls Tryd.prog 58 #[.string ((tx C).extract 2 n), .int .u8 (y : Int)] W fun e w'' => e = .returned (.int .i64 (-1)) ∧ w'' = W := fun W => by
        have c := Tryd.strings_IndexByte ((tx C).extract 2 n) (y : Int) W
        rw [HM.out 2 y hy2 hy3] at c
        exact c
      have CI := Lib.hid cI
      clear zl h cI hx HM HC hE
      generalize tx C = D at *
      go_enter Tryd.func49, Tryd.ntmps49
      go_wp2_with (go_at_call 59; refine (V.out _).mono ?_; rintro e w' ⟨rfl, rfl⟩)
      go_step3
      go_wp2_with (fail)
      go_loopg [9] 0 (fun j v wr => v = .int .i64 1 ∧ wr = w)
      case atStart => exact ⟨rfl, rfl⟩
      case round =>
        obtain ⟨rfl, rfl⟩ := hrel
        go_wp2_with (fail)
        go_step3
        go_wp2_with (fail)
        go_quiet (fail)
        go_wp2_with (fail)
        refine wp_region_still_lit (by kernel_rfl) (by kernel_rfl) ?_
        repeat still_step
        still_call (CI.out _)
        repeat still_step
        refine wpStill_nil ?_
        go_wp2_with (fail)
        rw [Exit.noGoto_ret]
        go_ret
        exact ⟨rfl, ⟨rfl, rfl, rfl, Nat.le_refl _, fun _ _ => rfl⟩⟩
    · have e3 : ¬ ((1 : Int) < (n : Int)) := by omega
      clear zl h HM HC hE
      generalize tx C = D at *
      go_enter Tryd.func49, Tryd.ntmps49
      go_wp2_with (go_at_call 59; refine (V.out _).mono ?_; rintro e w' ⟨rfl, rfl⟩)
      go_step3
      go_wp2_with (fail)
      go_loopg [9] 0 (fun j v wr => v = .int .i64 1 ∧ wr = w)
      case atStart => exact ⟨rfl, rfl⟩
      case round =>
        obtain ⟨rfl, rfl⟩ := hrel
        go_wp2
        rw [Exit.noGoto_ret]
        go_ret
        exact ⟨rfl, Below.refl _ _⟩
  · obtain ⟨y, hy⟩ : ∃ y, (R[2]'(by omega)).toNat = y := ⟨_, rfl⟩
    have hy2 : 128 ≤ y := by rw [← hy]; have := zl (by omega); simpa [hz] using this
    have hy3 : y < 256 := by rw [← hy]; exact UInt8.toNat_lt _
    have q2 : IntKind.i64.wrap 3 = 3 := by decide
    by_cases hlt : 2 < n
    · have hqC : 2 < C.length := by omega
      obtain ⟨x, hx⟩ : ∃ x, C[2].toNat = x := ⟨_, rfl⟩
      have hxt : ((tx C)[2]'(by rw [hts]; exact hlt)).toNat = x := by rw [tx_at]; exact hx
      have hx2 : x < 128 := by rw [← hx]; exact HC.out _ (List.getElem_mem hqC)
      have e1 : ((x : Int) != (y : Int)) = true := by rw [bne_iff_ne]; omega
      have e2 : (2 : Int) < (n : Int) := by omega
      have e3 : (3 : Int) ≤ (n : Int) := by omega
      have cI : ∀ W, Calls Tryd.prog 58 #[.string ((tx C).extract 3 n), .int .u8 (y : Int)] W fun e w'' => e = .returned (.int .i64 (-1)) ∧ w'' = W := fun W => by
        have c := Tryd.strings_IndexByte ((tx C).extract 3 n) (y : Int) W
        rw [HM.out 3 y hy2 hy3] at c
        exact c
      have CI := Lib.hid cI
      clear zl h cI hx HM HC hE
      generalize tx C = D at *
      go_enter Tryd.func49, Tryd.ntmps49
      go_wp2_with (go_at_call 59; refine (V.out _).mono ?_; rintro e w' ⟨rfl, rfl⟩)
      go_step3
      go_wp2_with (fail)
      go_loopg [9] 0 (fun j v wr => v = .int .i64 2 ∧ wr = w)
      case atStart => exact ⟨rfl, rfl⟩
      case round =>
        obtain ⟨rfl, rfl⟩ := hrel
        go_wp2_with (fail)
        go_step3
        go_wp2_with (fail)
        go_quiet (fail)
        go_wp2_with (fail)
        refine wp_region_still_lit (by kernel_rfl) (by kernel_rfl) ?_
        repeat still_step
        still_call (CI.out _)
        repeat still_step
        refine wpStill_nil ?_
        go_wp2_with (fail)
        rw [Exit.noGoto_ret]
        go_ret
        exact ⟨rfl, ⟨rfl, rfl, rfl, Nat.le_refl _, fun _ _ => rfl⟩⟩
    · have e3 : ¬ ((2 : Int) < (n : Int)) := by omega
      clear zl h HM HC hE
      generalize tx C = D at *
      go_enter Tryd.func49, Tryd.ntmps49
      go_wp2_with (go_at_call 59; refine (V.out _).mono ?_; rintro e w' ⟨rfl, rfl⟩)
      go_step3
      go_wp2_with (fail)
      go_loopg [9] 0 (fun j v wr => v = .int .i64 2 ∧ wr = w)
      case atStart => exact ⟨rfl, rfl⟩
      case round =>
        obtain ⟨rfl, rfl⟩ := hrel
        go_wp2
        rw [Exit.noGoto_ret]
        go_ret
        exact ⟨rfl, Below.refl _ _⟩
  · obtain ⟨y, hy⟩ : ∃ y, (R[3]'(by omega)).toNat = y := ⟨_, rfl⟩
    have hy2 : 128 ≤ y := by rw [← hy]; have := zl (by omega); simpa [hz] using this
    have hy3 : y < 256 := by rw [← hy]; exact UInt8.toNat_lt _
    have q2 : IntKind.i64.wrap 4 = 4 := by decide
    by_cases hlt : 3 < n
    · have hqC : 3 < C.length := by omega
      obtain ⟨x, hx⟩ : ∃ x, C[3].toNat = x := ⟨_, rfl⟩
      have hxt : ((tx C)[3]'(by rw [hts]; exact hlt)).toNat = x := by rw [tx_at]; exact hx
      have hx2 : x < 128 := by rw [← hx]; exact HC.out _ (List.getElem_mem hqC)
      have e1 : ((x : Int) != (y : Int)) = true := by rw [bne_iff_ne]; omega
      have e2 : (3 : Int) < (n : Int) := by omega
      have e3 : (4 : Int) ≤ (n : Int) := by omega
      have cI : ∀ W, Calls Tryd.prog 58 #[.string ((tx C).extract 4 n), .int .u8 (y : Int)] W fun e w'' => e = .returned (.int .i64 (-1)) ∧ w'' = W := fun W => by
        have c := Tryd.strings_IndexByte ((tx C).extract 4 n) (y : Int) W
        rw [HM.out 4 y hy2 hy3] at c
        exact c
      have CI := Lib.hid cI
      clear zl h cI hx HM HC hE
      generalize tx C = D at *
      go_enter Tryd.func49, Tryd.ntmps49
      go_wp2_with (go_at_call 59; refine (V.out _).mono ?_; rintro e w' ⟨rfl, rfl⟩)
      go_step3
      go_wp2_with (fail)
      go_loopg [9] 0 (fun j v wr => v = .int .i64 3 ∧ wr = w)
      case atStart => exact ⟨rfl, rfl⟩
      case round =>
        obtain ⟨rfl, rfl⟩ := hrel
        go_wp2_with (fail)
        go_step3
        go_wp2_with (fail)
        go_quiet (fail)
        go_wp2_with (fail)
        refine wp_region_still_lit (by kernel_rfl) (by kernel_rfl) ?_
        repeat still_step
        still_call (CI.out _)
        repeat still_step
        refine wpStill_nil ?_
        go_wp2_with (fail)
        rw [Exit.noGoto_ret]
        go_ret
        exact ⟨rfl, ⟨rfl, rfl, rfl, Nat.le_refl _, fun _ _ => rfl⟩⟩
    · have e3 : ¬ ((3 : Int) < (n : Int)) := by omega
      clear zl h HM HC hE
      generalize tx C = D at *
      go_enter Tryd.func49, Tryd.ntmps49
      go_wp2_with (go_at_call 59; refine (V.out _).mono ?_; rintro e w' ⟨rfl, rfl⟩)
      go_step3
      go_wp2_with (fail)
      go_loopg [9] 0 (fun j v wr => v = .int .i64 3 ∧ wr = w)
      case atStart => exact ⟨rfl, rfl⟩
      case round =>
        obtain ⟨rfl, rfl⟩ := hrel
        go_wp2
        rw [Exit.noGoto_ret]
        go_ret
        exact ⟨rfl, Below.refl _ _⟩
end Go.Proofs.YtibkdmliolebgaaDoor
