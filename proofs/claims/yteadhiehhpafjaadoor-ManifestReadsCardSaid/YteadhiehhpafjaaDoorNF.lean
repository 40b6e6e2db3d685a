/-
  The library's IndexRune on the three signs that no value has, at any sign. Conditions: as each says.
-/
import Derived.Test.YteadhiehhpafjaaDoorND
import Derived.Test.YteadhiehhpafjaaDoorS
import Derived.Laws.RangeAny
import Derived.WalkMore
import Derived.BigQuiet
namespace Go.Proofs.YteadhiehhpafjaaDoor
open Go.RowKit
set_option maxRecDepth 1000000

/-- Is it a sign? -/
def Sign (r : Nat) : Prop := r < 55296 ∨ (57343 < r ∧ r ≤ 1114111)
theorem vrune_any (r : Nat) (h : Sign r) (w : World) : Calls Tryd.prog 98 #[.int .i32 r] w (Rets w (.bool true)) := by
  have d0 : decide ((0 : Int) ≤ (r : Int)) = true := by rw [decide_eq_true_iff]; omega
  rcases h with h | h
  · have d1 : decide ((r : Int) < 55296) = true := by rw [decide_eq_true_iff]; omega
    go_enter Tryd.func98, Tryd.ntmps98
    go_wp2
    go_ret
    exact ⟨rfl, rfl⟩
  · have d1 : decide ((r : Int) < 55296) = false := by rw [decide_eq_false_iff_not]; omega
    have d2 : decide ((57343 : Int) < (r : Int)) = true := by rw [decide_eq_true_iff]; omega
    have d3 : decide ((r : Int) ≤ 1114111) = true := by rw [decide_eq_true_iff]; omega
    clear h
    go_enter Tryd.func98, Tryd.ntmps98
    go_wp2
    go_ret
    exact ⟨rfl, rfl⟩

/-- The signs that no value has. -/
def badC : ByteArray := ⟨#[10, 13, 0]⟩
theorem valid_of {r : Nat} (h : Sign r) : Utf8.valid (r : Int) = true := by
  unfold Utf8.valid; unfold Sign at h
  simp; omega

set_option maxHeartbeats 4000000 in
theorem irune_big (C : ByteArray) (hb : C.size = 3) (b1 : ∀ h : 1 < C.size, C[1].toNat = 13) (b2 : ∀ h : 2 < C.size, C[2].toNat = 0)
    (hm : ∀ (k : Nat) (y : Nat), 128 ≤ y → y < 256 → Lib.indexByte (C.extract k 3).data.toList (y : Int).toNat.toUInt8 = -1)
    (r : Nat) (h : Sign r) (h128 : 128 ≤ r) (hE : r ≠ 65533) (w : World) : Calls Tryd.prog 93 #[.string C, .int .i32 r] w (Gives w (.int .i64 (-1))) := by
  have V := Lib.hid (fun W => vrune_any r h W)
  have d0 : decide ((0 : Int) ≤ (r : Int)) = true := by rw [decide_eq_true_iff]; omega
  have d1 : decide ((r : Int) < 128) = false := by rw [decide_eq_false_iff_not]; omega
  have hE2 : ((r : Int) == 65533) = false := by rw [beq_eq_false_iff_ne]; omega
  obtain ⟨z2, z4, zl⟩ := encode_facts (r : Int) (valid_of h) (by omega)
  have b1' := b1 (by omega)
  have b2' := b2 (by omega)
  have HM := Lib.hid hm
  clear b1 b2 hm
  obtain ⟨R, hR⟩ : ∃ R, Utf8.encode (r : Int) = R := ⟨_, rfl⟩
  rw [hR] at z2 z4
  simp only [hR] at zl
  obtain ⟨z, hz⟩ : ∃ z, R.size = z := ⟨_, rfl⟩
  have hz3 : z = 2 ∨ z = 3 ∨ z = 4 := by omega
  rcases hz3 with rfl | rfl | rfl
  · obtain ⟨y, hy⟩ : ∃ y, (R[1]'(by omega)).toNat = y := ⟨_, rfl⟩
    have hy2 : 128 ≤ y := by rw [← hy]; have := zl (by omega); simpa [hz] using this
    have hy3 : y < 256 := by rw [← hy]; exact UInt8.toNat_lt _
    have cI : ∀ W, Calls Tryd.prog 55 #[.string (C.extract 2 3), .int .u8 (y : Int)] W fun e w'' => e = .returned (.int .i64 (-1)) ∧ w'' = W := fun W => by
      have c := Tryd.strings_IndexByte (C.extract 2 3) (y : Int) W
      rw [HM.out 2 y hy2 hy3] at c
      exact c
    have CI := Lib.hid cI
    clear zl h cI
    have q2 : IntKind.i64.wrap 2 = 2 := by decide
    have q1 : ((13 : Int) != (y : Int)) = true := by rw [bne_iff_ne]; omega
    go_enter Tryd.func93, Tryd.ntmps93
    go_wp2_with (go_at_call 98; refine (V.out _).mono ?_; rintro e w' ⟨rfl, rfl⟩)
    go_step3
    go_wp2_with (fail)
    go_loopg [9] 0 (fun j v wr => v = .int .i64 1 ∧ wr = w)
    case atStart => exact ⟨rfl, rfl⟩
    case round =>
      obtain ⟨rfl, rfl⟩ := hrel
      go_wp2_with (fail)
      go_step3
      go_wp2_with (fail)
      go_quiet (fail)
      go_wp2_with (fail)
      refine wp_region_still_lit (by kernel_rfl) (by kernel_rfl) ?_
      repeat still_step
      still_call (CI.out _)
      repeat still_step
      refine wpStill_nil ?_
      go_wp2_with (fail)
      rw [Exit.noGoto_ret]
      go_ret
      exact ⟨rfl, ⟨rfl, rfl, rfl, Nat.le_refl _, fun _ _ => rfl⟩⟩
  · obtain ⟨y, hy⟩ : ∃ y, (R[2]'(by omega)).toNat = y := ⟨_, rfl⟩
    have hy2 : 128 ≤ y := by rw [← hy]; have := zl (by omega); simpa [hz] using this
    have hy3 : y < 256 := by rw [← hy]; exact UInt8.toNat_lt _
    have cI : ∀ W, Calls Tryd.prog 55 #[.string ByteArray.empty, .int .u8 (y : Int)] W fun e w'' => e = .returned (.int .i64 (-1)) ∧ w'' = W := fun W => Tryd.strings_IndexByte ByteArray.empty (y : Int) W
    have CI := Lib.hid cI
    clear zl h cI
    have q2 : IntKind.i64.wrap 3 = 3 := by decide
    have q1 : ((0 : Int) != (y : Int)) = true := by rw [bne_iff_ne]; omega
    go_enter Tryd.func93, Tryd.ntmps93
    go_wp2_with (go_at_call 98; refine (V.out _).mono ?_; rintro e w' ⟨rfl, rfl⟩)
    go_step3
    go_wp2_with (fail)
    go_loopg [9] 0 (fun j v wr => v = .int .i64 2 ∧ wr = w)
    case atStart => exact ⟨rfl, rfl⟩
    case round =>
      obtain ⟨rfl, rfl⟩ := hrel
      go_wp2_with (fail)
      go_step3
      go_wp2_with (fail)
      go_quiet (fail)
      go_wp2_with (fail)
      refine wp_region_still_lit (by kernel_rfl) (by kernel_rfl) ?_
      repeat still_step
      still_call (CI.out _)
      repeat still_step
      refine wpStill_nil ?_
      go_wp2_with (fail)
      rw [Exit.noGoto_ret]
      go_ret
      exact ⟨rfl, ⟨rfl, rfl, rfl, Nat.le_refl _, fun _ _ => rfl⟩⟩
  · clear zl h
    go_enter Tryd.func93, Tryd.ntmps93
    go_wp2_with (go_at_call 98; refine (V.out _).mono ?_; rintro e w' ⟨rfl, rfl⟩)
    go_step3
    go_wp2_with (fail)
    go_loopg [9] 0 (fun j v wr => v = .int .i64 3 ∧ wr = w)
    case atStart => exact ⟨rfl, rfl⟩
    case round =>
      obtain ⟨rfl, rfl⟩ := hrel
      go_wp2
      rw [Exit.noGoto_ret]
      go_ret
      exact ⟨rfl, Below.refl _ _⟩

set_option maxHeartbeats 4000000 in
theorem irune_none (r : Nat) (h : Sign r) (h128 : 128 ≤ r) (w : World) : Calls Tryd.prog 93 #[.string badC, .int .i32 r] w (Gives w (.int .i64 (-1))) := by
  have V := Lib.hid (fun W => vrune_any r h W)
  have d0 : decide ((0 : Int) ≤ (r : Int)) = true := by rw [decide_eq_true_iff]; omega
  have d1 : decide ((r : Int) < 128) = false := by rw [decide_eq_false_iff_not]; omega
  by_cases hE : r = 65533
  · subst hE
    have hb : badC.size = 3 := rfl
    have hn := Lib.hid (fun (k : Nat) (hk : k < 3) => (show ∃ x : Nat, x < 128 ∧ ∀ ty, (Instr.next (.pointer (some ⟨w.heap.size, 0, none⟩)) true ty).run Tryd.prog (w.iter badC k) = .ok (.tuple #[.bool true, .int .i64 k, .int .i32 x]) (w.iter badC (k + 1)) by
      match k, hk with
      | 0, _ => exact ⟨10, by decide, fun ty => run_next_ascii (P := Tryd.prog) w badC 0 ty (by decide) (by decide)⟩
      | 1, _ => exact ⟨13, by decide, fun ty => run_next_ascii (P := Tryd.prog) w badC 1 ty (by decide) (by decide)⟩
      | 2, _ => exact ⟨0, by decide, fun ty => run_next_ascii (P := Tryd.prog) w badC 2 ty (by decide) (by decide)⟩))
    have he := Lib.hid (fun ty => run_next_end (P := Tryd.prog) w badC 3 ty (by decide))
    generalize badC = C at *
    go_enter Tryd.func93, Tryd.ntmps93
    go_wp2
    go_loopg [5, 6] 3 (fun j _ _ wr => ∃ k : Nat, k ≤ 3 ∧ j = 3 - k ∧ wr = w.iter C k)
    case atStart => exact ⟨0, by omega, rfl, rfl⟩
    case round =>
      obtain ⟨k, hk, rfl, rfl⟩ := hrel
      by_cases hlt : k < 3
      · obtain ⟨x, hx, hnx⟩ := hn.out k hlt
        have hx2 : ((x : Int) == 65533) = false := by rw [beq_eq_false_iff_ne]; omega
        go_wp2
        go_roundg (3 - (k + 1))
        case measure => omega
        case rel => exact ⟨k + 1, by omega, rfl, rfl⟩
      · obtain rfl : k = 3 := by omega
        have hee := he.out
        go_wp2
        go_ret
        exact ⟨rfl, (Below.refl _ _).alloc (Nat.le_refl _) _⟩
  · exact irune_big badC rfl (fun _ => rfl) (fun _ => rfl) (by
      intro k y h1 h2
      have hb : ∀ b ∈ (badC.extract k 3).data.toList, b.toNat < 128 := by
        intro b hb
        have hm : b ∈ badC.data.toList := by
          have e : (badC.extract k 3).data = badC.data.extract k 3 := by simp
          rw [e, Array.toList_extract, List.extract_eq_take_drop] at hb
          exact List.mem_of_mem_drop (List.mem_of_mem_take hb)
        simp only [badC, List.mem_cons, List.mem_nil_iff, or_false] at hm
        rcases hm with rfl | rfl | rfl <;> decide
      have hy : ((y : Int).toNat.toUInt8).toNat = y := by
        show (UInt8.ofNat _).toNat = y
        rw [UInt8.toNat_ofNat']; simp; omega
      generalize (badC.extract k 3).data.toList = l at hb
      generalize (y : Int).toNat.toUInt8 = u at hy
      induction l with
      | nil => rfl
      | cons a l ih =>
        have ha := hb a (by simp)
        have hne : (a == u) = false := by rw [beq_eq_false_iff_ne]; rintro rfl; omega
        have hi := ih (fun b h => hb b (by simp [h]))
        simp [Lib.indexByte, hne, hi]) r h h128 hE w
end Go.Proofs.YteadhiehhpafjaaDoor
