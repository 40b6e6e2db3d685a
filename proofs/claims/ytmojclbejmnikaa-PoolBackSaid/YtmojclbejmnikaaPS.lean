/-
  The program's Holds. Conditions: a pool in memory, of at most a hundred thousand constants.
-/
import Derived.Test.YtmojclbejmnikaaPR
import Derived.Test.YtmojclbejmnikaaXD
namespace Go.Proofs.Ytmojclbejmnikaa
open Go Go.RowKit
set_option maxRecDepth 100000

/-- Does the rest of a pool hold, from a number on, that must be none or needn't? -/
def hoP (l : List Raw) : List Raw → Nat → Bool → Bool
  | [], _, nn => !nn
  | r :: t, i, true => isZ r && hoP l t (i + 1) false
  | r :: t, i, false => decide ((valueM l i []).2 = 0) && hoP l t (i + 1) (wideB r.tag)
theorem hoP_drop (l : List Raw) (k : Nat) (hk : k < l.length) (nn : Bool) : hoP l (l.drop k) k nn = if nn then isZ l[k] && hoP l (l.drop (k + 1)) (k + 1) false else decide ((valueM l k []).2 = 0) && hoP l (l.drop (k + 1)) (k + 1) (wideB l[k].tag) := by
  rw [List.drop_eq_getElem_cons hk]
  cases nn <;> rfl

set_option maxHeartbeats 16000000 in
theorem pholds_any (l : List Raw) (A : Option Addr) (n c B : Nat) (hn : l.length = n) (hs : n ≤ 100000) (w : World) (hA : Seen w B 5 A n c (rv l)) (hB : B ≤ w.heap.size) :
    Calls Try.prog 22 #[.slice A n c] w (Gives w (.bool (hoP l l 0 true))) := by
  have VAL := Lib.hid (fun (k : Nat) (W : World) (hW : Below w.heap.size w W) => value_any l A n c B (k : Int) [] none 0 0 hn hs rfl (by omega) W (hA.below (hW.mono hB)) (seen_nil _ _) (Nat.le_trans hB hW.size))
  have HA := Lib.hid hA
  obtain ⟨R, hR⟩ : ∃ r, hoP l l 0 true = r := ⟨_, rfl⟩
  rw [hR]
  have HR := Lib.hid hR
  clear hA hR
  go_enter Try.func22, Try.ntmps22
  go_wp2
  go_loopg [3, 10] n (fun j v3 v wr => ∃ (k : Nat) (nn : Bool), k ≤ n ∧ j = n - k ∧ v = .int .i64 k ∧ v3 = .bool nn ∧ Below w.heap.size w wr ∧ hoP l (l.drop k) k nn = R)
  case atStart => exact ⟨0, true, by omega, rfl, rfl, rfl, Below.refl _ _, by rw [List.drop_zero]; exact HR.out⟩
  case round =>
    obtain ⟨k, nn, hk, rfl, rfl, rfl, hbl, hho⟩ := hrel
    obtain ⟨wo, rfl⟩ : ∃ W, W = wr := ⟨_, rfl⟩
    have HB := Lib.hid hbl
    have HH := Lib.hid hho
    clear hbl hho
    by_cases hlt : k < n
    · have hkl : k < l.length := by omega
      have d0 : decide ((k : Int) < (n : Int)) = true := by rw [decide_eq_true_iff]; omega
      have st := Lib.hid (hoP_drop l k hkl nn)
      obtain ⟨bb, oo, rfl, hbb, hc⟩ := (HA.out.below (HB.out.mono hB)).raw hkl hn
      obtain ⟨r, hr⟩ : ∃ r, l[k] = r := ⟨_, rfl⟩
      rw [hr] at st hc
      have m0 : wo.cell? ⟨bb, oo + k * 5, none⟩ = some (.int .i64 r.tag) := hc 0 _ rfl
      have m1 : wo.cell? ⟨bb, oo + k * 5 + 1, none⟩ = some (.string r.text) := by rw [Nat.add_assoc]; exact hc 1 _ rfl
      have m2 : wo.cell? ⟨bb, oo + k * 5 + 2, none⟩ = some (.int .u64 r.bits) := by rw [Nat.add_assoc]; exact hc 2 _ rfl
      have m3 : wo.cell? ⟨bb, oo + k * 5 + 3, none⟩ = some (.int .i64 r.a) := by rw [Nat.add_assoc]; exact hc 3 _ rfl
      have m4 : wo.cell? ⟨bb, oo + k * 5 + 4, none⟩ = some (.int .i64 r.b) := by rw [Nat.add_assoc]; exact hc 4 _ rfl
      obtain ⟨w2, hw2⟩ : ∃ W, wo.alloc (.cells #[.int .i64 r.tag, .string r.text, .int .u64 r.bits, .int .i64 r.a, .int .i64 r.b] 47) = W := ⟨_, rfl⟩
      obtain ⟨gq, hgq⟩ : ∃ q, wo.heap.size = q := ⟨_, rfl⟩
      have P1 : Hid (Whole w2 gq 47 (rawA r)) := Lib.hid (hw2 ▸ hgq ▸ Whole.new wo 47 _)
      have B2 : Hid (Below w.heap.size w w2) := Lib.hid (hw2 ▸ HB.out.alloc HB.out.size _)
      have HRR := Lib.hid hr
      clear hr hc
      cases nn
      · have V1 := Lib.hid (VAL.out k w2 B2.out)
        obtain ⟨q, hq⟩ : ∃ q, valueM l k [] = q := ⟨_, rfl⟩
        rw [hq] at V1 st
        obtain ⟨x, e1⟩ := q
        simp only at V1 st
        clear hq
        go_wp2_with fail
        refine V1.out.mono ?_
        rintro e w3 ⟨he, hB3⟩
        replace he : e = .returned (.tuple #[.agg #[.int .i64 x.tag, .string x.text, .int .u64 x.bits, .string x.cls, .string x.name, .string x.desc], .int .i64 e1]) := he
        subst he
        obtain ⟨w5, hw5⟩ : ∃ W, (w3.alloc (.cells #[.int .i64 0, .string ⟨#[]⟩, .int .u64 0, .string ⟨#[]⟩, .string ⟨#[]⟩, .string ⟨#[]⟩] 41)).setRow w3.heap.size (valA x) = W := ⟨_, rfl⟩
        have hw5' : w3.alloc (.cells (valA x) 41) = w5 := by rw [← hw5]; exact (World.setRow_alloc_new w3 _ _ _).symm
        have Z3 := Lib.hid (Whole.new w3 41 #[.int .i64 0, .string ⟨#[]⟩, .int .u64 0, .string ⟨#[]⟩, .string ⟨#[]⟩, .string ⟨#[]⟩])
        have B3 := Lib.hid (B2.out.trans (hB3.mono B2.out.size))
        have B5 : Hid (Below w.heap.size w w5) := Lib.hid (hw5' ▸ B3.out.alloc B3.out.size _)
        have P5 : Hid (Whole w5 gq 47 (rawA r)) := Lib.hid (hw5' ▸ (P1.out.bel hB3).alloc _)
        obtain ⟨g4, hg4⟩ : ∃ q, w3.heap.size = q := ⟨_, rfl⟩
        rw [hg4] at hw5 Z3
        clear hB3 hw5'
        go_upto_region 10 with (refine wpList_store_row rfl 41 (.tmp 6) (.tmp 23) rfl g4 (valA x) rfl rfl 41 (valA v0) Z3.out rfl rfl (val_one _) ?_)
        (try rw [hw5])
        clear hw5
        have k0 : w5.cell? ⟨gq, 0, none⟩ = some (.int .i64 r.tag) := P5.out.cell 0
        have WD := Lib.hid (wide_any r.tag w5)
        by_cases he1 : e1 = 0
        · have q1 : (e1 != 0) = false := by rw [he1]; rfl
          have HE := Lib.hid he1
          clear he1
          go_wp2_with (go_at_call 20; refine WD.out.mono ?_; rintro e w6 ⟨rfl, rfl⟩)
          go_roundg (n - (k + 1))
          case measure => omega
          case rel =>
            refine ⟨k + 1, _, by omega, rfl, by go_num, rfl, B5.out, ?_⟩
            rw [← HH.out, st.out, if_neg (by decide), decide_eq_true HE.out, Bool.true_and]
        · have q1 : (e1 != 0) = true := by rw [bne_iff_ne]; exact he1
          have HE := Lib.hid he1
          clear he1
          go_wp2_with fail
          go_ret
          have hr2 : R = false := by rw [← HH.out, st.out, if_neg (by decide), decide_eq_false HE.out, Bool.false_and]
          exact ⟨by rw [hr2]; rfl, B5.out⟩
      · have NQ := neq41 r
        by_cases hz : isZ r = true
        · rw [hz] at NQ
          have HZ := Lib.hid hz
          clear hz
          go_wp2_with ((try rw [hw2]); refine wpList_load_row rfl 47 (.tmp 5) rfl gq rfl 47 #[.int .i64 r.tag, .string r.text, .int .u64 r.bits, .int .i64 r.a, .int .i64 r.b] (0, 0) _ P1.out Try.underlying47 rfl rfl ?_)
          go_roundg (n - (k + 1))
          case measure => omega
          case rel =>
            refine ⟨k + 1, _, by omega, rfl, by go_num, rfl, B2.out, ?_⟩
            rw [← HH.out, st.out, if_pos trivial, HZ.out, Bool.true_and]
        · rw [Bool.not_eq_true] at hz
          rw [hz] at NQ
          have HZ := Lib.hid hz
          clear hz
          go_wp2_with ((try rw [hw2]); refine wpList_load_row rfl 47 (.tmp 5) rfl gq rfl 47 #[.int .i64 r.tag, .string r.text, .int .u64 r.bits, .int .i64 r.a, .int .i64 r.b] (0, 0) _ P1.out Try.underlying47 rfl rfl ?_)
          go_ret
          have hr2 : R = false := by rw [← HH.out, st.out, if_pos trivial, HZ.out, Bool.false_and]
          exact ⟨by rw [hr2]; rfl, B2.out⟩
    · have d0 : decide ((k : Int) < (n : Int)) = false := by rw [decide_eq_false_iff_not]; omega
      have hr : R = !nn := by rw [← HH.out, List.drop_of_length_le (by omega)]; rfl
      have HR2 := Lib.hid hr
      clear hr
      go_wp2_with fail
      go_ret
      exact ⟨by rw [HR2.out]; rfl, HB.out⟩
end Go.Proofs.Ytmojclbejmnikaa
