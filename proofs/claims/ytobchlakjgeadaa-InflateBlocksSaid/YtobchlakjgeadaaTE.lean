/-
  The fixed facts of layer 6: what Inflate and Length answer at the statements' own bytes. Conditions: none.
-/
import Derived.Test.YtobchlakjgeadaaTD
namespace Go.Proofs.Ytobchlakjgeadaa
open Go.RowKit
set_option maxRecDepth 100000

theorem inf_ok {L : List Bool} {most : Nat} {w w' : World} {e : Ending} {a : Nat} {o : List Nat} (h : InfRes L most w e w') (hR : Runs (blockStep L most) (0, []) (.ok (a, o))) :
    ∃ v, e = .returned (.tuple #[v, .int .i64 ((a + 7) / 8 : Nat), .int .i64 0]) ∧ w'.ownsRow w.heap.size 5 1 v o.length (bx o) ∧ Below w.heap.size w w' := by
  rcases h with ⟨a', o', v, h1, _, _, h2, h3, h4⟩ | ⟨er, _, _, h1, _⟩
  · have := h1.det hR
    injection this with this
    injection this with e1 e2
    subst e1 e2
    exact ⟨v, h2, h3, h4⟩
  · have := h1.det hR
    cases this
theorem inf_er {L : List Bool} {most : Nat} {w w' : World} {e : Ending} {er : Nat} (h : InfRes L most w e w') (hR : Runs (blockStep L most) (0, []) (.er er)) :
    e = .returned (.tuple #[.slice none 0 0, .int .i64 0, .int .i64 er]) ∧ Below w.heap.size w w' := by
  rcases h with ⟨a', o', v, h1, _⟩ | ⟨er', _, _, h1, h2, h3⟩
  · have := h1.det hR
    cases this
  · have := h1.det hR
    injection this with this
    subst this
    exact ⟨h2, h3⟩

instance {α : Type} [DecidableEq α] : DecidableEq (Rs α)
  | .er a, .er b => if h : a = b then isTrue (by rw [h]) else isFalse (fun e => h (Rs.er.inj e))
  | .ok a, .ok b => if h : a = b then isTrue (by rw [h]) else isFalse (fun e => h (Rs.ok.inj e))
  | .er _, .ok _ => isFalse (fun e => by cases e)
  | .ok _, .er _ => isFalse (fun e => by cases e)

theorem runs1 : Runs (blockStep (unpack [3, 0]) 10) (0, []) (.ok (10, [])) := by
  refine .fin ?_
  have hb : bitsAt (unpack [3, 0]) 0 3 = .ok 3 := by decide +kernel
  rw [block_ok (k := 1) (l := 1) hb rfl rfl]
  have hs : signAt fixL (unpack [3, 0]) 3 = .ok (256, 10) := by decide +kernel
  have : kindAt (unpack [3, 0]) 10 1 (0 + 3) [] = .ok (10, []) := by
    rw [kindAt]
    exact runF_eq (.fin (step_fin hs))
  rw [this]
  rfl
theorem runs2 : Runs (blockStep (unpack [1, 2, 0, 253, 255, 104, 105, 9]) 10) (0, []) (.ok (56, [104, 105])) := by
  refine .fin ?_
  have hb : bitsAt (unpack [1, 2, 0, 253, 255, 104, 105, 9]) 0 3 = .ok 1 := by decide +kernel
  rw [block_ok (k := 0) (l := 1) hb rfl rfl]
  have : kindAt (unpack [1, 2, 0, 253, 255, 104, 105, 9]) 10 0 (0 + 3) [] = .ok (56, [104, 105]) := by
    rw [kindAt]
    decide +kernel
  rw [this]
  rfl
theorem runs3 : Runs (blockStep (unpack [7]) 10) (0, []) (.er 2) := by
  refine .er ?_
  have hb : bitsAt (unpack [7]) 0 3 = .ok 7 := by decide +kernel
  rw [block_ok (k := 3) (l := 1) hb rfl rfl]
  rfl

set_option maxHeartbeats 1000000 in
theorem fixed_any (w : World) : Calls Try.prog 7 #[] w fun e w' => e = .returned (.bool true) ∧ Below w.heap.size w w' := by
  have SL1 := Lib.hid (seen_lit w 5 (bx [3, 0]))
  have C1 := Lib.hid (fun W B A n cp hn (h : Seen W B 1 A n cp (bx [3, 0])) hB => (inflate_any A n cp B [3, 0] 10 (by omega) hn (by have : n = 2 := hn.symm; omega) (by decide) W h hB).mono (fun e w' h => inf_ok h runs1))
  have C2 := Lib.hid (fun W B A n cp hn (h : Seen W B 1 A n cp (bx [1, 2, 0, 253, 255, 104, 105, 9])) hB => (inflate_any A n cp B [1, 2, 0, 253, 255, 104, 105, 9] 10 (by omega) hn (by have : n = 8 := hn.symm; omega) (by decide) W h hB).mono (fun e w' h => inf_ok h runs2))
  have C3 := Lib.hid (fun W B A n cp hn (h : Seen W B 1 A n cp (bx [7])) hB => (inflate_any A n cp B [7] 10 (by omega) hn (by have : n = 1 := hn.symm; omega) (by decide) W h hB).mono (fun e w' h => inf_er h runs3))
  have B1 : Hid (Below w.heap.size w (w.alloc (.cells #[.int .u8 3, .int .u8 0] 5))) := Lib.hid ((Below.refl _ _).alloc (Nat.le_refl _) _)
  go_enter Try.func7, Try.ntmps7
  go_wp2_with fail
  refine (C1.out _ (w.heap.size + 1) _ 2 2 rfl SL1.out (by simp)).mono ?_
  rintro e w1 ⟨v1, rfl, hown1, hb1⟩
  obtain ⟨A1, c1, rfl, _⟩ := own_form hown1
  have B2 := Lib.hid (B1.out.trans (hb1.mono B1.out.size))
  clear hown1 hb1
  have SL2 := Lib.hid (seen_lit w1 5 (bx [1, 2, 0, 253, 255, 104, 105, 9]))
  have B3 : Hid (Below w.heap.size w (w1.alloc (.cells #[.int .u8 1, .int .u8 2, .int .u8 0, .int .u8 253, .int .u8 255, .int .u8 104, .int .u8 105, .int .u8 9] 5))) := Lib.hid (B2.out.alloc B2.out.size _)
  go_wp2_with fail
  refine (C2.out _ (w1.heap.size + 1) _ 8 8 rfl SL2.out (by simp)).mono ?_
  rintro e w2 ⟨v2, rfl, hown2, hb2⟩
  have B4 := Lib.hid (B3.out.trans (hb2.mono B3.out.size))
  obtain ⟨A2, c2, rfl, _, hsn2⟩ := own_seen hown2
  have S2 := Lib.hid hsn2
  clear hown2 hb2 hsn2
  have SL3 := Lib.hid (seen_lit w2 5 (bx [7]))
  have B5 : Hid (Below w.heap.size w (w2.alloc (.cells #[.int .u8 7] 5))) := Lib.hid (B4.out.alloc B4.out.size _)
  have B45 : Hid (Below w2.heap.size w2 (w2.alloc (.cells #[.int .u8 7] 5))) := Lib.hid ((Below.refl _ _).alloc (Nat.le_refl _) _)
  go_wp2_with fail
  refine (C3.out _ (w2.heap.size + 1) _ 1 1 rfl SL3.out (by simp)).mono ?_
  rintro e w3 ⟨rfl, hb3⟩
  have B6 := Lib.hid (B5.out.trans (hb3.mono B5.out.size))
  have S3 := Lib.hid (S2.out.below (B45.out.trans (hb3.mono B45.out.size)))
  clear hb3
  go_wp2_with fail
  refine (length_any 266 w3).mono ?_
  rintro e w4 ⟨rfl, rfl⟩
  have eL : (if (266 : Int) < 0 then optV none else optV (lenOf (266 : Int).toNat)) = .tuple #[.int .i64 13, .int .i64 1, .bool true] := by rfl
  rw [eL]
  have cv : (convert 22 9 (.slice A2 2 c2)).run Try.prog w3 = .ok (.string (strOf [104, 105])) w3 := conv_seen S3.out
  have st : (strOf [104, 105]).toList = [104, 105] := by rw [ByteArray.toList_eq]; rfl
  go_wp2_with fail
  go_ret
  exact ⟨rfl, B6.out⟩
end Go.Proofs.Ytobchlakjgeadaa
