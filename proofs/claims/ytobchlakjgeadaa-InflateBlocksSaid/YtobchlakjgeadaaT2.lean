/-
  Contracts of lone and copied: one sign's doing. Conditions: the state stands as told (StAt), its things are where they should be (Cx.Good).
-/
import Derived.Test.YtobchlakjgeadaaT1
namespace Go.Proofs.Ytobchlakjgeadaa
open Go.RowKit
set_option maxRecDepth 100000

theorem Fr.undrew {B : Nat} {w w' : World} (h : Fr B w.drew w') : Fr B w w' := ⟨h.os, h.tape, h.output, h.size, h.block⟩

theorem lone_no {c : Cx} (hg : c.Good) (ov p q : Value) (a : Nat) (o : List Nat) (j : Int) (ho : c.most ≤ o.length) (w : World) (h : StAt c w ov p q a o) :
    Calls Try.prog 62 #[.pointer (some ⟨c.gs, 0, none⟩), .int .u8 j] w fun e w' => e = .returned (.int .i64 3) ∧ Fr c.B0 w w' := by
  have H := Lib.hid h; clear h
  have e0 : c.most - o.length = 0 := by omega
  have CR := Lib.hid (fun W h => room_any hg ov p q a o W h)
  rw [e0] at CR
  go_enter Try.func62, Try.ntmps62
  go_wp2_with (go_at_call 50; refine (CR.out _ H.out).mono ?_; rintro e w1 ⟨rfl, rfl⟩)
  go_ret
  exact ⟨rfl, (Fr.refl _ _).drew⟩

theorem lone_yes {c : Cx} (hg : c.Good) (ov p q : Value) (a : Nat) (o : List Nat) (j : Nat) (ho : o.length < c.most) (w : World) (h : StAt c w ov p q a o) :
    Calls Try.prog 62 #[.pointer (some ⟨c.gs, 0, none⟩), .int .u8 j] w fun e w' => e = .returned (.int .i64 0) ∧ (∃ ov', StAt c w' ov' p q a (o ++ [j])) ∧ Fr c.B0 w w' := by
  obtain ⟨i0, hi0, hz0, hz1, hz2⟩ := info_parts byte_info
  have HD := Lib.hid h.drew
  have c1 := HD.out.c1
  have sz := h.size
  have hw := (HD.out.below ((Below.refl _ _).alloc (Nat.le_refl _) (.cells #[.int .u8 (j : Int)] 5)))
  have HA := Lib.hid hw
  have f1 := hw.f1
  have H := Lib.hid h; clear h hw
  obtain ⟨k, hk⟩ : ∃ k, c.most - o.length = k := ⟨_, rfl⟩
  have CR := Lib.hid (fun W h => room_any hg ov p q a o W h)
  rw [hk] at CR
  have hk0 : ((k : Int) == 0) = false := by simp; omega
  have hk1 : ¬ (k : Int) = 0 := by omega
  have hm := hg.most
  go_enter Try.func62, Try.ntmps62
  go_wp2_with (first
    | (go_at_call 50; refine (CR.out _ H.out).mono ?_; rintro e w1 ⟨rfl, rfl⟩)
    | (at_builtin; refine wpList_append_seen _ rfl (.tmp 12) (.tmp 14) _ rfl c.B1 5 i0 _ 1 1 Try.underlying22 hi0 hz0 hz1 hz2 rfl (by omega) ov o.length _ rfl HA.out.out _ _ 1 1 _ rfl (seen_one _ _ _) (by simp [Value.oneCell']) (by simp only [maxLen]; omega) (by omega) (by simp only [World.size_alloc, World.size_drew]; omega) ?_; intro v1 w1 hown1 hg1 hat1; obtain ⟨r, cap, rfl, _, _⟩ := own_pos hown1 (by omega); have hWh1 := HA.out.st.grown hg1 (fun e => own_ne_whole HA.out.out HA.out.st (by decide) c.gs e.symm rfl); have d1 : w1.cell? ⟨c.gs, 1, none⟩ = some ov := hWh1.cell 1; have z1 := hWh1.frozen 1; have HG := Lib.hid hg1; have HO := Lib.hid hown1; clear hg1 hown1 hWh1))
  go_ret
  have hl : (o ++ [j]).length = o.length + 1 := by simp
  have hP := HA.out.push hg (v1 := .slice (some ⟨r, 0, none⟩) (o.length + 1) cap) (o' := o ++ [j]) HG.out (by rw [hl]; simpa using HO.out) (by omega)
  exact ⟨rfl, ⟨_, hP.1⟩, ((Fr.of_below ((Below.refl _ _).alloc (Nat.le_refl _) _) _).trans hP.2).undrew⟩
end Go.Proofs.Ytobchlakjgeadaa
