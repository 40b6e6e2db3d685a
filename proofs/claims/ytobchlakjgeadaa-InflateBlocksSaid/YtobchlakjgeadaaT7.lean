/-
  Contracts of fixedBlock and storedBlock. Conditions: the state stands as told (StAt), its things are where they should be (Cx.Good).
-/
import Derived.Test.YtobchlakjgeadaaT6
namespace Go.Proofs.Ytobchlakjgeadaa
open Go.RowKit
set_option maxRecDepth 100000

/-- What a block's doing makes: r is what it should. -/
def BlockRes (c : Cx) (R : Rs (Nat × List Nat)) (a : Nat) (w : World) (e : Ending) (w' : World) : Prop :=
  (∃ a' o', R = .ok (a', o') ∧ a ≤ a' ∧ e = .returned (.int .i64 0) ∧ (∃ ov p q, StAt c w' ov p q a' o') ∧ Fr c.B0 w w') ∨
  (∃ er : Nat, 0 < er ∧ er < 100 ∧ R = .er er ∧ e = .returned (.int .i64 er) ∧ Fr c.B0 w w')

theorem BlockRes.of_signs {c : Cx} {x y : List Int} {a a0 : Nat} {o : List Nat} {p q : Value} {w w0 : World} {e : Ending} {w' : World} (h : SignsRes c x y a o p q w e w') (hf : Fr c.B0 w0 w) (ha : a0 ≤ a) :
    BlockRes c (runF (signStep x y c.L c.most) (a, o)) a0 w0 e w' := by
  rcases h with ⟨a', o', h1, h2, h3, ⟨ov, h4⟩, h5⟩ | ⟨er, h1, h2, h3, h4, h5⟩
  · exact .inl ⟨a', o', runF_eq h1, Nat.le_trans ha h2, h3, ⟨ov, p, q, h4⟩, hf.trans h5⟩
  · exact .inr ⟨er, h1, h2, runF_eq h3, h4, hf.trans h5⟩

theorem fixL_kind : kindOf fixL ≠ 0 := by decide +kernel
theorem fixD_kind : kindOf fixD ≠ 0 := by decide +kernel

theorem StAt.fix {c : Cx} {w : World} {ov p q : Value} {a : Nat} {o : List Nat} {g1 g2 : Nat} (hg : c.Good) (h : StAt c w ov p q a o) (h1 : CodeOwn w c.B1 g1 fixL 288) (h2 : CodeOwn w c.B1 g2 fixD 32) :
    StAt c ((w.setCell ⟨c.gs, 3, none⟩ (.pointer (some ⟨g1, 0, none⟩))).setCell ⟨c.gs, 4, none⟩ (.pointer (some ⟨g2, 0, none⟩))) ov (.pointer (some ⟨g1, 0, none⟩)) (.pointer (some ⟨g2, 0, none⟩)) a o ∧
    Fr c.B0 w ((w.setCell ⟨c.gs, 3, none⟩ (.pointer (some ⟨g1, 0, none⟩))).setCell ⟨c.gs, 4, none⟩ (.pointer (some ⟨g2, 0, none⟩))) := by
  have hO := ((Only.refl (fun k => k = c.gs) w).setCell (p := ⟨c.gs, 3, none⟩) (.inl rfl) (.pointer (some ⟨g1, 0, none⟩))).setCell (p := ⟨c.gs, 4, none⟩) (.inl rfl) (.pointer (some ⟨g2, 0, none⟩))
  have hF : Fr c.B0 w ((w.setCell ⟨c.gs, 3, none⟩ (.pointer (some ⟨g1, 0, none⟩))).setCell ⟨c.gs, 4, none⟩ (.pointer (some ⟨g2, 0, none⟩))) := Fr.of_only hO (fun k _ hk => by
    subst hk
    exact ⟨hg.lo, 51, _, h.st, .inr (.inl rfl)⟩)
  have hP := (h.st.put 3 (.pointer (some ⟨g1, 0, none⟩))).put 4 (.pointer (some ⟨g2, 0, none⟩))
  refine ⟨⟨by simpa using hP, ?_, own_only h.out hO (fun k hk => own_ne_whole h.out h.st (by decide) k hk), .inr ⟨g1, g2, rfl, rfl, hF.code h1, hF.code h2⟩, Nat.le_trans h.size hF.size, h.place, h.room⟩, hF⟩
  exact h.rd.only hO (fun e => h.st.ne h.rd.2.1 (by decide) e.symm) (fun k hk e => own_ne_whole h.rd.2.2 h.st (by decide) k hk e)

set_option maxHeartbeats 1000000 in
theorem fixedBlock_any {c : Cx} (hg : c.Good) (ov p q : Value) (a : Nat) (o : List Nat) (w : World) (h : StAt c w ov p q a o) :
    Calls Try.prog 37 #[.pointer (some ⟨c.gs, 0, none⟩)] w (BlockRes c (runF (signStep fixL fixD c.L c.most) (a, o)) a w) := by
  have H := Lib.hid h
  have c3 := h.c3
  have c4 := h.c4
  have sz := h.size
  obtain ⟨R, hR⟩ : ∃ R, runF (signStep fixL fixD c.L c.most) (a, o) = R := ⟨_, rfl⟩
  rw [hR]
  have HR := Lib.hid hR; clear hR
  rcases h.fx with ⟨rfl, rfl⟩ | ⟨g1, g2, rfl, rfl, k1, k2⟩
  · clear h
    go_enter Try.func37, Try.ntmps37
    go_wp2_with fail
    refine (fixedLengths_any w).mono ?_
    rintro e w1 ⟨f1, f2, rfl, hs1, hs2, hb1⟩
    have S1 := Lib.hid hs1
    have S2 := Lib.hid hs2
    have B1 := Lib.hid hb1
    clear hs1 hs2 hb1 c3 c4
    go_wp2_with fail
    refine (newCodes_any _ _ 288 288 32 32 w1.heap.size fixL fixD rfl rfl (by omega) (by omega) fixL_kind fixD_kind w1 S1.out S2.out (Nat.le_refl _)).mono ?_
    rintro e w2 ⟨g1, g2, rfl, hc1, hc2, hb2⟩
    have hB := B1.out.trans (hb2.mono B1.out.size)
    have hs3 := H.out.below hB
    have hsz : c.B1 ≤ w1.heap.size := Nat.le_trans sz B1.out.size
    have hx := Lib.hid (hs3.fix hg (hc1.base hsz) (hc2.base hsz))
    have c3 := hs3.c3
    have c4 := hs3.c4
    have z3 := hs3.st.frozen 3
    have z4 := hs3.st.frozen 4
    have FB := Lib.hid (Fr.of_below hB c.B0)
    clear hs3 hB hc1 hc2 hb2 S1 S2 B1
    go_wp2_with fail
    refine (signsCall_any hg ov _ _ a o c.B1 g1 g2 fixL fixD 288 32 rfl rfl (by omega) (by omega) fixL_kind fixD_kind _ ?_ ?_ hx.out.1).mono ?_
    · have := hx.out.1.fx
      rcases this with ⟨h1, _⟩ | ⟨g, h, e1, e2, h1, h2⟩
      · cases h1
      · injection e1 with e1; injection e1 with e1; injection e1 with e1; subst e1; exact h1
    · have := hx.out.1.fx
      rcases this with ⟨h1, _⟩ | ⟨g, h, e1, e2, h1, h2⟩
      · cases h1
      · injection e2 with e1; injection e1 with e1; injection e1 with e1; subst e1; exact h2
    rintro e w3 hres
    have hres2 := Lib.hid (BlockRes.of_signs hres (FB.out.trans hx.out.2) (Nat.le_refl a))
    clear hres
    rw [HR.out] at hres2
    have hcase := hres2.out
    rcases hcase with ⟨a', o', h1, h2, rfl, h4, h5⟩ | ⟨er, h1, h2, h3, rfl, h5⟩
    · clear h1 h2 h4 h5
      go_wp2_with fail
      go_ret
      exact hres2.out
    · clear h1 h2 h3 h5
      go_wp2_with fail
      go_ret
      exact hres2.out
  · have K1 := Lib.hid k1
    have K2 := Lib.hid k2
    clear h k1 k2
    go_enter Try.func37, Try.ntmps37
    go_wp2_with fail
    refine (signsCall_any hg ov _ _ a o c.B1 g1 g2 fixL fixD 288 32 rfl rfl (by omega) (by omega) fixL_kind fixD_kind _ K1.out K2.out H.out).mono ?_
    rintro e w3 hres
    have hres2 := Lib.hid (BlockRes.of_signs hres (Fr.refl _ _) (Nat.le_refl a))
    clear hres
    rw [HR.out] at hres2
    have hcase := hres2.out
    rcases hcase with ⟨a', o', h1, h2, rfl, h4, h5⟩ | ⟨er, h1, h2, h3, rfl, h5⟩
    · clear h1 h2 h4 h5
      go_wp2_with fail
      go_ret
      exact hres2.out
    · clear h1 h2 h3 h5
      go_wp2_with fail
      go_ret
      exact hres2.out
end Go.Proofs.Ytobchlakjgeadaa
