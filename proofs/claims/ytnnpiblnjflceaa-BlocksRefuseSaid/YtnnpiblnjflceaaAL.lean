/-
  The contract of a writer's Align. Conditions: at most a million bits.
-/
import Derived.Test.YtnnpiblnjflceaaG2
import Derived.Test.YtnnpiblnjflceaaN2
namespace Go.Proofs.Ytnnpiblnjflceaa
open Go.RowKit
set_option maxRecDepth 100000

theorem writerAlign_any (B g : Nat) (sv : Value) (l : List Bool) (w : World) (hw : WriterAt w B g sv l) (hl : l.length ≤ 1000000) :
    Calls Try.prog 32 #[.pointer (some ⟨g, 0, none⟩)] w fun e w' => e = .returned (.tuple #[]) ∧ WriterAt w' B g sv (padTo l) ∧ Only (fun k => k = g) w w' := by
  obtain ⟨hBg, hWh, hown⟩ := hw
  have hne := own_ne_whole hown hWh (by decide)
  have HN := Lib.hid hne; clear hne
  obtain ⟨A, c, rfl, hcm⟩ := own_form hown
  have c0 : w.cell? ⟨g, 0, none⟩ = some (.slice A ((l.length + 7) / 8) c) := by simpa using hWh.cell 0
  have c1 : w.cell? ⟨g, 1, none⟩ = some (.int .i64 l.length) := by simpa using hWh.cell 1
  have f1 := hWh.frozen 1
  obtain ⟨q, hq⟩ : ∃ q, (l.length + 7) / 8 = q := ⟨_, rfl⟩
  rw [hq] at c0 hWh hown HN
  have hq2 : q ≤ 1000000 := by omega
  have HQ := Lib.hid hq; clear hq
  go_enter Try.func32, Try.ntmps32
  go_wp2
  go_end0
  have hO := (Only.refl (fun k => k = g) w).setCell (p := ⟨g, 1, none⟩) (.inl rfl) (.int .i64 (8 * (q : Int)))
  have h8 : (padTo l).length = 8 * q := by rw [padTo_length, HQ.out]
  rw [HQ.out]
  refine ⟨rfl, ⟨hBg, ?_, ?_⟩, hO⟩
  · rw [h8]
    simpa using hWh.put 1 (.int .i64 (8 * (q : Int)))
  · rw [h8, show (8 * q + 7) / 8 = q by omega, pack_pad]
    exact own_only hown hO (fun k hk => HN.out k hk)


end Go.Proofs.Ytnnpiblnjflceaa
