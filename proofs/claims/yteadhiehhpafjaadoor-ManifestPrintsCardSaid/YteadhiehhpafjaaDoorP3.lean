/-
  ManifestPrints is proved as its tied card states it: for every manifest the call answers true, and nothing that was there has changed. Conditions: the listed variables lie as the program's text and Go's own table lay them (the card ties them).
-/
import Derived.Test.YteadhiehhpafjaaDoorQH
import Derived.Test.YteadhiehhpafjaaDoorQI
import Derived.Test.YteadhiehhpafjaaDoorRows
import Derived.WalkKit
import Derived.ProofKit
import Derived.Test.YteadhiehhpafjaaDoorTie
import Derived.Test.YteadhiehhpafjaaDoorCards
import Derived.SevenTiedAt
import Derived.LaidMore
import Derived.Stop.Joined
import Derived.ChangeMaps5
import Derived.OpenShut
import Derived.ShutString
import Derived.ChangeOld
import Derived.Below
namespace Go.Proofs.YteadhiehhpafjaaDoor.lawManifestPrints
open Go.ChangeShapes Go.WideShapes Go.ChangeAt Go.RowKit Go.ChangeMaps
set_option linter.unusedVariables false


set_option maxRecDepth 100000 in
theorem lifted (os : Os) (started : os.Started) (H : Type) (enc : TypeId × Value → H) :
    ReturnsInHanded {} Tryd.checked os 4 .any (fun w args => (Rows.manifestPrintsSpec.pre enc Tryd.prog Tryd.f4 [] false w args ∧ laidMetH Tryd.prog listM w) ∧ sizedMet enc Tryd.prog Tryd.f4 (OpenSpec.ofChange Rows.manifestPrintsSpec) false w args)
      (Rows.manifestPrintsSpec.post enc Tryd.prog Tryd.f4 false true false false) := by
  refine handed_shaped_sized (C := Tryd.checked) (X := fun w _ => laidMetH Tryd.prog listM w) own started (by kernel_rfl) Tryd.func4
    (ChangeSpec.witness_shaped (enc := enc) (C := Tryd.checked) (os := os) (X := fun w _ => laidMetH Tryd.prog listM w) false (World.laidAll Tryd.prog os listM) #[.agg #[.slice none 0 0, .slice none 0 0]] 8 (World.laidAll_os _ _ _) (World.shaped_of_ZipB (by kernel_rfl) (by kernel_rfl)) (by kernel_rfl) (by kernel_rfl) (by kernel_rfl) (door_met os _)) ?_
  intro W base args ds gs before hval0 hW hsz0 hSh
  have hsz : (DataW.weightsEach Tryd.prog (Tryd.f4.params.toList ++ Rows.manifestPrintsSpec.plain.varTypes Tryd.prog) (ds ++ gs)).all (· ≤ reachBytes) = true := hsz0
  have hval : ∀ (j : Nat) t v, Tryd.f4.params[j]? = some t → args[j]? = some v → Value.okWide Tryd.prog W .any base t v := hval0
  have hW' := hW
  obtain ⟨p, q, hA0, hV, rfl, hfz, hnd⟩ := hW
  have hA : DataW.TrodAll enc Tryd.prog W 0 (fun _ => true) true Tryd.f4.params.toList args.toList ds p := hA0
  rw [Tryd.params4] at hA hval hsz
  obtain ⟨v0, vs0, d0, ds0, p0, q0, hargs, rfl, rfl, h0, r0⟩ := trodAll_cons hA
  obtain ⟨rfl, rfl, rfl⟩ := trodAll_nil r0
  obtain rfl : args = #[v0] := by cases args; simp_all
  obtain ⟨rfl, rfl⟩ := trodVars_none hV
  obtain ⟨c00, c01, main0, ps0, rfl, hms0, hmb0, hpl0⟩ : ∃ c0 c1 main ps, v0 = .agg #[c0, c1] ∧ ManSeen W W.heap.size (.agg #[c0, c1]) main ps ∧ (∀ s ∈ main :: ps, s.length ≤ 10000000000000) ∧ ps.length ≤ 5864062014634 := by
    obtain ⟨cs, rfl, hcs⟩ := okWide_struct Tryd.underlying27 (hval 0 27 v0 rfl rfl)
    obtain ⟨fuel, hf⟩ := h0
    obtain ⟨c0, c1, main, ps, ht, hms, hmb, hpl⟩ := man_of hf (fun k hk => by simpa using List.all_eq_true.1 hsz k (DataW.weights_mem_each (j := 0) rfl rfl k hk))
    refine ⟨c0, c1, main, ps, ?_, hms, hmb, hpl⟩
    simp [Value.cells] at ht
    rw [← ht]
  have k0 := h0
  have lt0 : ∀ x ∈ p0, x.block < W.heap.size := by obtain ⟨m, hm⟩ := k0; exact DataW.trod_lt m _ _ _ hm
  clear hA0 hval0
  obtain ⟨mx, hmx⟩ := max_cell hSh
  refine (prints_yes main0 ps0 (.agg #[c00, c01]) hmb0 hpl0 mx W hmx hms0).mono fun e W' ⟨he, bel⟩ => ?_
  subst he
  exact ⟨_, rfl, _, _, _, [], _, [], hW', trodAll_mk1 (shut_bool Tryd.underlying4 _), (trodAll_cons_mk (Below.trod laidOut (by kernel_rfl) (of_decide_eq_true (by kernel_rfl)) k0 bel lt0) trodAll_mk0), rfl, bel.frame _, fun h => by cases h⟩

theorem row_holds : Rows.ManifestPrintsSaid :=
  OpenClaim.holds_of_wide 4 Tryd.f4 rfl rfl rfl rfl rfl rfl rfl ⟨rfl, rfl, rfl, rfl, rfl⟩ rfl rfl rfl rfl rfl (by kernel_rfl) Tryd.func4 (by kernel_rfl)
    (of_decide_eq_true (by kernel_rfl)) (by unfold Func.isWrapper; first | (rw [if_pos (by decide +kernel)]; kernel_rfl) | (rw [if_neg (by decide +kernel)]; exact ⟨rfl, rfl⟩))
    (fun os started H enc _ => lifted os started H enc)
theorem proved : Rows.ManifestPrintsCardSaid :=
  Claim7.holds_tied_plain_at .later [] [.data, .sentinel, .pinned] true (true, "d4410748471e51baba0957a5cf69098fb501b628fc9230d83be91cf1f4a2be62") false
    row_holds (fun _ h => by cases h) (by kernel_rfl) (fun _ h => by cases h) manifestPrints_row_tie rfl ⟨rfl, rfl⟩ (by kernel_rfl) rfl
    (fun f fn hf hfn => by
        obtain rfl : f = 4 := Option.some.inj ((show Tryd.prog.funcNamed "packsaddle/packsaddlelaw14.ManifestPrints" = some 4 by kernel_rfl).symm.trans hf) |>.symm
        obtain rfl : fn = Tryd.f4 := (Option.some.inj (Tryd.func4.symm.trans hfn)).symm
        exact ⟨by kernel_rfl, fun j t ht => by
          rw [Tryd.params4] at ht
          have hm : t ∈ [27] := by simpa using Array.mem_of_getElem? ht
          have hall : ([27].all fun u => !Tryd.prog.wantsStandIn u) = true := by kernel_rfl
          exact (show Tryd.prog.wantsStandIn t = false by simpa using List.all_eq_true.1 hall t hm)⟩)
    (by kernel_rfl)
#print axioms proved
end Go.Proofs.YteadhiehhpafjaaDoor.lawManifestPrints
