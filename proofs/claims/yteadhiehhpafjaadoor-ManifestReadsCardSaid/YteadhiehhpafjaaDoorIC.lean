/-
  The program's call of slices.Chunk: what its iterator hands out. Conditions: rows of less than four thousand million bytes.
-/
import Derived.Test.YteadhiehhpafjaaDoorIT
namespace Go.Proofs.YteadhiehhpafjaaDoor
open Go Go.RowKit Go.Shelf
attribute [local go_sem] Oper.semAt_some
set_option maxRecDepth 100000

/-- The pieces of a row: where each begins, and how long it is. -/
def chF (n L : Nat) : Nat → Nat → List (Nat × Nat)
  | 0, _ => []
  | k + 1, i => if i < L then (i, min n (L - i)) :: chF n L k (i + n) else []

set_option maxHeartbeats 4000000 in
theorem chunk_hands (W0 : World) (bs bn b L cap n : Nat) (hn : 0 < n) (hn2 : n < 1000) (hL : L < 4294967296) (hcap : L ≤ cap)
    (hc : Whole W0 bs 22 #[.slice (some ⟨b, 0, none⟩) L cap]) (hcn : Whole W0 bn 3 #[.int .i64 n]) :
    Hands Tryd.prog 46 #[.pointer (some ⟨bs, 0, none⟩), .pointer (some ⟨bn, 0, none⟩)] Nob (fun k => k = bs ∨ k = bn) (fun x : Nat × Nat => Value.slice (some ⟨b, x.1, none⟩) x.2 x.2) (chF n L L 0) W0 := by
  intro l J Jx hJ hJx hY h0
  refine callsIn_of_wp Tryd.func46 rfl trivial ?_ rfl
  simp only [Tryd.ntmps46, List.size_toArray, List.length_cons, List.length_nil, Nat.reduceAdd, Nat.reduceSub, Array.replicate_succ, Array.replicate_zero, List.push_toArray, List.append_toArray, List.nil_append, List.cons_append]
  gi_wp2
  gi_loopw [4] (fun v wr => ∃ pre i k, v = .int .i64 (i : Nat) ∧ i ≤ L + n ∧ L ≤ i + k ∧ chF n L L 0 = pre ++ chF n L k i ∧ Whole wr bs 22 #[.slice (some ⟨b, 0, none⟩) L cap] ∧ Whole wr bn 3 #[.int .i64 n] ∧ J pre wr)
    (fun v _ => L + n - (intOf v).toNat)
  case atStart => exact ⟨[], 0, L, rfl, by omega, by omega, rfl, hc, hcn, h0⟩
  case round =>
    obtain ⟨pre, i, k, rfl, hiL, hik, hx, hW, hWn, hJs⟩ := hrel
    have c1 := hW.cell 0
    have c2 := hWn.cell 0
    simp only [List.getElem?_toArray, List.getElem?_cons_zero] at c1 c2
    by_cases hlt : i < L
    · obtain ⟨k, rfl⟩ : ∃ k', k = k' + 1 := ⟨k - 1, by omega⟩
      obtain ⟨M, hM⟩ : ∃ M, min n (L - i) = M := ⟨_, rfl⟩
      have hx2 : chF n L L 0 = (pre ++ [(i, M)]) ++ chF n L k (i + n) := by rw [hx, chF, if_pos hlt, hM]; simp
      have q1 : decide ((i : Int) < (L : Int)) = true := by simpa using hlt
      have q2 : (0 : Int) ≤ i := by omega
      have q3 : (i : Int) ≤ L := by omega
      have q4 : (i : Int) ≤ cap := by omega
      obtain ⟨D, hD⟩ : ∃ D, L - i = D := ⟨_, rfl⟩
      have hD2 : ((L : Int) - (i : Int)).toNat = D := by omega
      have hD3 : ((L : Int) - (i : Int)) = (D : Int) := by omega
      obtain ⟨fn, tmps, assign, body, hy, hR⟩ := hY pre (i, M) wr.drew (hJ _ _ _ hJs ((Only.refl _ wr).drew)) ⟨_, hx2.symm⟩
      gi_wp2
      refine wpIn_wide.2 (wp_region_still_tail 6 (by kernel_rfl) (by kernel_rfl) ?_)
      simp only [List.take_succ_cons, List.take_zero, List.drop_succ_cons, List.drop_zero]
      repeat still_step
      refine wpStill_nil ?_
      go_wp2
      have hmin : min (n : Int) (D : Int) = (M : Int) := by omega
      rw [hmin]
      obtain ⟨E, hE⟩ : ∃ E, i + M = E := ⟨_, rfl⟩
      have p1 : IntKind.i64.wrap ((i : Int) + (M : Int)) = (E : Int) := by rw [← hE, IntWalk.i64_in _ (by omega)]; simp
      have p2 : (0 : Int) ≤ E := by omega
      have p3 : (i : Int) ≤ E := by omega
      have p4 : (E : Int) ≤ cap := by omega
      have p5 : ((E : Int) - (i : Int)).toNat = M := by omega
      have p6 : E - i = M := by omega
      have d1 : wr.drew.cell? { block := bs, off := 0 } = some (.slice (some ⟨b, 0, none⟩) L cap) := c1
      gi_wp2
      refine hR.mono ?_
      rintro e W3 (⟨rfl, hJ3, hz3, hk3⟩ | ⟨rfl, hJx3⟩)
      · have tW : Whole W3 bs 22 #[.slice (some ⟨b, 0, none⟩) L cap] := (hk3 bs (.inl rfl)).trans hW
        have tN : Whole W3 bn 3 #[.int .i64 n] := (hk3 bn (.inr rfl)).trans hWn
        have d2 := tN.cell 0
        simp only [List.getElem?_toArray, List.getElem?_cons_zero] at d2
        have p7 : IntKind.i64.wrap ((i : Int) + (n : Int)) = ((i + n : Nat) : Int) := by rw [IntWalk.i64_in _ (by omega)]; simp
        gi_wp2
        go_roundw
        case rel => exact ⟨_, i + n, k, by simp, by omega, by omega, hx2, tW, tN, hJ3⟩
        case measure => simp only [intOf]; omega
      · gi_wp2
        refine bodyPost_ret (results_none rfl _ _ _) rfl ?_
        exact ⟨⟨_, rfl⟩, .inr ⟨_, hJx3⟩⟩
    · gi_wp2
      go_end0
      exact ⟨⟨_, rfl⟩, .inl (by rw [hx]; cases k <;> simpa [chF, hlt] using hJs)⟩
end Go.Proofs.YteadhiehhpafjaaDoor
