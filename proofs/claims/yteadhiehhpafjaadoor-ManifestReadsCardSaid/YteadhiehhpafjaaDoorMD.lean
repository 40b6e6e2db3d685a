/-
  The document's header of a line. Conditions: a text of at most a million bytes.
-/
import Derived.Test.YteadhiehhpafjaaDoorMC
import Derived.StillTailTactics
namespace Go.Proofs.YteadhiehhpafjaaDoor
open Go.RowKit
set_option maxRecDepth 100000

theorem Whole.setRow {w : World} {g : Nat} {t : TypeId} {cs : Array Value} (h : Whole w g t cs) (cs' : Array Value) : Whole (w.setRow g cs') g t cs' := setRow_heap w g cs cs' t _ h
theorem below_setRow {B : Nat} {a w : World} (h : Below B a w) {g : Nat} (cs : Array Value) (hp : B ≤ g) : Below B a (w.setRow g cs) :=
  ⟨h.os, h.tape, h.output, by simpa using h.size, fun i hi => (setRow_other w g i cs (by omega)).trans (h.block i hi)⟩
/-- A header's cells. -/
def pairA (a b : ByteArray) : Array Value := #[.string a, .string b]
theorem pair_size (a b : ByteArray) : (Tryd.prog.info? 44).map (·.size) = some (pairA a b).size := by kernel_rfl
theorem pair_one (a b : ByteArray) : (pairA a b).all (·.oneCell') = true := by simp [pairA, Value.oneCell']
theorem results_pair {fn : Func} {p u : Tmp} (h : fn.results = #[.cell p 44, .tmp u]) (tmps : Array Value) (w : World) (g : Nat) (a b : ByteArray) (hp : tmps.getD p undef = .pointer (some ⟨g, 0, none⟩)) (hg : Whole w g 44 (pairA a b)) :
    (results fn tmps).run Tryd.prog w = .ok (.tuple #[.agg (pairA a b), tmps.getD u undef]) w := by
  have hp' : tmps[p]?.getD undef = .pointer (some ⟨g, 0, none⟩) := by simpa using hp
  simp [results, h, hp', asAddr, run_loadVar_row w g 44 44 (pairA a b) (0, 0) _ hg Tryd.underlying44 rfl (pair_size a b)]

/-- Does a colon and a blank stand there? -/
def cb (s : ByteArray) (i : Nat) : Bool := by_ s i == 58 && by_ s (i + 1) == 32
def hdrAt (s : ByteArray) : Option Nat := (List.range (s.size - 1)).find? (cb s)
theorem hdrAt_some {s : ByteArray} {i : Nat} (h : i + 1 < s.size) (hb : cb s i = true) (hf : ∀ j, j < i → cb s j = false) : hdrAt s = some i := by
  rw [hdrAt, List.find?_range_eq_some]
  exact ⟨hb, List.mem_range.2 (by omega), fun j hj => by rw [hf j hj]; rfl⟩
theorem hdrAt_none {s : ByteArray} (hf : ∀ j, j + 1 < s.size → cb s j = false) : hdrAt s = none := by
  rw [hdrAt, List.find?_eq_none]
  intro j hj
  rw [hf j (by have := List.mem_range.1 hj; omega)]; simp
def hdrM (s : ByteArray) : ByteArray × ByteArray × Bool :=
  match hdrAt s with
  | some i => (s.extract 0 i, s.extract (i + 2) s.size, true)
  | none => (⟨#[]⟩, ⟨#[]⟩, false)
def hdrV (r : ByteArray × ByteArray × Bool) : Value := .tuple #[.agg (pairA r.1 r.2.1), .bool r.2.2]

set_option maxHeartbeats 4000000 in
theorem header_any (s : ByteArray) (n : Nat) (hn : s.size = n) (hs : n ≤ 1000000) (w : World) : Calls Tryd.prog 26 #[.string s] w (Gives w (hdrV (hdrM s))) := by
  obtain ⟨r, hr⟩ : ∃ r, hdrV (hdrM s) = r := ⟨_, rfl⟩
  rw [hr]
  have HR := Lib.hid hr
  clear hr
  have F0 := Lib.hid (Whole.new w 44 (pairA ⟨#[]⟩ ⟨#[]⟩))
  have B0 := Lib.hid ((Below.refl w.heap.size w).alloc (Nat.le_refl _) (.cells (pairA ⟨#[]⟩ ⟨#[]⟩) 44))
  go_enter Tryd.func26, Tryd.ntmps26
  go_wp2
  obtain ⟨w0, hw0⟩ : ∃ W, w.alloc (.cells (pairA ⟨#[]⟩ ⟨#[]⟩) 44) = W := ⟨_, rfl⟩
  rw [hw0] at F0 B0
  simp only [pairA] at hw0
  rw [hw0]
  clear hw0
  go_loopg [4] n (fun j v wr => ∃ k : Nat, k ≤ n ∧ j = n - k ∧ v = .int .i64 k ∧ wr = w0 ∧ ∀ j, j < k → cb s j = false)
  case atStart => exact ⟨0, by omega, rfl, rfl, rfl, fun j hj => by omega⟩
  case round =>
    obtain ⟨k, hk, rfl, rfl, rfl, hal⟩ := hrel
    by_cases hlt : k + 1 < n
    · have hks : k + 1 < s.size := by omega
      have hx := by_at s k (by omega)
      have hy := by_at s (k + 1) (by omega)
      by_cases hb : cb s k = true
      · have hv : hdrM s = (s.extract 0 k, s.extract (k + 2) n, true) := by rw [hdrM, hdrAt_some hks hb hal, hn]
        rw [hv] at HR
        have hb2 : by_ s k = 58 ∧ by_ s (k + 1) = 32 := by simpa [cb] using hb
        rw [hx, hy] at hb2
        obtain ⟨b1, b2⟩ := hb2
        clear hb hx hy hv
        have c1 : ((s[k].toNat : Int) == 58) = true := by rw [b1]; rfl
        have c2 : ((s[k + 1].toNat : Int) == 32) = true := by rw [b2]; rfl
        go_wp2
        have W1 : Hid (Whole wr.drew w.heap.size 44 (pairA ⟨#[]⟩ ⟨#[]⟩)) := Lib.hid F0.out.drew
        obtain ⟨M, hM⟩ : ∃ M, k + 2 = M := ⟨_, rfl⟩
        have q2 : IntKind.i64.wrap ((k : Int) + 2) = (M : Int) := by rw [← hM, IntWalk.i64_in _ (by omega)]; simp
        have q3 : (0 : Int) ≤ M := by omega
        have q4 : (M : Int) ≤ n := by omega
        have q5 : (0 : Int) ≤ k := by omega
        have q6 : (k : Int) ≤ n := by omega
        rw [hM] at HR
        refine wp_region_still_tail 8 (by kernel_rfl) (by kernel_rfl) ?_
        simp only [List.take_succ_cons, List.take_zero, List.drop_succ_cons, List.drop_zero]
        repeat still_step
        refine wpStill_nil ?_
        go_wp2_with (refine wpList_store_row rfl 44 (.tmp 2) (.tmp 30) rfl w.heap.size (pairA (s.extract 0 k) (s.extract M n)) rfl rfl 44 (pairA ⟨#[]⟩ ⟨#[]⟩) W1.out (pair_size _ _) rfl (pair_one _ _) ?_)
        have Z24 := Lib.hid (W1.out.setRow (pairA (s.extract 0 k) (s.extract M n)))
        have BD : Below w.heap.size w wr.drew := ⟨B0.out.os, B0.out.tape, B0.out.output, B0.out.size, B0.out.block⟩
        have Z : Hid (Below w.heap.size w (wr.drew.setRow w.heap.size (pairA (s.extract 0 k) (s.extract M n)))) := Lib.hid (below_setRow BD _ (Nat.le_refl _))
        refine bodyPost_ret (results_pair (p := 2) (u := 3) rfl _ _ w.heap.size _ _ rfl Z24.out) rfl ?_
        exact ⟨by rw [← HR.out]; rfl, Z.out⟩
      · have hb0 : cb s k = false := by simpa using hb
        have hst : ∀ j, j < k + 1 → cb s j = false := fun j hj => by
          by_cases hjk : j < k
          · exact hal j hjk
          · obtain rfl : j = k := by omega
            exact hb0
        have HS := Lib.hid hst
        have hb2 : by_ s k = 58 → ¬ by_ s (k + 1) = 32 := by simpa [cb] using hb0
        rw [hx, hy] at hb2
        clear hb hx hy hst hal
        by_cases b1 : s[k].toNat = 58
        · have b2 := hb2 b1
          have c1 : ((s[k].toNat : Int) == 58) = true := by rw [b1]; rfl
          have c2 : ((s[k + 1].toNat : Int) == 32) = false := by rw [beq_eq_false_iff_ne]; omega
          clear hb2
          go_wp2
          go_roundg (n - (k + 1))
          case measure => omega
          case rel => exact ⟨k + 1, by omega, rfl, by go_num, rfl, HS.out⟩
        · have c1 : ((s[k].toNat : Int) == 58) = false := by rw [beq_eq_false_iff_ne]; omega
          clear hb2
          go_wp2
          go_roundg (n - (k + 1))
          case measure => omega
          case rel => exact ⟨k + 1, by omega, rfl, by go_num, rfl, HS.out⟩
    · have hv : hdrM s = (⟨#[]⟩, ⟨#[]⟩, false) := by rw [hdrM, hdrAt_none (fun j hj => hal j (by omega))]
      rw [hv] at HR
      have zz : (Value.agg (pairA ⟨#[]⟩ ⟨#[]⟩)) = Value.agg #[.string ⟨#[]⟩, .string ⟨#[]⟩] := rfl
      go_wp2_with (refine wpList_store_row rfl 44 (.tmp 2) (.tmp 31) rfl w.heap.size (pairA ⟨#[]⟩ ⟨#[]⟩) rfl rfl 44 (pairA ⟨#[]⟩ ⟨#[]⟩) F0.out (pair_size _ _) rfl (pair_one _ _) ?_)
      have Z24 := Lib.hid (F0.out.setRow (pairA ⟨#[]⟩ ⟨#[]⟩))
      have Z := Lib.hid (below_setRow B0.out (pairA ⟨#[]⟩ ⟨#[]⟩) (Nat.le_refl _))
      refine bodyPost_ret (results_pair (p := 2) (u := 3) rfl _ _ w.heap.size ⟨#[]⟩ ⟨#[]⟩ rfl Z24.out) rfl ?_
      exact ⟨by rw [← HR.out]; rfl, Z.out⟩
end Go.Proofs.YteadhiehhpafjaaDoor
