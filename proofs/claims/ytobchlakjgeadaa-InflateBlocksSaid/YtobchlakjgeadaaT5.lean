/-
  Contracts of newCodes, fixedLengths and fixedBlock. Conditions: the state stands as told (StAt), its things are where they should be (Cx.Good).
-/
import Derived.Test.YtobchlakjgeadaaT4
namespace Go.Proofs.Ytobchlakjgeadaa
open Go.RowKit
set_option maxRecDepth 100000

theorem results_row_tmp {P : Program} {fn : Func} {p t : Tmp} {ty : TypeId} (h : fn.results = #[.cell p ty, .tmp t]) (tmps : Array Value) (w : World) (g : Nat) (t' : TypeId) (cs : Array Value) (fr : Nat × Nat) (d : TypeDesc)
    (hp : tmps.getD p undef = .pointer (some ⟨g, 0, none⟩)) (hg : w.heap[g]? = some (.cells cs t' fr))
    (hu : P.underlying ty = some d) (hd : (match d with | .struct _ | .array _ _ => true | _ => false) = true) (hi : (P.info? ty).map (·.size) = some cs.size) :
    (results fn tmps).run P w = .ok (.tuple #[.agg cs, tmps.getD t undef]) w := by
  have hp' : tmps[p]?.getD undef = .pointer (some ⟨g, 0, none⟩) := by simpa using hp
  simp [results, h, hp', asAddr, run_loadVar_row w g t' ty cs fr d hg hu hd hi]

theorem codes_info : (Try.prog.info? 49).map (·.size) = some 2 := by kernel_rfl

theorem newCodes_bad1 (A1 A2 : Option Addr) (n c1 m c2 B : Nat) (x : List Int) (hn : x.length = n) (hl : n ≤ 1000) (hr : kindOf x = 0) (w : World) (hs : Seen w B 1 A1 n c1 (iv x)) (hB : B ≤ w.heap.size) :
    Calls Try.prog 52 #[.slice A1 n c1, .slice A2 m c2] w fun e w' => e = .returned (.tuple #[.agg #[.pointer none, .pointer none], .int .i64 12]) ∧ Below w.heap.size w w' := by
  have HB := Lib.hid (fun W (h : Seen W B 1 A1 n c1 (iv x)) => new_bad A1 n c1 B x hn hl hr W h)
  have HS := Lib.hid hs; clear hs hr hn
  go_enter Try.func52, Try.ntmps52
  go_wp2_with fail
  refine (HB.out _ (HS.out.below ((Below.refl _ _).alloc hB _))).mono ?_
  rintro e w1 ⟨rfl, rfl⟩
  go_wp2_with fail
  exact bodyPost_ret (results_row_tmp (p := 4) (t := 5) (ty := 49) rfl _ _ w.heap.size 49 #[.pointer none, .pointer none] (0, 0) _ rfl (Whole.new _ _ _) Try.underlying49 rfl codes_info) rfl ⟨rfl, (Below.refl _ _).alloc (Nat.le_refl _) _⟩

theorem newCodes_bad2 (A1 A2 : Option Addr) (n c1 m c2 B : Nat) (x y : List Int) (hn : x.length = n) (hm : y.length = m) (hl : n ≤ 1000) (hl2 : m ≤ 1000) (hr : kindOf x ≠ 0) (hr2 : kindOf y = 0) (w : World) (hs : Seen w B 1 A1 n c1 (iv x)) (hs2 : Seen w B 1 A2 m c2 (iv y)) (hB : B ≤ w.heap.size) :
    Calls Try.prog 52 #[.slice A1 n c1, .slice A2 m c2] w fun e w' => e = .returned (.tuple #[.agg #[.pointer none, .pointer none], .int .i64 12]) ∧ Below w.heap.size w w' := by
  have HA := Lib.hid (fun W (h : Seen W B 1 A1 n c1 (iv x)) hB => new_any A1 n c1 B x hn hl hr W h hB)
  have HB := Lib.hid (fun W (h : Seen W B 1 A2 m c2 (iv y)) => new_bad A2 m c2 B y hm hl2 hr2 W h)
  have HS := Lib.hid hs; clear hs hr hn
  have HS2 := Lib.hid hs2; clear hs2 hr2 hm
  have B0 : Hid (Below w.heap.size w (w.alloc (.cells #[.pointer none, .pointer none] 49))) := Lib.hid ((Below.refl _ _).alloc (Nat.le_refl _) _)
  have W0 := Lib.hid (Whole.new w 49 #[.pointer none, .pointer none])
  go_enter Try.func52, Try.ntmps52
  go_wp2_with fail
  refine (HA.out _ (HS.out.below (B0.out.mono hB)) (Nat.le_trans hB B0.out.size)).mono ?_
  rintro e w1 ⟨g1, rfl, _, hb1⟩
  have B1 := Lib.hid (B0.out.trans (hb1.mono B0.out.size))
  have W1 := Lib.hid (W0.out.only (Only.of_below hb1 Nob) (fun h => h))
  clear hb1
  go_wp2_with fail
  refine (HB.out _ (HS2.out.below (B1.out.mono hB))).mono ?_
  rintro e w2 ⟨rfl, rfl⟩
  have d0 : w1.cell? ⟨w.heap.size, 0, none⟩ = some (.pointer none) := W1.out.cell 0
  have d1 : w1.cell? ⟨w.heap.size, 1, none⟩ = some (.pointer none) := W1.out.cell 1
  have z0 := W1.out.frozen 0
  have z1 := W1.out.frozen 1
  go_wp2_with fail
  have hP := (W1.out.put 0 (.pointer none)).put 1 (.pointer none)
  exact bodyPost_ret (results_row_tmp (p := 4) (t := 5) (ty := 49) rfl _ _ w.heap.size 49 #[.pointer none, .pointer none] (0, 0) _ rfl (by have h := hP; simp at h; exact h) Try.underlying49 rfl codes_info) rfl ⟨rfl, (B1.out.setCell (by exact Nat.le_refl _) _).setCell (by exact Nat.le_refl _) _⟩

def CodesRes (w : World) (x y : List Int) (n m : Nat) (e : Ending) (w' : World) : Prop :=
  ∃ g1 g2, e = .returned (.tuple #[.agg #[.pointer (some ⟨g1, 0, none⟩), .pointer (some ⟨g2, 0, none⟩)], .int .i64 0]) ∧ CodeOwn w' w.heap.size g1 x n ∧ CodeOwn w' w.heap.size g2 y m ∧ Below w.heap.size w w'

theorem CodeOwn.base {w : World} {lo lo' g : Nat} {l : List Int} {n : Nat} (h : CodeOwn w lo g l n) (hl : lo' ≤ lo) : CodeOwn w lo' g l n := by
  obtain ⟨A1, c1, A2, c2, A3, c3, h1, h2, h3, h4, h5⟩ := h
  exact ⟨A1, c1, A2, c2, A3, c3, h1, Nat.le_trans hl h2, own_base h3 hl, own_base h4 hl, own_base h5 hl⟩

theorem newCodes_any (A1 A2 : Option Addr) (n c1 m c2 B : Nat) (x y : List Int) (hn : x.length = n) (hm : y.length = m) (hl : n ≤ 1000) (hl2 : m ≤ 1000) (hr : kindOf x ≠ 0) (hr2 : kindOf y ≠ 0) (w : World) (hs : Seen w B 1 A1 n c1 (iv x)) (hs2 : Seen w B 1 A2 m c2 (iv y)) (hB : B ≤ w.heap.size) :
    Calls Try.prog 52 #[.slice A1 n c1, .slice A2 m c2] w (CodesRes w x y n m) := by
  have HA := Lib.hid (fun W (h : Seen W B 1 A1 n c1 (iv x)) hB => new_any A1 n c1 B x hn hl hr W h hB)
  have HB := Lib.hid (fun W (h : Seen W B 1 A2 m c2 (iv y)) hB => new_any A2 m c2 B y hm hl2 hr2 W h hB)
  have HS := Lib.hid hs; clear hs hr hn
  have HS2 := Lib.hid hs2; clear hs2 hr2 hm
  have B0 : Hid (Below w.heap.size w (w.alloc (.cells #[.pointer none, .pointer none] 49))) := Lib.hid ((Below.refl _ _).alloc (Nat.le_refl _) _)
  have W0 := Lib.hid (Whole.new w 49 #[.pointer none, .pointer none])
  go_enter Try.func52, Try.ntmps52
  go_wp2_with fail
  refine (HA.out _ (HS.out.below (B0.out.mono hB)) (Nat.le_trans hB B0.out.size)).mono ?_
  rintro e w1 ⟨g1, rfl, hc1, hb1⟩
  have B1 := Lib.hid (B0.out.trans (hb1.mono B0.out.size))
  have W1 := Lib.hid (W0.out.only (Only.of_below hb1 Nob) (fun h => h))
  have C1 := Lib.hid (hc1.base B0.out.size)
  clear hb1 hc1
  go_wp2_with fail
  refine (HB.out _ (HS2.out.below (B1.out.mono hB)) (Nat.le_trans hB B1.out.size)).mono ?_
  rintro e w2 ⟨g2, rfl, hc2, hb2⟩
  have B2 := Lib.hid (B1.out.trans (hb2.mono B1.out.size))
  have W2 := Lib.hid (W1.out.only (Only.of_below hb2 Nob) (fun h => h))
  have C12 := Lib.hid (C1.out.below hb2)
  have C2 := Lib.hid (hc2.base B1.out.size)
  clear hb2 hc2
  have d0 : w2.cell? ⟨w.heap.size, 0, none⟩ = some (.pointer none) := W2.out.cell 0
  have d1 : w2.cell? ⟨w.heap.size, 1, none⟩ = some (.pointer none) := W2.out.cell 1
  have z0 := W2.out.frozen 0
  have z1 := W2.out.frozen 1
  go_wp2_with fail
  have hP := (W2.out.put 0 (.pointer (some ⟨g1, 0, none⟩))).put 1 (.pointer (some ⟨g2, 0, none⟩))
  have hO : Only (fun k => k = w.heap.size) w2 ((w2.setCell ⟨w.heap.size, 0, none⟩ (.pointer (some ⟨g1, 0, none⟩))).setCell ⟨w.heap.size, 1, none⟩ (.pointer (some ⟨g2, 0, none⟩))) := ((Only.refl (fun k => k = w.heap.size) w2).setCell (p := ⟨w.heap.size, 0, none⟩) (.inl rfl) _).setCell (p := ⟨w.heap.size, 1, none⟩) (.inl rfl) _
  have hK : ∀ {lo g l n}, CodeOwn w2 lo g l n → CodeOwn ((w2.setCell ⟨w.heap.size, 0, none⟩ (.pointer (some ⟨g1, 0, none⟩))).setCell ⟨w.heap.size, 1, none⟩ (.pointer (some ⟨g2, 0, none⟩))) lo g l n := fun h => h.only hO (fun k hk _ => by
    subst hk
    exact ⟨49, _, W2.out, by decide, by decide, by decide⟩)
  exact bodyPost_ret (results_row_tmp (p := 4) (t := 5) (ty := 49) rfl _ _ w.heap.size 49 #[.pointer (some ⟨g1, 0, none⟩), .pointer (some ⟨g2, 0, none⟩)] (0, 0) _ rfl (by have h := hP; simp at h; exact h) Try.underlying49 rfl codes_info) rfl ⟨g1, g2, rfl, hK C12.out, hK C2.out, (B2.out.setCell (by exact Nat.le_refl _) _).setCell (by exact Nat.le_refl _) _⟩
end Go.Proofs.Ytobchlakjgeadaa
