/-
  Contracts of Cost and start; what stays while bits are written. Conditions: each theorem names its own.
  Contracts of blocks of no tokens: counted, write, bits, written, bitsOf; Fixed and FixedBits of none. Conditions: each theorem names its own.
  Contracts of write, of no tokens. Conditions: lengths are right, the end's sign has a word.
-/
import Derived.Test.YtkjhefjjacokjaaGreatG1
import Derived.Laws.ResultCell
namespace Go.Proofs.YtkjhefjjacokjaaGreat
open Go.RowKit
set_option maxRecDepth 100000
/-- What lengths cost: the first k places. -/
def costK (lo le : List Int) : Nat → Int
  | 0 => 0
  | k + 1 => costK lo le k + lo.getD k 0 * le.getD k 0
theorem costK_le (lo le : List Int) (h1 : ∀ x ∈ lo, 0 ≤ x ∧ x ≤ 65536) (h2 : ∀ x ∈ le, 0 ≤ x ∧ x ≤ 16) : ∀ k, 0 ≤ costK lo le k ∧ costK lo le k ≤ 1048576 * k
  | 0 => by simp [costK]
  | k + 1 => by
    have ih := costK_le lo le h1 h2 k
    have a1 : 0 ≤ lo.getD k 0 ∧ lo.getD k 0 ≤ 65536 := by
      by_cases h : k < lo.length
      · have := h1 _ (List.getElem_mem h)
        simpa [List.getD, h] using this
      · simp [List.getD, List.getElem?_eq_none (Nat.le_of_not_lt h)]
    have a2 : 0 ≤ le.getD k 0 ∧ le.getD k 0 ≤ 16 := by
      by_cases h : k < le.length
      · have := h2 _ (List.getElem_mem h)
        simpa [List.getD, h] using this
      · simp [List.getD, List.getElem?_eq_none (Nat.le_of_not_lt h)]
    simp only [costK]
    have b1 : 0 ≤ lo.getD k 0 * le.getD k 0 := Int.mul_nonneg a1.1 a2.1
    have b2 : lo.getD k 0 * le.getD k 0 ≤ 65536 * 16 := Int.mul_le_mul a1.2 a2.2 a2.1 (by omega)
    omega
set_option maxHeartbeats 1000000 in
theorem cost_any (A A1 : Option Addr) (n c n1 c1 B : Nat) (lo le : List Int) (hn : lo.length = n) (hn1 : le.length = n1) (hl : n ≤ 1000) (hl1 : n1 ≤ 1000) (h1 : ∀ x ∈ lo, 0 ≤ x ∧ x ≤ 65536) (h2 : ∀ x ∈ le, 0 ≤ x ∧ x ≤ 16) (w : World) (hs : Seen w B 1 A n c (iv lo)) (hs1 : Seen w B 1 A1 n1 c1 (iv le)) :
    Calls Tryz.prog 60 #[.slice A n c, .slice A1 n1 c1] w fun e w' => e = .returned (.int .i64 (costK lo le (min n n1))) ∧ ∃ m, w' = w.drewN m := by
  have HS := Lib.hid hs; clear hs
  have HS1 := Lib.hid hs1; clear hs1
  have HN := Lib.hid hn; clear hn
  have HN1 := Lib.hid hn1; clear hn1
  have H1 := Lib.hid h1; have H2 := Lib.hid h2
  have HCl := Lib.hid (costK_le lo le h1 h2)
  clear h1 h2
  obtain ⟨N, hN⟩ : ∃ N, min n n1 = N := ⟨_, rfl⟩
  have em : (if (n1 : Int) < n then (n1 : Int) else (n : Int)) = N := by split <;> omega
  have em2 : (if n1 < n then n1 else n) = N := by split <;> omega
  have em3 : (if n1 < n then (n1 : Int) else (n : Int)) = N := by split <;> omega
  rw [hN]
  go_enter Tryz.func60, Tryz.ntmps60
  go_wp2_with fail
  go_loopw [5, 6, 12] (fun sm _ i wr => ∃ k m : Nat, k ≤ N ∧ i = .int .i64 k ∧ sm = .int .i64 (costK lo le k) ∧ wr = w.drewN m) (fun _ _ i _ => N - (intOf i).toNat)
  case atStart => exact ⟨0, 0, by omega, rfl, rfl, rfl⟩
  case round =>
    obtain ⟨k, m, hk, rfl, rfl, rfl⟩ := hrel
    have hcl := HCl.out k
    by_cases hlt : k < N
    · have hkl : k < lo.length := by rw [HN.out]; omega
      have hkl1 : k < le.length := by rw [HN1.out]; omega
      obtain ⟨b, o, rfl, _, x1⟩ := HS.out.int HN.out (show k < n by omega)
      obtain ⟨b1, o1, rfl, _, x2⟩ := HS1.out.int HN1.out (show k < n1 by omega)
      have hx := H1.out _ (List.getElem_mem hkl)
      have hy := H2.out _ (List.getElem_mem hkl1)
      have ES : Hid (costK lo le (k + 1) = costK lo le k + lo[k] * le[k]) := Lib.hid (by simp [costK, List.getD, hkl, hkl1])
      obtain ⟨x, hxe⟩ : ∃ x, lo[k] = x := ⟨_, rfl⟩
      obtain ⟨y, hye⟩ : ∃ y, le[k] = y := ⟨_, rfl⟩
      rw [hxe] at x1 hx ES
      rw [hye] at x2 hy ES
      have p1 : 0 ≤ x * y := Int.mul_nonneg hx.1 hy.1
      have p2 : x * y ≤ 65536 * 16 := Int.mul_le_mul hx.2 hy.2 hy.1 (by omega)
      obtain ⟨xy, hxy⟩ : ∃ xy, x * y = xy := ⟨_, rfl⟩
      rw [hxy] at ES p1 p2
      obtain ⟨C, hC⟩ : ∃ C, costK lo le k = C := ⟨_, rfl⟩
      rw [hC] at ES hcl ⊢
      have w1 : IntKind.i64.wrap xy = xy := IntWalk.i64_in _ (by omega)
      have w2 : IntKind.i64.wrap (C + xy) = C + xy := IntWalk.i64_in _ (by omega)
      have k0 : (0 : Int) ≤ k := by omega
      have kn : (k : Int) < n := by omega
      have kn1 : (k : Int) < n1 := by omega
      clear hC hxe hye hkl hkl1 hx hy hN em em2 em3
      go_wp2_with fail
      go_quiet (fail)
      go_wp2_with fail
      go_roundw
      case rel => exact ⟨k + 1, _, by omega, by go_num, by rw [ES.out], rfl⟩
      case measure => simp [intOf]; omega
    · obtain rfl : k = N := by omega
      obtain ⟨C, hC⟩ : ∃ C, costK lo le k = C := ⟨_, rfl⟩
      have HCC := Lib.hid hC
      rw [hC] at hcl ⊢
      clear hC
      go_wp2_with fail
      go_ret
      exact ⟨by rw [HCC.out]; rfl, _, rfl⟩
/-- Only blocks of writers, and rows of bytes, may have changed. -/
def Tw (w w' : World) : Prop := Only (fun k => ∃ t cs, Whole w k t cs ∧ (t = 47 ∨ t = 5)) w w'
theorem Tw.refl (w : World) : Tw w w := Only.refl _ _
theorem Tw.of_below {w w' : World} (h : Below w.heap.size w w') : Tw w w' := Only.of_below h _
theorem Tw.trans {a b c : World} (h : Tw a b) (k : Tw b c) : Tw a c := by
  refine ⟨k.os.trans h.os, k.tape.trans h.tape, k.output.trans h.output, Nat.le_trans h.size k.size, fun i hi hn => ?_⟩
  have e := h.block i hi hn
  refine (k.block i (Nat.lt_of_lt_of_le hi h.size) ?_).trans e
  rintro ⟨t, cs, hw, ht⟩
  exact hn ⟨t, cs, e.symm.trans hw, ht⟩
theorem Tw.drew {a b : World} (h : Tw a b) : Tw a b.drew := Only.drew h
theorem Tw.drewN {a b : World} (h : Tw a b) (n : Nat) : Tw a (b.drewN n) := Only.drewN h n
theorem Whole.tw {w w' : World} {g : Nat} {t : TypeId} {cs : Array Value} (h : Whole w g t cs) (ho : Tw w w') (h1 : t ≠ 47) (h2 : t ≠ 5) : Whole w' g t cs :=
  h.only ho (by
    rintro ⟨t', cs', hw, ht⟩
    rcases ht with rfl | rfl
    · exact h.ne hw h1 rfl
    · exact h.ne hw h2 rfl)
theorem Tw.of_put {w w' : World} {B g : Nat} {sv : Value} {l l' : List Bool} (hw : WriterAt w B g sv l) (h : PutPost w B g sv l' w') : Tw w w' := by
  obtain ⟨sv', h1, h2, h3⟩ := h
  refine h2.mono (fun k _ hk => ?_)
  rcases hk with rfl | hk
  · exact ⟨47, _, hw.2.1, .inl rfl⟩
  · obtain ⟨_, cs, hc⟩ := own_whole hw.2.2 hk
    exact ⟨5, cs, hc, .inr rfl⟩
theorem PutPost.then {w w1 w2 : World} {B g : Nat} {sv sv1 : Value} {l2 : List Bool} (h1 : Only (Foot g sv) w w1) (ha : ∀ k, sv1.ownBlock = some k → sv.ownBlock = some k ∨ w.heap.size ≤ k) (h2 : PutPost w1 B g sv1 l2 w2) : PutPost w B g sv l2 w2 := by
  obtain ⟨sv2, q1, q2, q3⟩ := h2
  refine ⟨sv2, q1, h1.then q2 (fun i hi hf => ?_), fun k hk => ?_⟩
  · rcases hf with rfl | hf
    · exact .inl rfl
    · rcases ha i hf with h | h
      · exact .inr h
      · omega
  · rcases q3 k hk with h | h
    · exact ha k h
    · exact .inr (Nat.le_trans h1.size h)
theorem start_any (B g : Nat) (sv : Value) (l : List Bool) (kind : Nat) (hk : kind < 4) (last : Bool) (w : World) (hw : WriterAt w B g sv l) (hl : l.length ≤ 900000) :
    Calls Tryz.prog 21 #[.pointer (some ⟨g, 0, none⟩), .int .u32 kind, .bool last] w fun e w' => e = .returned (.tuple #[]) ∧ PutPost w B g sv (l ++ headB kind last) w' := by
  have HW := Lib.hid hw; clear hw
  obtain ⟨x, hx⟩ : ∃ x : Nat, (if last then 1 else 0) = x := ⟨_, rfl⟩
  have hx1 : x ≤ 1 := by rw [← hx]; split <;> omega
  have hh : headB kind last = bitsOf x 1 ++ bitsOf kind 2 := by unfold headB; rw [hx]
  rw [hh]
  clear hh
  cases last with
  | true =>
    obtain rfl : x = 1 := by simpa using hx.symm
    clear hx
    go_enter Tryz.func21, Tryz.ntmps21
    go_wp2_with fail
    refine (put_yes 1 1 B g sv l (by omega) (by omega) w HW.out (by omega)).mono ?_
    rintro e w1 ⟨rfl, sv1, p1, p2, p3⟩
    have P1 := Lib.hid p1; have P2 := Lib.hid p2; have P3 := Lib.hid p3; clear p1 p2 p3
    go_wp2_with fail
    refine (put_yes kind 2 B g sv1 _ (by omega) (by omega) w1 P1.out (by simp; omega)).mono ?_
    rintro e w2 ⟨rfl, p⟩
    have PP := Lib.hid (PutPost.then P2.out P3.out p); clear p
    go_wp2_with fail
    go_end0
    refine ⟨rfl, ?_⟩
    rw [← List.append_assoc]
    exact PP.out
  | false =>
    obtain rfl : x = 0 := by simpa using hx.symm
    clear hx
    go_enter Tryz.func21, Tryz.ntmps21
    go_wp2_with fail
    refine (put_yes 0 1 B g sv l (by omega) (by omega) w HW.out (by omega)).mono ?_
    rintro e w1 ⟨rfl, sv1, p1, p2, p3⟩
    have P1 := Lib.hid p1; have P2 := Lib.hid p2; have P3 := Lib.hid p3; clear p1 p2 p3
    go_wp2_with fail
    refine (put_yes kind 2 B g sv1 _ (by omega) (by omega) w1 P1.out (by simp; omega)).mono ?_
    rintro e w2 ⟨rfl, p⟩
    have PP := Lib.hid (PutPost.then P2.out P3.out p); clear p
    go_wp2_with fail
    go_end0
    refine ⟨rfl, ?_⟩
    rw [← List.append_assoc]
    exact PP.out
theorem head47_any (B g : Nat) (sv : Value) (l : List Bool) (last : Bool) (w : World) (hw : WriterAt w B g sv l) (hl : l.length ≤ 900000) :
    Calls Tryz.prog 50 #[.pointer (some ⟨g, 0, none⟩), .bool last] w fun e w' => e = .returned (.tuple #[]) ∧ PutPost w B g sv (l ++ headB 1 last) w' := by
  have CS := Lib.hid (start_any B g sv l 1 (by omega) last w hw hl)
  clear hw
  go_enter Tryz.func50, Tryz.ntmps50
  go_wp2_with fail
  refine CS.out.mono ?_
  rintro e w1 ⟨rfl, p⟩
  have PP := Lib.hid p; clear p
  go_wp2_with fail
  go_end0
  exact ⟨rfl, PP.out⟩
end Go.Proofs.YtkjhefjjacokjaaGreat

namespace Go.Proofs.YtkjhefjjacokjaaGreat
open Go.RowKit
set_option maxRecDepth 100000
theorem results_row_tmp {P : Program} {fn : Func} {p u : Tmp} {ty : TypeId} (h : fn.results = #[.cell p ty, .tmp u]) (tmps : Array Value) (w : World) (g : Nat) (t : TypeId) (cs : Array Value) (fr : Nat × Nat) (d : TypeDesc)
    (hp : tmps.getD p undef = .pointer (some ⟨g, 0, none⟩)) (hg : w.heap[g]? = some (.cells cs t fr))
    (hu : P.underlying ty = some d) (hd : (match d with | .struct _ | .array _ _ => true | _ => false) = true) (hi : (P.info? ty).map (·.size) = some cs.size) :
    (results fn tmps).run P w = .ok (.tuple #[.agg cs, tmps.getD u undef]) w := by
  rw [results_cell_tmp h, hp]
  simp [asAddr, run_loadVar_row w g t ty cs fr d hg hu hd hi, Result.andThen]
/-- How often signs come if there is no token. -/
def cnt0 : Nat → Int := fun i => if i = 256 then 1 else 0
set_option maxHeartbeats 1000000 in
theorem counted_nil (w : World) : Calls Tryz.prog 33 #[.slice none 0 0] w (Gives w (.tuple #[.agg (rz 317 cnt0), .bool true])) := by
  have hzz : Hid (Tryz.zeroCells60 = rz 317 (fun _ => 0)) := Lib.hid (by rw [← rz_const]; kernel_rfl)
  have HI59 := Lib.hid (show (Tryz.prog.info? 60).map (·.size) = some Tryz.zeroCells60.size by rw [hzz.out, rz_size]; exact (zero_of_info row59).2)
  have HI59' := Lib.hid (show (Tryz.prog.info? 60).map (·.size) = some (rz 317 cnt0).size by rw [rz_size]; exact (zero_of_info row59).2)
  have HN := heap_alloc_new (w.alloc (.cells Tryz.zeroCells60 60)) (.cells Tryz.zeroCells60 60)
  simp only [World.size_alloc] at HN
  have W1 : Whole (((w.alloc (.cells Tryz.zeroCells60 60)).alloc (.cells Tryz.zeroCells60 60)).setRow (w.heap.size + 1) Tryz.zeroCells60) (w.heap.size + 1) 60 Tryz.zeroCells60 := Whole.setRow (cs := Tryz.zeroCells60) (by simpa [Whole] using HN) _
  have W0 : Hid (Whole (((w.alloc (.cells Tryz.zeroCells60 60)).alloc (.cells Tryz.zeroCells60 60)).setRow (w.heap.size + 1) Tryz.zeroCells60) w.heap.size 60 Tryz.zeroCells60) := Lib.hid (((Whole.new w 60 _).alloc _).setRow_far _ (by omega))
  have hold : (((w.alloc (.cells Tryz.zeroCells60 60)).alloc (.cells Tryz.zeroCells60 60)).setRow (w.heap.size + 1) Tryz.zeroCells60).cell? ⟨w.heap.size + 1, 256, none⟩ = some (.int .i64 0) := (W1.cell 256).trans (by rw [hzz.out, rz_get _ _ _ (by omega)])
  have hfz := W1.frozen 256
  have W1h := Lib.hid W1; clear W1
  have H1 := Lib.hid HN; clear HN
  have B1 : Hid (Below w.heap.size w (((w.alloc (.cells Tryz.zeroCells60 60)).alloc (.cells Tryz.zeroCells60 60)).setRow (w.heap.size + 1) Tryz.zeroCells60)) := Lib.hid (below_setRow (((Below.refl _ _).alloc (Nat.le_refl _) _).alloc (by simp) _) _ (by omega))
  have hone : Hid (Tryz.zeroCells60.all (·.oneCell') = true) := Lib.hid (by rw [hzz.out]; exact rz_one _ _)
  go_enter Tryz.func33, Tryz.ntmps33
  go_wp2_with (refine wpList_store_row rfl 60 (.tmp 4) (.tmp 8) rfl (w.heap.size + 1) Tryz.zeroCells60 rfl rfl 60 Tryz.zeroCells60 H1.out HI59.out rfl hone.out ?_)
  clear hold hfz H1 HI59
  generalize ((w.alloc (.cells Tryz.zeroCells60 60)).alloc (.cells Tryz.zeroCells60 60)).setRow (w.heap.size + 1) Tryz.zeroCells60 = X at *
  have W2 : Hid (Whole (X.setCell ⟨w.heap.size + 1, 256, none⟩ (.int .i64 1)) (w.heap.size + 1) 60 (rz 317 cnt0)) := Lib.hid (by
    have h := W1h.out.put 256 (.int .i64 1)
    rw [hzz.out, rz_set] at h
    exact h)
  have W3 : Hid (Whole (X.setCell ⟨w.heap.size + 1, 256, none⟩ (.int .i64 1)) w.heap.size 60 Tryz.zeroCells60) := Lib.hid (W0.out.far (by simp) _)
  have B2 : Hid (Below w.heap.size w (X.setCell ⟨w.heap.size + 1, 256, none⟩ (.int .i64 1))) := Lib.hid (B1.out.setCell (by simp) _)
  clear W1h W0 B1
  generalize X.setCell ⟨w.heap.size + 1, 256, none⟩ (.int .i64 1) = Y at *
  obtain ⟨C, hC⟩ : ∃ C, rz 317 cnt0 = C := ⟨_, rfl⟩
  have hcs : Hid (Tryz.zeroCells60.size = C.size) := Lib.hid (by rw [hzz.out, ← hC, rz_size, rz_size])
  have hc1 : Hid (C.all (·.oneCell') = true) := Lib.hid (by rw [← hC]; exact rz_one _ _)
  have HCC := Lib.hid hC
  rw [hC] at HI59' W2
  clear hzz hC
  go_loopw [13] (fun i wr => i = .int .i64 0 ∧ wr = Y) (fun _ _ => 0)
  case atStart => exact ⟨rfl, rfl⟩
  case round =>
    obtain ⟨rfl, rfl⟩ := hrel
    go_wp2_with (first
      | (refine wpList_load_row rfl 60 (.tmp 4) rfl (w.heap.size + 1) rfl 60 C (0, 0) _ W2.out Tryz.underlying60 rfl HI59'.out ?_)
      | (refine wpList_store_row rfl 60 (.tmp 2) (.tmp 58) rfl w.heap.size C rfl rfl 60 Tryz.zeroCells60 W3.out HI59'.out hcs.out hc1.out ?_))
    refine bodyPost_ret (v := .tuple #[.agg C, .bool true]) (results_row_tmp (p := 2) (u := 3) (ty := 60) rfl _ _ w.heap.size 60 C (0, 0) _ rfl (W3.out.setRow _) Tryz.underlying60 rfl HI59'.out) rfl ⟨by rw [HCC.out], below_setRow B2.out _ (Nat.le_refl _)⟩
end Go.Proofs.YtkjhefjjacokjaaGreat

namespace Go.Proofs.YtkjhefjjacokjaaGreat
open Go.RowKit
set_option maxRecDepth 100000
theorem WriterAt.below {w w' : World} {B g : Nat} {sv : Value} {l : List Bool} (h : WriterAt w B g sv l) (hb : Below w.heap.size w w') : WriterAt w' B g sv l :=
  ⟨h.1, h.2.1.only (Only.of_below hb Nob) (fun h => h), own_only h.2.2 (Only.of_below hb Nob) (fun _ _ h => h)⟩
/-- Lengths that stay readable while bits are written. -/
def Lens (w : World) (A : Option Addr) (n c : Nat) (l : List Int) : Prop := ∀ W, Tw w W → ∃ B, B ≤ W.heap.size ∧ Seen W B 1 A n c (iv l)
theorem Lens.tw {w w' : World} {A : Option Addr} {n c : Nat} {l : List Int} (h : Lens w A n c l) (ht : Tw w w') : Lens w' A n c l := fun W hW => h W (ht.trans hW)
set_option maxHeartbeats 2000000 in
theorem write_nil (F : Nat → Int) (A1 : Option Addr) (n1 c1 : Nat) (A2 : Option Addr) (n2 c2 : Nat) (l1 l2 : List Int) (hl1 : l1.length = n1) (hl2 : l2.length = n2) (hn1 : n1 ≤ 1000) (hn2 : n2 ≤ 1000) (hk1 : kindOf l1 ≠ 0) (hk2 : kindOf l2 ≠ 0) (h256 : 256 < n1) (h0 : len l1 256 ≠ 0) (B g : Nat) (sv : Value) (bits : List Bool) (hb : bits.length ≤ 800000) (last : Bool) (w : World) (hw : WriterAt w B g sv bits) (hL1 : Lens w A1 n1 c1 l1) (hL2 : Lens w A2 n2 c2 l2) :
    Calls Tryz.prog 36 #[.agg (blkC F A1 n1 c1 A2 n2 c2 (.func (.func 50) #[] #[])), .pointer (some ⟨g, 0, none⟩), .slice none 0 0, .bool last] w fun e w' => e = .returned (.tuple #[]) ∧ PutPost w B g sv (bits ++ headB 1 last ++ wb l1 256) w' := by
  obtain ⟨G0, G1, G2, G3⟩ := blkC_get F A1 n1 c1 A2 n2 c2 (.func (.func 50) #[] #[])
  obtain ⟨C, hC⟩ : ∃ C, blkC F A1 n1 c1 A2 n2 c2 (.func (.func 50) #[] #[]) = C := ⟨_, rfl⟩
  rw [hC] at G1 G2 G3 ⊢
  have HG1 := Lib.hid G1; have HG2 := Lib.hid G2
  have HN1 := Lib.hid hl1; have HN2 := Lib.hid hl2; have HK1 := Lib.hid hk1; have HK2 := Lib.hid hk2
  have hB0 : Below w.heap.size w (w.alloc (.cells C 65)) := (Below.refl _ _).alloc (Nat.le_refl _) _
  have WB := Whole.new w 65 C
  have cf : (w.alloc (.cells C 65)).cell? ⟨w.heap.size, 319, none⟩ = some (.func (.func 50) #[] #[]) := (WB.cell 319).trans G3
  have L1 := Lib.hid (hL1.tw (Tw.of_below hB0))
  have L2 := Lib.hid (hL2.tw (Tw.of_below hB0))
  have HW0 := Lib.hid (hw.below hB0)
  have TW0 := Lib.hid (Tw.of_below hB0)
  have WB0 := Lib.hid WB
  have BB0 := Lib.hid hB0
  obtain ⟨gb, hgb⟩ : ∃ gb, w.heap.size = gb := ⟨_, rfl⟩
  rw [hgb] at WB0 cf
  clear G0 G1 G2 G3 hC hl1 hl2 hk1 hk2 hL1 hL2 hw hB0 WB
  go_enter Tryz.func36, Tryz.ntmps36
  go_wp2_with fail
  clear cf
  generalize w.alloc (.cells C 65) = W0 at *
  refine (head47_any B g sv bits last W0 HW0.out (by omega)).mono ?_
  rintro e w1 ⟨rfl, hp⟩
  have TW1 := Lib.hid (Tw.of_put HW0.out hp)
  obtain ⟨sv1, p1, p2, p3⟩ := hp
  have P1 := Lib.hid p1; have P2 := Lib.hid p2; have P3 := Lib.hid p3
  have HBX := Lib.hid (WB0.out.tw TW1.out (by decide) (by decide))
  clear p1 p2 p3
  go_wp2_with fail
  refine wp_region_held_drew (S := (fun W => Whole W gb 65 C ∧ Below w1.heap.size w1 W)) (by kernel_rfl) ⟨HBX.out.drew, below_drew (Below.refl _ _)⟩ (fun hHeld => ?_)
  refine wpAnyH_take (i := 0) (oi := ⟨some 17, _, _, _, _, _⟩) (v := ?v0) rfl (by kernel_rfl) (by kernel_rfl) (by kernel_rfl) (fun _ _ _ h => h) (Or.inl ⟨by rfl, ?hy0⟩) (by assumption) ?rest0
  case hy0 => intro W hSW; go_simp; try rfl
  try simp only [Act.put, List.setIfInBounds_toArray, List.set_cons_zero, List.set_cons_succ]
  refine wpAnyH_take (i := 1) (oi := ⟨some 18, _, _, _, _, _⟩) (v := ?v1) rfl (by kernel_rfl) (by kernel_rfl) (by kernel_rfl) (fun _ _ _ h => h) (Or.inl ⟨by rfl, ?hy1⟩) (by assumption) ?rest1
  case hy1 => intro W hSW; have q1 : W.cell? ⟨gb, 317, none⟩ = some (.slice A1 n1 c1) := (hSW.1.cell 317).trans HG1.out; have q2 : W.cell? ⟨gb, 318, none⟩ = some (.slice A2 n2 c2) := (hSW.1.cell 318).trans HG2.out; go_simp; try rfl
  try simp only [Act.put, List.setIfInBounds_toArray, List.set_cons_zero, List.set_cons_succ]
  refine wpAnyH_take (i := 3) (oi := ⟨some 20, _, _, _, _, _⟩) (v := ?v3) rfl (by kernel_rfl) (by kernel_rfl) (by kernel_rfl) (fun _ _ _ h => h) (Or.inl ⟨by rfl, ?hy3⟩) (by assumption) ?rest3
  case hy3 => intro W hSW; go_simp; try rfl
  try simp only [Act.put, List.setIfInBounds_toArray, List.set_cons_zero, List.set_cons_succ]
  refine wpAnyH_take (i := 4) (oi := ⟨some 21, _, _, _, _, _⟩) (v := ?v4) rfl (by kernel_rfl) (by kernel_rfl) (by kernel_rfl) (fun _ _ _ h => h) (Or.inl ⟨by rfl, ?hy4⟩) (by assumption) ?rest4
  case hy4 => intro W hSW; have q1 : W.cell? ⟨gb, 317, none⟩ = some (.slice A1 n1 c1) := (hSW.1.cell 317).trans HG1.out; have q2 : W.cell? ⟨gb, 318, none⟩ = some (.slice A2 n2 c2) := (hSW.1.cell 318).trans HG2.out; go_simp; try rfl
  try simp only [Act.put, List.setIfInBounds_toArray, List.set_cons_zero, List.set_cons_succ]
  refine wpAnyH_ready (rs := [2]) (by kernel_rfl) (by simp) ?_
  refine AllReadyH.cons (o := ⟨some 19, _, _, _, _, _⟩) rfl (fun K hK => ?_) AllReadyH.nil
  go_simp
  obtain ⟨Bx, hBx, hsx⟩ := L1.out _ ((TW1.out.trans (Tw.of_below (hHeld.2)))) 
  refine (codeOf_any A1 n1 c1 Bx l1 HN1.out hn1 HK1.out _ hsx hBx).mono ?_
  rintro e w2 ⟨gc, rfl, hc2, hb2⟩
  have HC2 := Lib.hid hc2; have HB2 := Lib.hid hb2; clear hc2 hb2 hsx hBx
  refine hK.out _ _ ?_ (fun hHeld2 => ?_)
  · exact ⟨hHeld.1.only (Only.of_below HB2.out Nob) (fun h => h), hHeld.2.trans (HB2.out.mono hHeld.2.size)⟩
  clear hK K hHeld
  have hHeld := hHeld2; clear hHeld2
  try simp only [Act.put, List.setIfInBounds_toArray, List.set_cons_zero, List.set_cons_succ]
  have BB2 := Lib.hid hHeld.2
  refine wpAnyH_ready (rs := [5]) (by kernel_rfl) (by simp) ?_
  refine AllReadyH.cons (o := ⟨some 22, _, _, _, _, _⟩) rfl (fun K hK => ?_) AllReadyH.nil
  go_simp
  obtain ⟨By, hBy, hsy⟩ := L2.out _ ((TW1.out.trans (Tw.of_below (hHeld.2)))) 
  refine (codeOf_any A2 n2 c2 By l2 HN2.out hn2 HK2.out _ hsy hBy).mono ?_
  rintro e w3 ⟨gd, rfl, hc3, hb3⟩
  have HC3 := Lib.hid (HC2.out.below hb3); have HD3 := Lib.hid hc3; have HB3 := Lib.hid hb3; clear hc3 hb3 hsy hBy
  refine hK.out _ _ ?_ (fun hHeld2 => ?_)
  · exact ⟨hHeld.1.only (Only.of_below HB3.out Nob) (fun h => h), hHeld.2.trans (HB3.out.mono hHeld.2.size)⟩
  clear hK K hHeld
  have hHeld := hHeld2; clear hHeld2
  try simp only [Act.put, List.setIfInBounds_toArray, List.set_cons_zero, List.set_cons_succ]
  refine wpAnyH_take (i := 6) (oi := ⟨some 8, _, _, _, _, _⟩) (v := ?v6) rfl (by kernel_rfl) (by kernel_rfl) (by kernel_rfl) (fun _ _ _ h => h) (Or.inl ⟨by rfl, ?hy6⟩) (by assumption) ?rest6
  case hy6 => intro W hSW; go_simp; try rfl
  try simp only [Act.put, List.setIfInBounds_toArray, List.set_cons_zero, List.set_cons_succ]
  refine wpAnyH_take (i := 7) (oi := ⟨some 9, _, _, _, _, _⟩) (v := ?v7) rfl (by kernel_rfl) (by kernel_rfl) (by kernel_rfl) (fun _ _ _ h => h) (Or.inl ⟨by rfl, ?hy7⟩) (by assumption) ?rest7
  case hy7 => intro W hSW; go_simp; try rfl
  try simp only [Act.put, List.setIfInBounds_toArray, List.set_cons_zero, List.set_cons_succ]
  refine wpAnyH_done (by kernel_rfl) ?_ _
  have HW3 := Lib.hid (P1.out.below hHeld.2)
  have ON3 : Hid (Only (Foot g sv) w w3) := Lib.hid (((Only.of_below BB0.out (Foot g sv)).trans P2.out).trans (Only.of_below hHeld.2 (Foot g sv)))
  have AT3 : Hid (∀ k, sv1.ownBlock = some k → sv.ownBlock = some k ∨ w.heap.size ≤ k) := Lib.hid (fun k hk => (P3.out k hk).imp id (fun h => Nat.le_trans BB0.out.size h))
  clear hHeld
  go_wp2_with fail
  go_loopw [25] (fun i wr => i = .int .i64 0 ∧ wr = w3) (fun _ _ => 0)
  case atStart => exact ⟨rfl, rfl⟩
  case round =>
    obtain ⟨rfl, rfl⟩ := hrel
    go_wp2_with fail
    refine (codePut_yes wr.heap.size gc l1 n1 HN1.out HK1.out B g sv1 _ 256 wr HC3.out.seen HW3.out (by rw [List.length_append]; have := hb; simp [headB]; omega) h256 h0).mono ?_
    rintro e w4 ⟨rfl, hp⟩
    have PP := Lib.hid (PutPost.then ON3.out AT3.out hp); clear hp
    go_wp2_with fail
    go_end0
    exact ⟨rfl, PP.out⟩
end Go.Proofs.YtkjhefjjacokjaaGreat
