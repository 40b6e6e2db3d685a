/-
  What a record's readers ask: are, passes, readShared, right, saysNothing. Conditions: as number's.
-/
import Derived.Test.YtplilajgncfieaaRH
namespace Go.Proofs.Ytplilajgncfieaa
open Go.RowKit
set_option maxRecDepth 100000

set_option maxHeartbeats 1000000 in
theorem are_any (t : Int) (An : Option Addr) (cN Bn m : Nat) (ns : List Int) (hm : ns.length = m) (hm9 : m ≤ 100) (w : World) (hN : Seen w Bn 1 An m cN (iv ns)) :
    Calls Try.prog 42 #[.int .i64 t, .slice An m cN] w fun e w' => e = .returned (.bool (ns.all (fun x => x == t))) ∧ w = w' := by
  have HN := Lib.hid hN; have HM := Lib.hid hm; clear hN hm
  obtain ⟨r, hr⟩ : ∃ r, ns.all (fun x => x == t) = r := ⟨_, rfl⟩
  rw [hr]
  have HRR := Lib.hid hr; clear hr
  go_enter Try.func42, Try.ntmps42
  go_wp2_with fail
  go_loopw [9] (fun i wr => ∃ j : Nat, j ≤ m ∧ i = .int .i64 j ∧ wr = w ∧ (ns.take j).all (fun x => x == t) = true) (fun i _ => m - (intOf i).toNat)
  case atStart => exact ⟨0, by simp⟩
  case round =>
    obtain ⟨j, hj, rfl, rfl, hall⟩ := hrel
    by_cases hlt : j < m
    · have hjl : j < ns.length := by rw [HM.out]; exact hlt
      obtain ⟨b, o, u, rfl, hbk, hu, hcell⟩ := HN.out.at (k := j) hlt
      have hu' : u = .int .i64 ns[j] := by rw [iv_get _ _ hjl] at hu; exact (Option.some.inj hu).symm
      subst hu'
      clear hu
      have hj0 : (0 : Int) ≤ j := by omega
      have hx := Lib.hid (List.take_succ_eq_append_getElem hjl)
      have hmem := Lib.hid (List.getElem_mem hjl)
      generalize ns[j] = y at *
      by_cases hy : y = t
      · subst hy
        have hne : (y != y) = false := by simp
        have HA := Lib.hid hall; clear hall
        go_wp2_with fail
        go_roundw
        case rel => exact ⟨j + 1, by omega, by go_num, by simp, by rw [hx.out]; simpa using HA.out⟩
        case measure => simp [intOf]; omega
      · have hne : (y != t) = true := by simpa using hy
        have hf : ns.all (fun x => x == t) = false := by
          rw [List.all_eq_false]
          exact ⟨y, hmem.out, by simpa using hy⟩
        have hr := HRR.out
        rw [hf] at hr
        subst hr
        clear hall hy hf
        go_wp2_with fail
        go_ret
        exact ⟨rfl, rfl⟩
    · obtain rfl : m = j := by omega
      rw [List.take_of_length_le (by rw [HM.out]; exact Nat.le_refl _)] at hall
      have hr := HRR.out
      rw [hall] at hr
      subst hr
      go_wp2_with fail
      go_ret
      exact ⟨rfl, rfl⟩

/-- The error behind numbers of which some may be wrong. -/
def errP (m r : Bool) (err : Int) : Int := if r then (if m then err else failed err 14) else failed (if m then err else failed err 14) 2
theorem passes_any (B g : Nat) (sv : Value) (bs : List Nat) (a : Nat) (err : Int) (m r : Bool) (w : World) (h : CursorAt w B g sv bs a err) :
    Calls Try.prog 43 #[.pointer (some ⟨g, 0, none⟩), .bool m, .bool r] w fun e w' => e = .returned (.bool (errP m r err == 0)) ∧ CurRes w B g sv bs (a, errP m r err) w' := by
  have hl : ∀ (m r : Bool) (q : Int), errP m r err = q → Calls Try.prog 43 #[.pointer (some ⟨g, 0, none⟩), .bool m, .bool r] w fun e w' => e = .returned (.bool (q == 0)) ∧ CurRes w B g sv bs (a, q) w' := by
    intro m r q hq
    have F1 := Lib.hid (fun W e1 (hW : CursorAt W B g sv bs a e1) e0 => failC_any B g sv bs a e1 e0 W hW)
    have E1 := Lib.hid (fun W e1 (hW : CursorAt W B g sv bs a e1) => errC_any B g sv bs a e1 W hW)
    have HC := Lib.hid h
    clear h
    cases m <;> cases r
    · have hq2 : failed (failed err 14) 2 = q := by simpa [errP] using hq
      have HQ := Lib.hid hq2; clear hq hq2
      go_enter Try.func43, Try.ntmps43
      go_wp2_with fail
      refine (F1.out w err HC.out 14).mono ?_; rintro e w1 ⟨rfl, c1, o1⟩
      have C1 := Lib.hid c1; have O1 := Lib.hid o1; clear c1 o1
      go_wp2_with fail
      refine (F1.out w1 _ C1.out 2).mono ?_; rintro e w2 ⟨rfl, c2, o2⟩
      rw [HQ.out] at c2
      have C2 := Lib.hid c2; have O2 := Lib.hid o2; clear c2 o2
      go_wp2_with fail
      refine (E1.out w2 _ C2.out).mono ?_; rintro e w3 ⟨rfl, rfl⟩
      go_wp2_with fail
      go_ret
      exact ⟨rfl, C2.out, O1.out.trans O2.out⟩
    · have hq2 : failed err 14 = q := by simpa [errP] using hq
      have HQ := Lib.hid hq2; clear hq hq2
      go_enter Try.func43, Try.ntmps43
      go_wp2_with fail
      refine (F1.out w err HC.out 14).mono ?_; rintro e w1 ⟨rfl, c1, o1⟩
      rw [HQ.out] at c1
      have C1 := Lib.hid c1; have O1 := Lib.hid o1; clear c1 o1
      go_wp2_with fail
      refine (E1.out w1 _ C1.out).mono ?_; rintro e w3 ⟨rfl, rfl⟩
      go_wp2_with fail
      go_ret
      exact ⟨rfl, C1.out, O1.out⟩
    · have hq2 : failed err 2 = q := by simpa [errP] using hq
      have HQ := Lib.hid hq2; clear hq hq2
      go_enter Try.func43, Try.ntmps43
      go_wp2_with fail
      refine (F1.out w err HC.out 2).mono ?_; rintro e w1 ⟨rfl, c1, o1⟩
      rw [HQ.out] at c1
      have C1 := Lib.hid c1; have O1 := Lib.hid o1; clear c1 o1
      go_wp2_with fail
      refine (E1.out w1 _ C1.out).mono ?_; rintro e w3 ⟨rfl, rfl⟩
      go_wp2_with fail
      go_ret
      exact ⟨rfl, C1.out, O1.out⟩
    · obtain rfl : err = q := by simpa [errP] using hq
      clear hq
      go_enter Try.func43, Try.ntmps43
      go_wp2_with fail
      refine (E1.out w _ HC.out).mono ?_; rintro e w3 ⟨rfl, rfl⟩
      go_wp2_with fail
      go_ret
      exact ⟨rfl, HC.out, Only.refl _ _⟩
  exact hl m r _ rfl

theorem list2 {l : List Int} (h : l.length = 2) : ∃ a b, l = [a, b] := by
  match l, h with
  | [a, b], _ => exact ⟨a, b, rfl⟩
theorem list3 {l : List Int} (h : l.length = 3) : ∃ a b c, l = [a, b, c] := by
  match l, h with
  | [a, b, c], _ => exact ⟨a, b, c, rfl⟩
theorem list4 {l : List Int} (h : l.length = 4) : ∃ a b c d, l = [a, b, c, d] := by
  match l, h with
  | [a, b, c, d], _ => exact ⟨a, b, c, d, rfl⟩
theorem row2 {w : World} {g : Nat} {a b : Int} (h : Whole w g 3 (iv [a, b]).toArray) : w.cell? ⟨g, 0, none⟩ = some (.int .i64 a) ∧ w.cell? ⟨g, 1, none⟩ = some (.int .i64 b) := by
  refine ⟨?_, ?_⟩ <;> rw [h.cell] <;> rfl
theorem row3 {w : World} {g : Nat} {a b c : Int} (h : Whole w g 3 (iv [a, b, c]).toArray) : w.cell? ⟨g, 0, none⟩ = some (.int .i64 a) ∧ w.cell? ⟨g, 1, none⟩ = some (.int .i64 b) ∧ w.cell? ⟨g, 2, none⟩ = some (.int .i64 c) := by
  refine ⟨?_, ?_, ?_⟩ <;> rw [h.cell] <;> rfl
theorem row4 {w : World} {g : Nat} {a b c d : Int} (h : Whole w g 3 (iv [a, b, c, d]).toArray) : w.cell? ⟨g, 0, none⟩ = some (.int .i64 a) ∧ w.cell? ⟨g, 1, none⟩ = some (.int .i64 b) ∧ w.cell? ⟨g, 2, none⟩ = some (.int .i64 c) ∧ w.cell? ⟨g, 3, none⟩ = some (.int .i64 d) := by
  refine ⟨?_, ?_, ?_, ?_⟩ <;> rw [h.cell] <;> rfl

theorem only_setRow (w : World) (g : Nat) (cs : Array Value) : Only (fun i => i = g) w (w.setRow g cs) :=
  ⟨rfl, rfl, rfl, by simp, fun i _ hn => setRow_other w g i cs hn⟩
theorem CursorAt.row {w : World} {B g : Nat} {sv : Value} {bs : List Nat} {a : Nat} {err : Int} (h : CursorAt w B g sv bs a err) {gs : Nat} {t : TypeId} {cs : Array Value} (hW : Whole w gs t cs) (h1 : (59 : TypeId) ≠ t) (h2 : (5 : TypeId) ≠ t) (C : Array Value) : CursorAt (w.setRow gs C) B g sv bs a err :=
  ⟨h.1, Whole.setRow_far h.2.1 C (h.2.1.ne hW h1), own_only h.2.2 (only_setRow w gs C) (fun k hk => own_ne_whole h.2.2 hW h2 k hk)⟩
theorem Only.rowNew {S : Nat → Prop} {a w : World} (h : Only S a w) {g : Nat} (hg : a.heap.size ≤ g) (cs : Array Value) : Only S a (w.setRow g cs) :=
  ⟨h.os, h.tape, h.output, by simpa using h.size, fun i hi hn => (setRow_other w g i cs (by omega)).trans (h.block i hi hn)⟩
/-- What a local and a central record both say, as it is read. -/
def shC (x0 x1 : Int) (x2 x3 x4 : Nat) (x5 x6 x7 x8 : Int) (na : ByteArray) (of : Int) : Array Value := #[.int .i64 x0, .int .i64 x1, .int .u16 x3, .int .u16 x2, .int .u32 x4, .int .i64 x5, .int .i64 x6, .string na, .int .i64 of, .int .i64 x7, .int .i64 x8]
theorem sh_size (x0 x1 : Int) (x2 x3 x4 : Nat) (x5 x6 x7 x8 : Int) (na : ByteArray) (of : Int) : (Try.prog.info? 62).map (·.size) = some (shC x0 x1 x2 x3 x4 x5 x6 x7 x8 na of).size := by kernel_rfl
theorem sh_one (x0 x1 : Int) (x2 x3 x4 : Nat) (x5 x6 x7 x8 : Int) (na : ByteArray) (of : Int) : (shC x0 x1 x2 x3 x4 x5 x6 x7 x8 na of).all (·.oneCell') = true := by simp [shC, Value.oneCell']
theorem u16_wrap {n : Nat} (h : n < 65536) : IntKind.u16.wrap (n : Int) = n := by
  have : IntKind.u16.wrap (n : Int) = (n : Int) % 65536 := by simp [IntKind.wrap, IntKind.bits, IntKind.signed]
  omega
theorem u32_wrap {n : Nat} (h : n < 4294967296) : IntKind.u32.wrap (n : Int) = n := by
  have : IntKind.u32.wrap (n : Int) = (n : Int) % 4294967296 := by simp [IntKind.wrap, IntKind.bits, IntKind.signed]
  omega
def szS : List Nat := [2, 2, 2, 2, 4, 4, 4, 2, 2]

/-- The numbers that both records share: they are there, within their bounds. -/
def ShIs (bs : List Nat) (a : Nat) (err : Int) (x0 x1 : Int) (x2 x3 x4 : Nat) (x5 x6 x7 x8 : Int) (a' : Nat) (err' : Int) : Prop :=
  rdz bs szS a err = ([x0, x1, (x2 : Int), (x3 : Int), (x4 : Int), x5, x6, x7, x8], a', err') ∧ x2 < 65536 ∧ x3 < 65536 ∧ x4 < 4294967296 ∧ 0 ≤ x7 ∧ x7 < 65536 ∧ a' ≤ bs.length
theorem nat_of {v : Int} (h : 0 ≤ v) : ∃ n : Nat, v = n := ⟨v.toNat, by omega⟩

set_option linter.unusedSimpArgs false in
set_option maxHeartbeats 4000000 in
theorem readShared_any (B g : Nat) (sv : Value) (bs : List Nat) (a : Nat) (err : Int) (w : World) (h : CursorAt w B g sv bs a err) (hb : bs.length ≤ 1000000) (ha : a ≤ bs.length) (h256 : ∀ x ∈ bs, x < 256) :
    ∃ x0 x1 x2 x3 x4 x5 x6 x7 x8 a' err', ShIs bs a err x0 x1 x2 x3 x4 x5 x6 x7 x8 a' err' ∧
    Calls Try.prog 33 #[.pointer (some ⟨g, 0, none⟩)] w fun e w' => e = .returned (.agg (shC x0 x1 x2 x3 x4 x5 x6 x7 x8 ⟨#[]⟩ 0)) ∧ CurRes w B g sv bs (a', err') w' := by
  have N1 := Lib.hid (fun W hW => numbers_any B g sv bs a err 2 2 (.inl rfl) rfl 4 (by omega) W hW hb ha h256)
  have l1 := rdz_length bs (List.replicate 4 2) a err
  have p1 := rdz_place bs (List.replicate 4 2) a err ha
  have b1 := rdz_lt bs h256 (List.replicate 4 2) a err
  obtain ⟨q1, hq1⟩ : ∃ q, rdz bs (List.replicate 4 2) a err = q := ⟨_, rfl⟩
  rw [hq1] at l1 p1 b1 N1
  obtain ⟨q1, a1, e1⟩ := q1
  obtain ⟨x0, x1, x2, x3, rfl⟩ := list4 l1
  obtain ⟨v2, g2, t2, u2⟩ := b1 2 2 rfl
  obtain ⟨v3, g3, t3, u3⟩ := b1 3 2 rfl
  obtain rfl : x2 = v2 := by simpa using g2
  obtain rfl : x3 = v3 := by simpa using g3
  obtain ⟨x2, rfl⟩ := nat_of t2
  obtain ⟨x3, rfl⟩ := nat_of t3
  simp only at p1 N1
  have N2 := Lib.hid (fun W hW => numbers_any B g sv bs a1 e1 4 4 (.inr rfl) rfl 3 (by omega) W hW hb p1 h256)
  have l2 := rdz_length bs (List.replicate 3 4) a1 e1
  have p2 := rdz_place bs (List.replicate 3 4) a1 e1 p1
  have b2 := rdz_lt bs h256 (List.replicate 3 4) a1 e1
  obtain ⟨q2, hq2⟩ : ∃ q, rdz bs (List.replicate 3 4) a1 e1 = q := ⟨_, rfl⟩
  rw [hq2] at l2 p2 b2 N2
  obtain ⟨q2, a2, e2⟩ := q2
  obtain ⟨x4, x5, x6, rfl⟩ := list3 l2
  obtain ⟨v4, g4, t4, u4⟩ := b2 0 4 rfl
  obtain rfl : x4 = v4 := by simpa using g4
  obtain ⟨x4, rfl⟩ := nat_of t4
  simp only at p2 N2
  have N3 := Lib.hid (fun W hW => numbers_any B g sv bs a2 e2 2 2 (.inl rfl) rfl 2 (by omega) W hW hb p2 h256)
  have l3 := rdz_length bs (List.replicate 2 2) a2 e2
  have p3 := rdz_place bs (List.replicate 2 2) a2 e2 p2
  have b3 := rdz_lt bs h256 (List.replicate 2 2) a2 e2
  obtain ⟨q3, hq3⟩ : ∃ q, rdz bs (List.replicate 2 2) a2 e2 = q := ⟨_, rfl⟩
  rw [hq3] at l3 p3 b3 N3
  obtain ⟨q3, a3, e3⟩ := q3
  obtain ⟨x7, x8, rfl⟩ := list2 l3
  obtain ⟨v7, g7, t7, u7⟩ := b3 0 2 rfl
  obtain rfl : x7 = v7 := by simpa using g7
  simp only at p3 N3
  have hS : rdz bs szS a err = ([x0, x1, (x2 : Int), (x3 : Int), (x4 : Int), x5, x6, x7, x8], a3, e3) := by
    show rdz bs (List.replicate 4 2 ++ (List.replicate 3 4 ++ List.replicate 2 2)) a err = _
    rw [rdz_append, hq1, rdz_append, hq2, hq3]
    rfl
  have r2 : x2 < 65536 := by simp at u2; omega
  have r3 : x3 < 65536 := by simp at u3; omega
  have r4 : x4 < 4294967296 := by simp at u4; omega
  refine ⟨x0, x1, x2, x3, x4, x5, x6, x7, x8, a3, e3, ⟨hS, r2, r3, r4, t7, by simpa using u7, p3⟩, ?_⟩
  have c2 := u16_wrap r2
  have c3 := u16_wrap r3
  have c4 := u32_wrap r4
  have HC := Lib.hid h
  clear hS hq1 hq2 hq3 l1 l2 l3 p1 p2 p3 b1 b2 b3 g2 g3 g4 g7 t2 t3 t4 t7 u2 u3 u4 u7 r2 r3 r4 h hb ha h256
  go_enter Try.func33, Try.ntmps33
  go_wp2_with fail
  have C0 := Lib.hid (HC.out.bel ((Below.refl w.heap.size w).alloc (Nat.le_refl _) (.cells (shC 0 0 0 0 0 0 0 0 0 ⟨#[]⟩ 0) 62)))
  have Z0 := Lib.hid (Whole.new w 62 (shC 0 0 0 0 0 0 0 0 0 ⟨#[]⟩ 0))
  have O0 := Lib.hid (Only.of_below ((Below.refl w.heap.size w).alloc (Nat.le_refl _) (.cells (shC 0 0 0 0 0 0 0 0 0 ⟨#[]⟩ 0) 62)) (fun i => i = g))
  have hgl := HC.out.2.1.lt
  simp only [shC] at C0 Z0 O0
  generalize w.alloc _ = w0 at C0 Z0 O0 ⊢
  obtain ⟨gz, hgz⟩ : ∃ gz, w.heap.size = gz := ⟨_, rfl⟩
  rw [hgz] at Z0 ⊢
  have hzg : gz ≠ g := by omega
  have hzl := Z0.out.lt
  refine (N1.out w0 C0.out).mono ?_
  rintro e w1 ⟨gs1, rfl, W1, hgs1, d1, o1⟩
  have R1 := Lib.hid W1; have C1 := Lib.hid d1; have O1 := Lib.hid o1; have Z1 := Lib.hid (Z0.out.only o1 hzg)
  have hsg1 : gs1 ≠ g := by have := C0.out.2.1.lt; omega
  have hsz1 := o1.size
  clear W1 d1 o1 Z0
  simp only at C1
  go_wp2_with fail
  refine (N2.out w1 C1.out).mono ?_
  rintro e w2 ⟨gs2, rfl, W2, hgs2, d2, o2⟩
  have R12 := Lib.hid (R1.out.only o2 hsg1); have R2 := Lib.hid W2; have C2 := Lib.hid d2; have O2 := Lib.hid o2; have Z2 := Lib.hid (Z1.out.only o2 hzg)
  have hsg2 : gs2 ≠ g := by have := C1.out.2.1.lt; omega
  have hsz2 := o2.size
  clear W2 d2 o2 Z1 R1
  simp only at C2
  go_wp2_with fail
  refine (N3.out w2 C2.out).mono ?_
  rintro e w3 ⟨gs3, rfl, W3, hgs3, d3, o3⟩
  have R13 := Lib.hid (R12.out.only o3 hsg1); have R23 := Lib.hid (R2.out.only o3 hsg2); have R3 := Lib.hid W3; have C3 := Lib.hid d3; have O3 := Lib.hid o3; have Z3 := Lib.hid (Z2.out.only o3 hzg)
  clear W3 d3 o3 Z2 R12 R2 N1 N2 N3
  simp only at C3
  go_upto_region 2 with fail
  have hz1 : ¬ (gs1 = gz) := by omega
  have hz2 : ¬ (gs2 = gz) := by omega
  have hz3 : ¬ (gs3 = gz) := by omega
  refine wp_region_held_drew (S := (fun W => Only (fun i => i = gz) w3 W)) (by kernel_rfl) (Only.refl _ _).drew (fun hHeld => ?_)
  have hHeld0 := hHeld
  generalize hwd : w3.drew = wd at *
  have ZD : Hid (Whole wd gz 62 (shC 0 0 0 0 0 0 0 0 0 ⟨#[]⟩ 0)) := by rw [← hwd]; exact Lib.hid Z3.out.drew
  have CD : Hid (CursorAt wd B g sv bs a3 e3) := by rw [← hwd]; exact Lib.hid (C3.out.bel (Below.refl _ _).drew)
  have OD : Hid (Only (fun k => k = g) w wd) := by rw [← hwd]; exact Lib.hid ((((O0.out.trans O1.out).trans O2.out).trans O3.out).drew)
  clear hwd hHeld0
  refine wpAnyH_take (i := 0) (oi := ⟨some 12, _, _, _, _, _⟩) (v := ?v0_1) rfl (by kernel_rfl) (by kernel_rfl) (by kernel_rfl) (fun _ _ _ h => h) (Or.inl ⟨by rfl, ?hy0_1⟩) (by assumption) ?rest0_1
  case hy0_1 => intro W hSW; go_simp; try rfl
  try simp only [Act.put, List.setIfInBounds_toArray, List.set_cons_zero, List.set_cons_succ]
  refine wpAnyH_take (i := 1) (oi := ⟨some 13, _, _, _, _, _⟩) (v := ?v1_2) rfl (by kernel_rfl) (by kernel_rfl) (by kernel_rfl) (fun _ _ _ h => h) (Or.inl ⟨by rfl, ?hy1_2⟩) (by assumption) ?rest1_2
  case hy1_2 => intro W hSW; go_simp; try rfl
  try simp only [Act.put, List.setIfInBounds_toArray, List.set_cons_zero, List.set_cons_succ]
  refine wpAnyH_take (i := 2) (oi := ⟨some 14, _, _, _, _, _⟩) (v := ?v2_3) rfl (by kernel_rfl) (by kernel_rfl) (by kernel_rfl) (fun _ _ _ h => h) (Or.inl ⟨by rfl, ?hy2_3⟩) (by assumption) ?rest2_3
  case hy2_3 => intro W hSW; obtain ⟨k0, k1, k2, k3⟩ := row4 (R13.out.only hSW hz1); go_simp; try rfl
  try simp only [Act.put, List.setIfInBounds_toArray, List.set_cons_zero, List.set_cons_succ]
  refine wpAnyH_take (i := 3) (oi := ⟨some 15, _, _, _, _, _⟩) (v := ?v3_4) rfl (by kernel_rfl) (by kernel_rfl) (by kernel_rfl) (fun _ _ _ h => h) (Or.inl ⟨by rfl, ?hy3_4⟩) (by assumption) ?rest3_4
  case hy3_4 => intro W hSW; go_simp; try rfl
  try simp only [Act.put, List.setIfInBounds_toArray, List.set_cons_zero, List.set_cons_succ]
  refine wpAnyH_take (i := 4) (oi := ⟨some 16, _, _, _, _, _⟩) (v := ?v4_5) rfl (by kernel_rfl) (by kernel_rfl) (by kernel_rfl) (fun _ _ _ h => h) (Or.inl ⟨by rfl, ?hy4_5⟩) (by assumption) ?rest4_5
  case hy4_5 => intro W hSW; go_simp; try rfl
  try simp only [Act.put, List.setIfInBounds_toArray, List.set_cons_zero, List.set_cons_succ]
  refine wpAnyH_take (i := 5) (oi := ⟨some 17, _, _, _, _, _⟩) (v := ?v5_6) rfl (by kernel_rfl) (by kernel_rfl) (by kernel_rfl) (fun _ _ _ h => h) (Or.inl ⟨by rfl, ?hy5_6⟩) (by assumption) ?rest5_6
  case hy5_6 => intro W hSW; obtain ⟨k0, k1, k2, k3⟩ := row4 (R13.out.only hSW hz1); go_simp; try rfl
  try simp only [Act.put, List.setIfInBounds_toArray, List.set_cons_zero, List.set_cons_succ]
  refine wpAnyH_take (i := 6) (oi := ⟨some 18, _, _, _, _, _⟩) (v := ?v6_7) rfl (by kernel_rfl) (by kernel_rfl) (by kernel_rfl) (fun _ _ _ h => h) (Or.inl ⟨by rfl, ?hy6_7⟩) (by assumption) ?rest6_7
  case hy6_7 => intro W hSW; go_simp; try rfl
  try simp only [Act.put, List.setIfInBounds_toArray, List.set_cons_zero, List.set_cons_succ]
  refine wpAnyH_take (i := 7) (oi := ⟨some 19, _, _, _, _, _⟩) (v := ?v7_8) rfl (by kernel_rfl) (by kernel_rfl) (by kernel_rfl) (fun _ _ _ h => h) (Or.inl ⟨by rfl, ?hy7_8⟩) (by assumption) ?rest7_8
  case hy7_8 => intro W hSW; go_simp; try rfl
  try simp only [Act.put, List.setIfInBounds_toArray, List.set_cons_zero, List.set_cons_succ]
  refine wpAnyH_take (i := 8) (oi := ⟨some 20, _, _, _, _, _⟩) (v := ?v8_9) rfl (by kernel_rfl) (by kernel_rfl) (by kernel_rfl) (fun _ _ _ h => h) (Or.inl ⟨by rfl, ?hy8_9⟩) (by assumption) ?rest8_9
  case hy8_9 => intro W hSW; obtain ⟨k0, k1, k2, k3⟩ := row4 (R13.out.only hSW hz1); go_simp; try rfl
  try simp only [Act.put, List.setIfInBounds_toArray, List.set_cons_zero, List.set_cons_succ]
  refine wpAnyH_take (i := 9) (oi := ⟨some 21, _, _, _, _, _⟩) (v := ?v9_10) rfl (by kernel_rfl) (by kernel_rfl) (by kernel_rfl) (fun _ _ _ h => h) (Or.inl ⟨by rfl, ?hy9_10⟩) (by assumption) ?rest9_10
  case hy9_10 => intro W hSW; go_simp; try rfl
  try simp only [Act.put, List.setIfInBounds_toArray, List.set_cons_zero, List.set_cons_succ]
  refine wpAnyH_take (i := 10) (oi := ⟨some 22, _, _, _, _, _⟩) (v := ?v10_11) rfl (by kernel_rfl) (by kernel_rfl) (by kernel_rfl) (fun _ _ _ h => h) (Or.inl ⟨by rfl, ?hy10_11⟩) (by assumption) ?rest10_11
  case hy10_11 => intro W hSW; go_simp; try rfl
  try simp only [Act.put, List.setIfInBounds_toArray, List.set_cons_zero, List.set_cons_succ]
  refine wpAnyH_take (i := 11) (oi := ⟨some 23, _, _, _, _, _⟩) (v := ?v11_12) rfl (by kernel_rfl) (by kernel_rfl) (by kernel_rfl) (fun _ _ _ h => h) (Or.inl ⟨by rfl, ?hy11_12⟩) (by assumption) ?rest11_12
  case hy11_12 => intro W hSW; go_simp; try rfl
  try simp only [Act.put, List.setIfInBounds_toArray, List.set_cons_zero, List.set_cons_succ]
  refine wpAnyH_take (i := 12) (oi := ⟨some 24, _, _, _, _, _⟩) (v := ?v12_13) rfl (by kernel_rfl) (by kernel_rfl) (by kernel_rfl) (fun _ _ _ h => h) (Or.inl ⟨by rfl, ?hy12_13⟩) (by assumption) ?rest12_13
  case hy12_13 => intro W hSW; obtain ⟨k0, k1, k2, k3⟩ := row4 (R13.out.only hSW hz1); go_simp; try rfl
  try simp only [Act.put, List.setIfInBounds_toArray, List.set_cons_zero, List.set_cons_succ]
  refine wpAnyH_take (i := 13) (oi := ⟨some 25, _, _, _, _, _⟩) (v := ?v13_14) rfl (by kernel_rfl) (by kernel_rfl) (by kernel_rfl) (fun _ _ _ h => h) (Or.inl ⟨by rfl, ?hy13_14⟩) (by assumption) ?rest13_14
  case hy13_14 => intro W hSW; go_simp; try rfl
  try simp only [Act.put, List.setIfInBounds_toArray, List.set_cons_zero, List.set_cons_succ]
  refine wpAnyH_take (i := 14) (oi := ⟨some 26, _, _, _, _, _⟩) (v := ?v14_15) rfl (by kernel_rfl) (by kernel_rfl) (by kernel_rfl) (fun _ _ _ h => h) (Or.inl ⟨by rfl, ?hy14_15⟩) (by assumption) ?rest14_15
  case hy14_15 => intro W hSW; go_simp; try rfl
  try simp only [Act.put, List.setIfInBounds_toArray, List.set_cons_zero, List.set_cons_succ]
  refine wpAnyH_take (i := 15) (oi := ⟨some 27, _, _, _, _, _⟩) (v := ?v15_16) rfl (by kernel_rfl) (by kernel_rfl) (by kernel_rfl) (fun _ _ _ h => h) (Or.inl ⟨by rfl, ?hy15_16⟩) (by assumption) ?rest15_16
  case hy15_16 => intro W hSW; go_simp; try rfl
  try simp only [Act.put, List.setIfInBounds_toArray, List.set_cons_zero, List.set_cons_succ]
  refine wpAnyH_take (i := 16) (oi := ⟨some 28, _, _, _, _, _⟩) (v := ?v16_17) rfl (by kernel_rfl) (by kernel_rfl) (by kernel_rfl) (fun _ _ _ h => h) (Or.inl ⟨by rfl, ?hy16_17⟩) (by assumption) ?rest16_17
  case hy16_17 => intro W hSW; go_simp; try rfl
  try simp only [Act.put, List.setIfInBounds_toArray, List.set_cons_zero, List.set_cons_succ]
  refine wpAnyH_take (i := 17) (oi := ⟨some 29, _, _, _, _, _⟩) (v := ?v17_18) rfl (by kernel_rfl) (by kernel_rfl) (by kernel_rfl) (fun _ _ _ h => h) (Or.inl ⟨by rfl, ?hy17_18⟩) (by assumption) ?rest17_18
  case hy17_18 => intro W hSW; obtain ⟨k0, k1, k2⟩ := row3 (R23.out.only hSW hz2); go_simp; try rfl
  try simp only [Act.put, List.setIfInBounds_toArray, List.set_cons_zero, List.set_cons_succ]
  refine wpAnyH_take (i := 18) (oi := ⟨some 30, _, _, _, _, _⟩) (v := ?v18_19) rfl (by kernel_rfl) (by kernel_rfl) (by kernel_rfl) (fun _ _ _ h => h) (Or.inl ⟨by rfl, ?hy18_19⟩) (by assumption) ?rest18_19
  case hy18_19 => intro W hSW; go_simp; try rfl
  try simp only [Act.put, List.setIfInBounds_toArray, List.set_cons_zero, List.set_cons_succ]
  refine wpAnyH_take (i := 19) (oi := ⟨some 31, _, _, _, _, _⟩) (v := ?v19_20) rfl (by kernel_rfl) (by kernel_rfl) (by kernel_rfl) (fun _ _ _ h => h) (Or.inl ⟨by rfl, ?hy19_20⟩) (by assumption) ?rest19_20
  case hy19_20 => intro W hSW; go_simp; try rfl
  try simp only [Act.put, List.setIfInBounds_toArray, List.set_cons_zero, List.set_cons_succ]
  refine wpAnyH_take (i := 20) (oi := ⟨some 32, _, _, _, _, _⟩) (v := ?v20_21) rfl (by kernel_rfl) (by kernel_rfl) (by kernel_rfl) (fun _ _ _ h => h) (Or.inl ⟨by rfl, ?hy20_21⟩) (by assumption) ?rest20_21
  case hy20_21 => intro W hSW; go_simp; try rfl
  try simp only [Act.put, List.setIfInBounds_toArray, List.set_cons_zero, List.set_cons_succ]
  refine wpAnyH_take (i := 21) (oi := ⟨some 33, _, _, _, _, _⟩) (v := ?v21_22) rfl (by kernel_rfl) (by kernel_rfl) (by kernel_rfl) (fun _ _ _ h => h) (Or.inl ⟨by rfl, ?hy21_22⟩) (by assumption) ?rest21_22
  case hy21_22 => intro W hSW; obtain ⟨k0, k1, k2⟩ := row3 (R23.out.only hSW hz2); go_simp; try rfl
  try simp only [Act.put, List.setIfInBounds_toArray, List.set_cons_zero, List.set_cons_succ]
  refine wpAnyH_take (i := 22) (oi := ⟨some 34, _, _, _, _, _⟩) (v := ?v22_23) rfl (by kernel_rfl) (by kernel_rfl) (by kernel_rfl) (fun _ _ _ h => h) (Or.inl ⟨by rfl, ?hy22_23⟩) (by assumption) ?rest22_23
  case hy22_23 => intro W hSW; go_simp; try rfl
  try simp only [Act.put, List.setIfInBounds_toArray, List.set_cons_zero, List.set_cons_succ]
  refine wpAnyH_take (i := 23) (oi := ⟨some 35, _, _, _, _, _⟩) (v := ?v23_24) rfl (by kernel_rfl) (by kernel_rfl) (by kernel_rfl) (fun _ _ _ h => h) (Or.inl ⟨by rfl, ?hy23_24⟩) (by assumption) ?rest23_24
  case hy23_24 => intro W hSW; go_simp; try rfl
  try simp only [Act.put, List.setIfInBounds_toArray, List.set_cons_zero, List.set_cons_succ]
  refine wpAnyH_take (i := 24) (oi := ⟨some 36, _, _, _, _, _⟩) (v := ?v24_25) rfl (by kernel_rfl) (by kernel_rfl) (by kernel_rfl) (fun _ _ _ h => h) (Or.inl ⟨by rfl, ?hy24_25⟩) (by assumption) ?rest24_25
  case hy24_25 => intro W hSW; obtain ⟨k0, k1, k2⟩ := row3 (R23.out.only hSW hz2); go_simp; try rfl
  try simp only [Act.put, List.setIfInBounds_toArray, List.set_cons_zero, List.set_cons_succ]
  refine wpAnyH_take (i := 25) (oi := ⟨some 37, _, _, _, _, _⟩) (v := ?v25_26) rfl (by kernel_rfl) (by kernel_rfl) (by kernel_rfl) (fun _ _ _ h => h) (Or.inl ⟨by rfl, ?hy25_26⟩) (by assumption) ?rest25_26
  case hy25_26 => intro W hSW; go_simp; try rfl
  try simp only [Act.put, List.setIfInBounds_toArray, List.set_cons_zero, List.set_cons_succ]
  refine wpAnyH_take (i := 26) (oi := ⟨some 38, _, _, _, _, _⟩) (v := ?v26_27) rfl (by kernel_rfl) (by kernel_rfl) (by kernel_rfl) (fun _ _ _ h => h) (Or.inl ⟨by rfl, ?hy26_27⟩) (by assumption) ?rest26_27
  case hy26_27 => intro W hSW; go_simp; try rfl
  try simp only [Act.put, List.setIfInBounds_toArray, List.set_cons_zero, List.set_cons_succ]
  refine wpAnyH_take (i := 27) (oi := ⟨some 39, _, _, _, _, _⟩) (v := ?v27_28) rfl (by kernel_rfl) (by kernel_rfl) (by kernel_rfl) (fun _ _ _ h => h) (Or.inl ⟨by rfl, ?hy27_28⟩) (by assumption) ?rest27_28
  case hy27_28 => intro W hSW; go_simp; try rfl
  try simp only [Act.put, List.setIfInBounds_toArray, List.set_cons_zero, List.set_cons_succ]
  refine wpAnyH_take (i := 28) (oi := ⟨some 40, _, _, _, _, _⟩) (v := ?v28_29) rfl (by kernel_rfl) (by kernel_rfl) (by kernel_rfl) (fun _ _ _ h => h) (Or.inl ⟨by rfl, ?hy28_29⟩) (by assumption) ?rest28_29
  case hy28_29 => intro W hSW; obtain ⟨k0, k1⟩ := row2 (R3.out.only hSW hz3); go_simp; try rfl
  try simp only [Act.put, List.setIfInBounds_toArray, List.set_cons_zero, List.set_cons_succ]
  refine wpAnyH_take (i := 29) (oi := ⟨some 41, _, _, _, _, _⟩) (v := ?v29_30) rfl (by kernel_rfl) (by kernel_rfl) (by kernel_rfl) (fun _ _ _ h => h) (Or.inl ⟨by rfl, ?hy29_30⟩) (by assumption) ?rest29_30
  case hy29_30 => intro W hSW; go_simp; try rfl
  try simp only [Act.put, List.setIfInBounds_toArray, List.set_cons_zero, List.set_cons_succ]
  refine wpAnyH_take (i := 30) (oi := ⟨some 42, _, _, _, _, _⟩) (v := ?v30_31) rfl (by kernel_rfl) (by kernel_rfl) (by kernel_rfl) (fun _ _ _ h => h) (Or.inl ⟨by rfl, ?hy30_31⟩) (by assumption) ?rest30_31
  case hy30_31 => intro W hSW; go_simp; try rfl
  try simp only [Act.put, List.setIfInBounds_toArray, List.set_cons_zero, List.set_cons_succ]
  refine wpAnyH_take (i := 31) (oi := ⟨some 43, _, _, _, _, _⟩) (v := ?v31_32) rfl (by kernel_rfl) (by kernel_rfl) (by kernel_rfl) (fun _ _ _ h => h) (Or.inl ⟨by rfl, ?hy31_32⟩) (by assumption) ?rest31_32
  case hy31_32 => intro W hSW; obtain ⟨k0, k1⟩ := row2 (R3.out.only hSW hz3); go_simp; try rfl
  try simp only [Act.put, List.setIfInBounds_toArray, List.set_cons_zero, List.set_cons_succ]
  refine wpAnyH_take (i := 32) (oi := ⟨some 44, _, _, _, _, _⟩) (v := ?v32_33) rfl (by kernel_rfl) (by kernel_rfl) (by kernel_rfl) (fun _ _ _ h => h) (Or.inl ⟨by rfl, ?hy32_33⟩) (by assumption) ?rest32_33
  case hy32_33 => intro W hSW; go_simp; try rfl
  try simp only [Act.put, List.setIfInBounds_toArray, List.set_cons_zero, List.set_cons_succ]
  refine wpAnyH_ready (rs := [33]) (by kernel_rfl) (by simp) ?_
  refine (AllReadyH.cons (o := ⟨none, _, _, _, _, _⟩) rfl (fun K hK => ?_) AllReadyH.nil)
  · refine step_store_row _ rfl 62 (.tmp 2) (.tmp 44) rfl gz (shC x0 x1 x2 x3 x4 x5 x6 x7 x8 ⟨#[]⟩ 0) rfl rfl 62 (shC 0 0 0 0 0 0 0 0 0 ⟨#[]⟩ 0) (ZD.out) (sh_size ..) rfl (sh_one ..) ?_
    refine hK.out _ _ ?_ (fun hHeld2 => ?_)
    · exact hHeld.trans (only_setRow _ _ _)
    clear hK K hHeld
    have hHeld := hHeld2; clear hHeld2
    try simp only [Act.put, List.setIfInBounds_toArray, List.set_cons_zero, List.set_cons_succ]
    refine wpAnyH_done (by kernel_rfl) ?_ _
    go_wp2_with fail
    refine bodyPost_ret (v := .agg (shC x0 x1 x2 x3 x4 x5 x6 x7 x8 ⟨#[]⟩ 0)) (results_cell_row (p := 2) (ty := 62) rfl _ _ gz 62 (shC x0 x1 x2 x3 x4 x5 x6 x7 x8 ⟨#[]⟩ 0) (0, 0) _ rfl (ZD.out.setRow _) Try.underlying62 rfl (sh_size ..)) rfl ?_
    exact ⟨rfl, CD.out.row ZD.out (by decide) (by decide) _, OD.out.rowNew (by omega) _⟩
end Go.Proofs.Ytplilajgncfieaa
