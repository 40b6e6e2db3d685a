/-
  The program's Value. Conditions: a pool in memory, of at most a hundred thousand constants; as many tags.
-/
import Derived.Test.YtmojclbejmnikaaPG
import Derived.Deep.RegionHeld3
namespace Go.Proofs.Ytmojclbejmnikaa
open Go Go.RowKit
set_option maxRecDepth 100000

/-- What a constant is worth, but for its tag, and whether it leads to what it should. -/
def worth (l : List Raw) (r : Raw) : Val × Bool :=
  if r.tag = 1 then (⟨0, r.text, 0, ⟨#[]⟩, ⟨#[]⟩, ⟨#[]⟩⟩, true)
  else if r.tag = 3 ∨ r.tag = 4 ∨ r.tag = 5 ∨ r.tag = 6 then (⟨0, ⟨#[]⟩, r.bits, ⟨#[]⟩, ⟨#[]⟩, ⟨#[]⟩⟩, true)
  else if r.tag = 7 ∨ r.tag = 8 then (⟨0, opT (txM l r.a), 0, ⟨#[]⟩, ⟨#[]⟩, ⟨#[]⟩⟩, (txM l r.a).isSome)
  else if r.tag = 12 then (⟨0, ⟨#[]⟩, 0, ⟨#[]⟩, opT (txM l r.a), opT (txM l r.b)⟩, (txM l r.a).isSome && (txM l r.b).isSome)
  else memV l r.a r.b
def valueM (l : List Raw) (i : Int) (tags : List Int) : Val × Int := match atR l i with
  | none => (v0, 5)
  | some r => if r.tag = 0 then (v0, 5) else if formM r.tag = 0 ∨ (tags ≠ [] ∧ tags.contains r.tag = false) then (v0, 9)
    else if (worth l r).2 = true then (⟨r.tag, (worth l r).1.text, (worth l r).1.bits, (worth l r).1.cls, (worth l r).1.name, (worth l r).1.desc⟩, 0) else (v0, 9)
/-- What Value gives: the value, the error. -/
def VRes (w : World) (r : Val × Int) (e : Ending) (w' : World) : Prop := e = .returned (.tuple #[.agg (valA r.1), .int .i64 r.2]) ∧ Below w.heap.size w w'

theorem eql_nil_iface (V : Value) (r : Raw) (h : ifc r = V) (w : World) : (binOp .eql 64 V .nilIface).run Try.prog w = .ok (.bool (decide (formM r.tag = 0))) w := by
  subst h
  have f : ∀ k : Int, r.tag = k → formM k ≠ 0 → decide (formM r.tag = 0) = false := fun k h g => decide_eq_false (by rw [h]; exact g)
  rcases ifc_cases r with ⟨h, e⟩ | ⟨h, e⟩ | ⟨h, e⟩ | ⟨h, e⟩ | ⟨h, e⟩ | ⟨h, e⟩ | ⟨h, e⟩ | ⟨h, e⟩ <;> rw [e]
  · rw [f 1 h (by decide)]; rfl
  · rcases h with h | h
    · rw [f 3 h (by decide)]; rfl
    · rw [f 4 h (by decide)]; rfl
  · rcases h with h | h
    · rw [f 5 h (by decide)]; rfl
    · rw [f 6 h (by decide)]; rfl
  · rw [f 7 h (by decide)]; rfl
  · rw [f 8 h (by decide)]; rfl
  · rcases h with h | h | h
    · rw [f 9 h (by decide)]; rfl
    · rw [f 10 h (by decide)]; rfl
    · rw [f 11 h (by decide)]; rfl
  · rw [f 12 h (by decide)]; rfl
  · rw [decide_eq_true h]; rfl

theorem guard_nil_iface (V : Value) (r : Raw) (h : ifc r = V) (op : BinOp) (hop : op = .eql ∨ op = .neq) (x : Operand) (w : World) : (eqGuard op 64 x (.const .nilIface) V .nilIface).run Try.prog w = .ok () w := by
  subst h
  rcases hop with rfl | rfl <;> rcases ifc_cases r with ⟨_, e⟩ | ⟨_, e⟩ | ⟨_, e⟩ | ⟨_, e⟩ | ⟨_, e⟩ | ⟨_, e⟩ | ⟨_, e⟩ | ⟨_, e⟩ <;> rw [e] <;> first | rfl | (cases x <;> rfl)

set_option maxHeartbeats 16000000 in
theorem value_any (l : List Raw) (A : Option Addr) (n c B : Nat) (i : Int) (tags : List Int) (AT : Option Addr) (m ct : Nat) (hn : l.length = n) (hs : n ≤ 100000) (hm : tags.length = m) (hms : m ≤ 100000) (w : World)
    (hA : Seen w B 5 A n c (rv l)) (hT : Seen w B 1 AT m ct (iv tags)) (hB : B ≤ w.heap.size) :
    Calls Try.prog 21 #[.slice A n c, .int .i64 i, .slice AT m ct] w (VRes w (valueM l i tags)) := by
  obtain ⟨w2, hw2⟩ : ∃ W, w.alloc (.cells #[.int .i64 0, .string ⟨#[]⟩, .int .u64 0, .string ⟨#[]⟩, .string ⟨#[]⟩, .string ⟨#[]⟩] 41) = W := ⟨_, rfl⟩
  have W2 : Hid (Whole w2 w.heap.size 41 (valA v0)) := Lib.hid (hw2 ▸ Whole.new w 41 _)
  have B2 : Hid (Below w.heap.size w w2) := Lib.hid (hw2 ▸ (Below.refl w.heap.size w).alloc (Nat.le_refl _) _)
  have HA := Lib.hid hA
  have HT := Lib.hid hT
  obtain ⟨R, hR⟩ : ∃ R, valueM l i tags = R := ⟨_, rfl⟩
  rw [hR]
  unfold valueM atR at hR
  clear hA hT
  by_cases h0 : i ≤ 0
  · rw [if_pos h0] at hR
    simp only at hR
    subst hR
    have d0 : decide (i ≤ 0) = true := decide_eq_true h0
    clear h0
    go_enter Try.func21, Try.ntmps21
    go_wp2_with (refine wpList_store_row rfl 41 (.tmp 6) (.tmp 28) rfl w.heap.size (valA v0) rfl rfl 41 (valA v0) W2.out rfl rfl (val_one _) ?_)
    refine bodyPost_ret (results_val (p := 6) (u := 7) rfl _ _ w.heap.size v0 rfl (W2.out.setRow _)) rfl ?_
    exact ⟨rfl, below_setRow B2.out (Nat.le_refl _) _⟩
  rw [if_neg h0] at hR
  obtain ⟨k, rfl⟩ : ∃ k : Nat, i = (k : Int) := ⟨i.toNat, by omega⟩
  have d0 : decide ((k : Int) ≤ 0) = false := decide_eq_false h0
  have d00 : decide (k = 0) = false := decide_eq_false (by omega)
  rw [Int.toNat_natCast] at hR
  by_cases hk : k < n
  · have hkl : k < l.length := by omega
    rw [List.getElem?_eq_getElem hkl] at hR
    simp only at hR
    have d1 : decide ((n : Int) ≤ (k : Int)) = false := decide_eq_false (by omega)
    have d2 : decide (n ≤ k) = false := decide_eq_false (by omega)
    obtain ⟨b, o, rfl, hbB, hc⟩ := (HA.out.below (B2.out.mono hB)).raw hkl hn
    obtain ⟨r, hr⟩ : ∃ r, l[k] = r := ⟨_, rfl⟩
    rw [hr] at hR hc
    have c0 : w2.cell? ⟨b, o + k * 5, none⟩ = some (.int .i64 r.tag) := hc 0 _ rfl
    have c1 : w2.cell? ⟨b, o + k * 5 + 1, none⟩ = some (.string r.text) := by rw [Nat.add_assoc]; exact hc 1 _ rfl
    have c2 : w2.cell? ⟨b, o + k * 5 + 2, none⟩ = some (.int .u64 r.bits) := by rw [Nat.add_assoc]; exact hc 2 _ rfl
    have c3 : w2.cell? ⟨b, o + k * 5 + 3, none⟩ = some (.int .i64 r.a) := by rw [Nat.add_assoc]; exact hc 3 _ rfl
    have c4 : w2.cell? ⟨b, o + k * 5 + 4, none⟩ = some (.int .i64 r.b) := by rw [Nat.add_assoc]; exact hc 4 _ rfl
    have H := Lib.hid (And.intro hr (And.intro h0 hs))
    clear hr hc h0 hs
    by_cases ht : r.tag = 0
    · rw [if_pos ht] at hR
      subst hR
      have dt : (r.tag == 0) = true := by rw [beq_iff_eq]; exact ht
      have HT0 := Lib.hid ht
      clear ht c1 c2 c3 c4
      go_enter Try.func21, Try.ntmps21
      go_wp2_with (refine wpList_store_row rfl 41 (.tmp 6) (.tmp 28) rfl w.heap.size (valA v0) rfl rfl 41 (valA v0) W2.out rfl rfl (val_one _) ?_)
      refine bodyPost_ret (results_val (p := 6) (u := 7) rfl _ _ w.heap.size v0 rfl (W2.out.setRow _)) rfl ?_
      exact ⟨rfl, below_setRow B2.out (Nat.le_refl _) _⟩
    · rw [if_neg ht] at hR
      have dt : (r.tag == 0) = false := by rw [beq_eq_false_iff_ne]; exact ht
      have HT0 := Lib.hid ht
      clear ht
      go_enter Try.func21, Try.ntmps21
      go_wp2_with fail
      go_region_held3 (fun w' => w'.cell? ⟨b, o + k * 5, none⟩ = some (.int .i64 r.tag) ∧ w'.cell? ⟨b, o + k * 5 + 1, none⟩ = some (.string r.text) ∧ w'.cell? ⟨b, o + k * 5 + 2, none⟩ = some (.int .u64 r.bits) ∧ w'.cell? ⟨b, o + k * 5 + 3, none⟩ = some (.int .i64 r.a) ∧ w'.cell? ⟨b, o + k * 5 + 4, none⟩ = some (.int .i64 r.b)) (first | exact ⟨c0, c1, c2, c3, c4⟩ | go_keep | (simp [go_sem, World.cell?_alloc_past]; done))
        ((go_at_call 34; refine (con_any r _).mono ?_; rintro e w1 ⟨rfl, rfl⟩))
      have W3 : Hid (Whole (w2.alloc (Obj.cells (rawA r) 47)).drew w.heap.size 41 (valA v0)) := Lib.hid ((W2.out.alloc _).drew)
      have B3 : Hid (Below w.heap.size w (w2.alloc (Obj.cells (rawA r) 47)).drew) := Lib.hid ((B2.out.alloc B2.out.size _).drew)
      generalize (w2.alloc (Obj.cells (rawA r) 47)).drew = w3 at W3 B3 ⊢
      clear c0 c1 c2 c3 c4 hw2
      have HT3 := Lib.hid (HT.out.below (B3.out.mono hB))
      have CT := Lib.hid (contains_any tags AT m ct B r.tag hm hms w3 HT3.out)
      obtain ⟨V, hV⟩ : ∃ V, ifc r = V := ⟨_, rfl⟩
      rw [hV]
      have hnil := eql_nil_iface V r hV
      have hgd := guard_nil_iface V r hV .eql (.inl rfl)
      have HV := Lib.hid hV
      clear hV
      by_cases hf : formM r.tag = 0
      · rw [if_pos (.inl hf)] at hR
        subst hR
        rw [decide_eq_true hf] at hnil
        have HF := Lib.hid hf
        clear hf
        go_wp2_with (refine wpList_store_row rfl 41 (.tmp 6) (.tmp 52) rfl w.heap.size (valA v0) rfl rfl 41 (valA v0) W3.out rfl rfl (val_one _) ?_)
        refine bodyPost_ret (results_val (p := 6) (u := 7) rfl _ _ w.heap.size v0 rfl (W3.out.setRow _)) rfl ?_
        exact ⟨rfl, below_setRow B3.out (Nat.le_refl _) _⟩
      rw [decide_eq_false hf] at hnil
      have HF := Lib.hid hf
      by_cases hq : tags ≠ [] ∧ tags.contains r.tag = false
      · rw [if_pos (.inr hq)] at hR
        subst hR
        obtain ⟨hq1, hq2⟩ := hq
        have hm0 : 0 < m := by rw [← hm]; exact List.length_pos_iff.2 hq1
        have d5 : decide ((0 : Int) < (m : Int)) = true := decide_eq_true (by omega)
        have d6 : decide (0 < m) = true := decide_eq_true hm0
        rw [hq2] at CT
        have H6 := Lib.hid (And.intro hq1 (And.intro hq2 hm0))
        clear hq1 hq2 hm0 hf
        go_wp2_with (first | (go_at_call 40; refine CT.out.mono ?_; rintro e w4 ⟨rfl, rfl⟩) | (refine wpList_store_row rfl 41 (.tmp 6) (.tmp 52) rfl w.heap.size (valA v0) rfl rfl 41 (valA v0) W3.out rfl rfl (val_one _) ?_))
        refine bodyPost_ret (results_val (p := 6) (u := 7) rfl _ _ w.heap.size v0 rfl (W3.out.setRow _)) rfl ?_
        exact ⟨rfl, below_setRow B3.out (Nat.le_refl _) _⟩
      rw [if_neg (by rintro (h | h); exact hf h; exact hq h)] at hR
      clear hf
      obtain ⟨z, hz⟩ : ∃ z, decide ((0 : Int) < (m : Int)) = z := ⟨_, rfl⟩
      have hz2 : decide (0 < m) = z := by rw [← hz, Bool.eq_iff_iff]; simp
      have HQ := Lib.hid (show z = true → tags.contains r.tag = true from fun e => by
        rw [← hz2, decide_eq_true_iff] at e
        refine Classical.byContradiction fun h => hq ⟨fun e2 => ?_, by simpa using h⟩
        rw [e2] at hm; simp at hm; omega)
      clear hq
      have HSA := Lib.hid (HA.out.below (B3.out.mono hB))
      have hB3 := Nat.le_trans hB B3.out.size
      rcases ifc_cases r with ⟨h, e⟩ | ⟨h, e⟩ | ⟨h, e⟩ | ⟨h, e⟩ | ⟨h, e⟩ | ⟨h, e⟩ | ⟨h, e⟩ | ⟨h, e⟩
      · rw [HV.out] at e
        subst e
        have CON := Lib.hid (show Calls Try.prog 77 #[.string r.text, .slice (some ⟨b, o, none⟩) n c] w3 (ValRes w3 (worth l r).1 (worth l r).2) by
          unfold worth; rw [if_pos h]; exact vText_any r.text _ w3)
        generalize worth l r = xb at CON hR
        obtain ⟨x, bo⟩ := xb
        simp only at CON hR
        have HH := Lib.hid h
        clear h hB3
        cases z
        · go_wp2_with fail
          refine CON.out.mono ?_
          rintro e w4 ⟨he, hB4⟩
          replace he : e = .returned (.tuple #[.agg #[.int .i64 x.tag, .string x.text, .int .u64 x.bits, .string x.cls, .string x.name, .string x.desc], .bool bo]) := he
          subst he
          obtain ⟨w5, hw5⟩ : ∃ W, (w4.alloc (.cells #[.int .i64 0, .string ⟨#[]⟩, .int .u64 0, .string ⟨#[]⟩, .string ⟨#[]⟩, .string ⟨#[]⟩] 41)).setRow w4.heap.size (valA x) = W := ⟨_, rfl⟩
          have hw5' : w4.alloc (.cells (valA x) 41) = w5 := by rw [← hw5]; exact (World.setRow_alloc_new w4 _ _ _).symm
          have Z4 := Lib.hid (Whole.new w4 41 #[.int .i64 0, .string ⟨#[]⟩, .int .u64 0, .string ⟨#[]⟩, .string ⟨#[]⟩, .string ⟨#[]⟩])
          have B4 := Lib.hid (B3.out.trans (hB4.mono B3.out.size))
          have B5 : Hid (Below w.heap.size w w5) := Lib.hid (hw5' ▸ B4.out.alloc B4.out.size _)
          have W5 : Hid (Whole w5 w.heap.size 41 (valA v0)) := Lib.hid (hw5' ▸ (W3.out.bel hB4).alloc _)
          have hlt := Lib.hid (W3.out.bel hB4).lt
          obtain ⟨g4, hg4⟩ : ∃ q, w4.heap.size = q := ⟨_, rfl⟩
          have N5 : Hid (Whole w5 g4 41 (valA x)) := Lib.hid (hw5' ▸ hg4 ▸ Whole.new w4 41 _)
          rw [hg4] at hw5 Z4
          have hne : Hid (w.heap.size ≠ g4 ∧ w.heap.size ≤ g4) := Lib.hid (by have := hlt.out; omega)
          have k0 : w5.cell? ⟨g4, 0, none⟩ = some (.int .i64 x.tag) := N5.out.cell 0
          have k1 := N5.out.frozen 0
          have N6 : Hid (Whole (w5.setCell ⟨g4, 0, none⟩ (.int .i64 r.tag)) g4 41 (valA ⟨r.tag, x.text, x.bits, x.cls, x.name, x.desc⟩)) := Lib.hid (N5.out.put 0 (.int .i64 r.tag))
          have W6 : Hid (Whole (w5.setCell ⟨g4, 0, none⟩ (.int .i64 r.tag)) w.heap.size 41 (valA v0)) := Lib.hid (W5.out.far (p := ⟨g4, 0, none⟩) hne.out.1 _)
          have B6 := Lib.hid (B5.out.setCell (p := ⟨g4, 0, none⟩) hne.out.2 (.int .i64 r.tag))
          clear hB4 hw5'
          cases bo
          · go_wp2_with (first | (refine wpList_store_row rfl 41 (.tmp 10) (.tmp 57) rfl g4 (valA x) rfl rfl 41 (valA v0) Z4.out rfl rfl (val_one _) ?_) | (refine wpList_store_row rfl 41 (.tmp 6) (.tmp 61) rfl w.heap.size (valA v0) rfl rfl 41 (valA v0) W5.out rfl rfl (val_one _) ?_))
            rw [if_neg (by decide)] at hR
            subst hR
            refine bodyPost_ret (results_val (p := 6) (u := 7) rfl _ _ w.heap.size v0 rfl (W5.out.setRow _)) rfl ?_
            exact ⟨rfl, below_setRow B5.out (Nat.le_refl _) _⟩
          · go_wp2_with (first | (refine wpList_store_row rfl 41 (.tmp 10) (.tmp 57) rfl g4 (valA x) rfl rfl 41 (valA v0) Z4.out rfl rfl (val_one _) ?_) | (refine wpList_load_row rfl 41 (.tmp 10) rfl g4 rfl 41 (valA ⟨r.tag, x.text, x.bits, x.cls, x.name, x.desc⟩) (0, 0) _ N6.out Try.underlying41 rfl rfl ?_) | (refine wpList_store_row rfl 41 (.tmp 6) (.tmp 64) rfl w.heap.size (valA ⟨r.tag, x.text, x.bits, x.cls, x.name, x.desc⟩) rfl rfl 41 (valA v0) W6.out rfl rfl (val_one _) ?_))
            rw [if_pos trivial] at hR
            subst hR
            refine bodyPost_ret (results_val (p := 6) (u := 7) rfl _ _ w.heap.size ⟨r.tag, x.text, x.bits, x.cls, x.name, x.desc⟩ rfl (W6.out.setRow _)) rfl ?_
            exact ⟨rfl, below_setRow B6.out (Nat.le_refl _) _⟩
        · rw [HQ.out rfl] at CT
          go_wp2_with (go_at_call 40; refine CT.out.mono ?_; rintro e w40 ⟨rfl, rfl⟩)
          refine CON.out.mono ?_
          rintro e w4 ⟨he, hB4⟩
          replace he : e = .returned (.tuple #[.agg #[.int .i64 x.tag, .string x.text, .int .u64 x.bits, .string x.cls, .string x.name, .string x.desc], .bool bo]) := he
          subst he
          obtain ⟨w5, hw5⟩ : ∃ W, (w4.alloc (.cells #[.int .i64 0, .string ⟨#[]⟩, .int .u64 0, .string ⟨#[]⟩, .string ⟨#[]⟩, .string ⟨#[]⟩] 41)).setRow w4.heap.size (valA x) = W := ⟨_, rfl⟩
          have hw5' : w4.alloc (.cells (valA x) 41) = w5 := by rw [← hw5]; exact (World.setRow_alloc_new w4 _ _ _).symm
          have Z4 := Lib.hid (Whole.new w4 41 #[.int .i64 0, .string ⟨#[]⟩, .int .u64 0, .string ⟨#[]⟩, .string ⟨#[]⟩, .string ⟨#[]⟩])
          have B4 := Lib.hid (B3.out.trans (hB4.mono B3.out.size))
          have B5 : Hid (Below w.heap.size w w5) := Lib.hid (hw5' ▸ B4.out.alloc B4.out.size _)
          have W5 : Hid (Whole w5 w.heap.size 41 (valA v0)) := Lib.hid (hw5' ▸ (W3.out.bel hB4).alloc _)
          have hlt := Lib.hid (W3.out.bel hB4).lt
          obtain ⟨g4, hg4⟩ : ∃ q, w4.heap.size = q := ⟨_, rfl⟩
          have N5 : Hid (Whole w5 g4 41 (valA x)) := Lib.hid (hw5' ▸ hg4 ▸ Whole.new w4 41 _)
          rw [hg4] at hw5 Z4
          have hne : Hid (w.heap.size ≠ g4 ∧ w.heap.size ≤ g4) := Lib.hid (by have := hlt.out; omega)
          have k0 : w5.cell? ⟨g4, 0, none⟩ = some (.int .i64 x.tag) := N5.out.cell 0
          have k1 := N5.out.frozen 0
          have N6 : Hid (Whole (w5.setCell ⟨g4, 0, none⟩ (.int .i64 r.tag)) g4 41 (valA ⟨r.tag, x.text, x.bits, x.cls, x.name, x.desc⟩)) := Lib.hid (N5.out.put 0 (.int .i64 r.tag))
          have W6 : Hid (Whole (w5.setCell ⟨g4, 0, none⟩ (.int .i64 r.tag)) w.heap.size 41 (valA v0)) := Lib.hid (W5.out.far (p := ⟨g4, 0, none⟩) hne.out.1 _)
          have B6 := Lib.hid (B5.out.setCell (p := ⟨g4, 0, none⟩) hne.out.2 (.int .i64 r.tag))
          clear hB4 hw5'
          cases bo
          · go_wp2_with (first | (refine wpList_store_row rfl 41 (.tmp 10) (.tmp 57) rfl g4 (valA x) rfl rfl 41 (valA v0) Z4.out rfl rfl (val_one _) ?_) | (refine wpList_store_row rfl 41 (.tmp 6) (.tmp 61) rfl w.heap.size (valA v0) rfl rfl 41 (valA v0) W5.out rfl rfl (val_one _) ?_))
            rw [if_neg (by decide)] at hR
            subst hR
            refine bodyPost_ret (results_val (p := 6) (u := 7) rfl _ _ w.heap.size v0 rfl (W5.out.setRow _)) rfl ?_
            exact ⟨rfl, below_setRow B5.out (Nat.le_refl _) _⟩
          · go_wp2_with (first | (refine wpList_store_row rfl 41 (.tmp 10) (.tmp 57) rfl g4 (valA x) rfl rfl 41 (valA v0) Z4.out rfl rfl (val_one _) ?_) | (refine wpList_load_row rfl 41 (.tmp 10) rfl g4 rfl 41 (valA ⟨r.tag, x.text, x.bits, x.cls, x.name, x.desc⟩) (0, 0) _ N6.out Try.underlying41 rfl rfl ?_) | (refine wpList_store_row rfl 41 (.tmp 6) (.tmp 64) rfl w.heap.size (valA ⟨r.tag, x.text, x.bits, x.cls, x.name, x.desc⟩) rfl rfl 41 (valA v0) W6.out rfl rfl (val_one _) ?_))
            rw [if_pos trivial] at hR
            subst hR
            refine bodyPost_ret (results_val (p := 6) (u := 7) rfl _ _ w.heap.size ⟨r.tag, x.text, x.bits, x.cls, x.name, x.desc⟩ rfl (W6.out.setRow _)) rfl ?_
            exact ⟨rfl, below_setRow B6.out (Nat.le_refl _) _⟩
      · rw [HV.out] at e
        subst e
        have CON := Lib.hid (show Calls Try.prog 79 #[.agg #[.int .u64 r.bits, .int .i64 4], .slice (some ⟨b, o, none⟩) n c] w3 (ValRes w3 (worth l r).1 (worth l r).2) by
          unfold worth; rw [if_neg (by omega), if_pos (by omega)]; exact vNum_any r.bits 4 _ w3)
        generalize worth l r = xb at CON hR
        obtain ⟨x, bo⟩ := xb
        simp only at CON hR
        have HH := Lib.hid h
        clear h hB3
        cases z
        · go_wp2_with fail
          refine CON.out.mono ?_
          rintro e w4 ⟨he, hB4⟩
          replace he : e = .returned (.tuple #[.agg #[.int .i64 x.tag, .string x.text, .int .u64 x.bits, .string x.cls, .string x.name, .string x.desc], .bool bo]) := he
          subst he
          obtain ⟨w5, hw5⟩ : ∃ W, (w4.alloc (.cells #[.int .i64 0, .string ⟨#[]⟩, .int .u64 0, .string ⟨#[]⟩, .string ⟨#[]⟩, .string ⟨#[]⟩] 41)).setRow w4.heap.size (valA x) = W := ⟨_, rfl⟩
          have hw5' : w4.alloc (.cells (valA x) 41) = w5 := by rw [← hw5]; exact (World.setRow_alloc_new w4 _ _ _).symm
          have Z4 := Lib.hid (Whole.new w4 41 #[.int .i64 0, .string ⟨#[]⟩, .int .u64 0, .string ⟨#[]⟩, .string ⟨#[]⟩, .string ⟨#[]⟩])
          have B4 := Lib.hid (B3.out.trans (hB4.mono B3.out.size))
          have B5 : Hid (Below w.heap.size w w5) := Lib.hid (hw5' ▸ B4.out.alloc B4.out.size _)
          have W5 : Hid (Whole w5 w.heap.size 41 (valA v0)) := Lib.hid (hw5' ▸ (W3.out.bel hB4).alloc _)
          have hlt := Lib.hid (W3.out.bel hB4).lt
          obtain ⟨g4, hg4⟩ : ∃ q, w4.heap.size = q := ⟨_, rfl⟩
          have N5 : Hid (Whole w5 g4 41 (valA x)) := Lib.hid (hw5' ▸ hg4 ▸ Whole.new w4 41 _)
          rw [hg4] at hw5 Z4
          have hne : Hid (w.heap.size ≠ g4 ∧ w.heap.size ≤ g4) := Lib.hid (by have := hlt.out; omega)
          have k0 : w5.cell? ⟨g4, 0, none⟩ = some (.int .i64 x.tag) := N5.out.cell 0
          have k1 := N5.out.frozen 0
          have N6 : Hid (Whole (w5.setCell ⟨g4, 0, none⟩ (.int .i64 r.tag)) g4 41 (valA ⟨r.tag, x.text, x.bits, x.cls, x.name, x.desc⟩)) := Lib.hid (N5.out.put 0 (.int .i64 r.tag))
          have W6 : Hid (Whole (w5.setCell ⟨g4, 0, none⟩ (.int .i64 r.tag)) w.heap.size 41 (valA v0)) := Lib.hid (W5.out.far (p := ⟨g4, 0, none⟩) hne.out.1 _)
          have B6 := Lib.hid (B5.out.setCell (p := ⟨g4, 0, none⟩) hne.out.2 (.int .i64 r.tag))
          clear hB4 hw5'
          cases bo
          · go_wp2_with (first | (refine wpList_store_row rfl 41 (.tmp 10) (.tmp 57) rfl g4 (valA x) rfl rfl 41 (valA v0) Z4.out rfl rfl (val_one _) ?_) | (refine wpList_store_row rfl 41 (.tmp 6) (.tmp 61) rfl w.heap.size (valA v0) rfl rfl 41 (valA v0) W5.out rfl rfl (val_one _) ?_))
            rw [if_neg (by decide)] at hR
            subst hR
            refine bodyPost_ret (results_val (p := 6) (u := 7) rfl _ _ w.heap.size v0 rfl (W5.out.setRow _)) rfl ?_
            exact ⟨rfl, below_setRow B5.out (Nat.le_refl _) _⟩
          · go_wp2_with (first | (refine wpList_store_row rfl 41 (.tmp 10) (.tmp 57) rfl g4 (valA x) rfl rfl 41 (valA v0) Z4.out rfl rfl (val_one _) ?_) | (refine wpList_load_row rfl 41 (.tmp 10) rfl g4 rfl 41 (valA ⟨r.tag, x.text, x.bits, x.cls, x.name, x.desc⟩) (0, 0) _ N6.out Try.underlying41 rfl rfl ?_) | (refine wpList_store_row rfl 41 (.tmp 6) (.tmp 64) rfl w.heap.size (valA ⟨r.tag, x.text, x.bits, x.cls, x.name, x.desc⟩) rfl rfl 41 (valA v0) W6.out rfl rfl (val_one _) ?_))
            rw [if_pos trivial] at hR
            subst hR
            refine bodyPost_ret (results_val (p := 6) (u := 7) rfl _ _ w.heap.size ⟨r.tag, x.text, x.bits, x.cls, x.name, x.desc⟩ rfl (W6.out.setRow _)) rfl ?_
            exact ⟨rfl, below_setRow B6.out (Nat.le_refl _) _⟩
        · rw [HQ.out rfl] at CT
          go_wp2_with (go_at_call 40; refine CT.out.mono ?_; rintro e w40 ⟨rfl, rfl⟩)
          refine CON.out.mono ?_
          rintro e w4 ⟨he, hB4⟩
          replace he : e = .returned (.tuple #[.agg #[.int .i64 x.tag, .string x.text, .int .u64 x.bits, .string x.cls, .string x.name, .string x.desc], .bool bo]) := he
          subst he
          obtain ⟨w5, hw5⟩ : ∃ W, (w4.alloc (.cells #[.int .i64 0, .string ⟨#[]⟩, .int .u64 0, .string ⟨#[]⟩, .string ⟨#[]⟩, .string ⟨#[]⟩] 41)).setRow w4.heap.size (valA x) = W := ⟨_, rfl⟩
          have hw5' : w4.alloc (.cells (valA x) 41) = w5 := by rw [← hw5]; exact (World.setRow_alloc_new w4 _ _ _).symm
          have Z4 := Lib.hid (Whole.new w4 41 #[.int .i64 0, .string ⟨#[]⟩, .int .u64 0, .string ⟨#[]⟩, .string ⟨#[]⟩, .string ⟨#[]⟩])
          have B4 := Lib.hid (B3.out.trans (hB4.mono B3.out.size))
          have B5 : Hid (Below w.heap.size w w5) := Lib.hid (hw5' ▸ B4.out.alloc B4.out.size _)
          have W5 : Hid (Whole w5 w.heap.size 41 (valA v0)) := Lib.hid (hw5' ▸ (W3.out.bel hB4).alloc _)
          have hlt := Lib.hid (W3.out.bel hB4).lt
          obtain ⟨g4, hg4⟩ : ∃ q, w4.heap.size = q := ⟨_, rfl⟩
          have N5 : Hid (Whole w5 g4 41 (valA x)) := Lib.hid (hw5' ▸ hg4 ▸ Whole.new w4 41 _)
          rw [hg4] at hw5 Z4
          have hne : Hid (w.heap.size ≠ g4 ∧ w.heap.size ≤ g4) := Lib.hid (by have := hlt.out; omega)
          have k0 : w5.cell? ⟨g4, 0, none⟩ = some (.int .i64 x.tag) := N5.out.cell 0
          have k1 := N5.out.frozen 0
          have N6 : Hid (Whole (w5.setCell ⟨g4, 0, none⟩ (.int .i64 r.tag)) g4 41 (valA ⟨r.tag, x.text, x.bits, x.cls, x.name, x.desc⟩)) := Lib.hid (N5.out.put 0 (.int .i64 r.tag))
          have W6 : Hid (Whole (w5.setCell ⟨g4, 0, none⟩ (.int .i64 r.tag)) w.heap.size 41 (valA v0)) := Lib.hid (W5.out.far (p := ⟨g4, 0, none⟩) hne.out.1 _)
          have B6 := Lib.hid (B5.out.setCell (p := ⟨g4, 0, none⟩) hne.out.2 (.int .i64 r.tag))
          clear hB4 hw5'
          cases bo
          · go_wp2_with (first | (refine wpList_store_row rfl 41 (.tmp 10) (.tmp 57) rfl g4 (valA x) rfl rfl 41 (valA v0) Z4.out rfl rfl (val_one _) ?_) | (refine wpList_store_row rfl 41 (.tmp 6) (.tmp 61) rfl w.heap.size (valA v0) rfl rfl 41 (valA v0) W5.out rfl rfl (val_one _) ?_))
            rw [if_neg (by decide)] at hR
            subst hR
            refine bodyPost_ret (results_val (p := 6) (u := 7) rfl _ _ w.heap.size v0 rfl (W5.out.setRow _)) rfl ?_
            exact ⟨rfl, below_setRow B5.out (Nat.le_refl _) _⟩
          · go_wp2_with (first | (refine wpList_store_row rfl 41 (.tmp 10) (.tmp 57) rfl g4 (valA x) rfl rfl 41 (valA v0) Z4.out rfl rfl (val_one _) ?_) | (refine wpList_load_row rfl 41 (.tmp 10) rfl g4 rfl 41 (valA ⟨r.tag, x.text, x.bits, x.cls, x.name, x.desc⟩) (0, 0) _ N6.out Try.underlying41 rfl rfl ?_) | (refine wpList_store_row rfl 41 (.tmp 6) (.tmp 64) rfl w.heap.size (valA ⟨r.tag, x.text, x.bits, x.cls, x.name, x.desc⟩) rfl rfl 41 (valA v0) W6.out rfl rfl (val_one _) ?_))
            rw [if_pos trivial] at hR
            subst hR
            refine bodyPost_ret (results_val (p := 6) (u := 7) rfl _ _ w.heap.size ⟨r.tag, x.text, x.bits, x.cls, x.name, x.desc⟩ rfl (W6.out.setRow _)) rfl ?_
            exact ⟨rfl, below_setRow B6.out (Nat.le_refl _) _⟩
      · rw [HV.out] at e
        subst e
        have CON := Lib.hid (show Calls Try.prog 79 #[.agg #[.int .u64 r.bits, .int .i64 8], .slice (some ⟨b, o, none⟩) n c] w3 (ValRes w3 (worth l r).1 (worth l r).2) by
          unfold worth; rw [if_neg (by omega), if_pos (by omega)]; exact vNum_any r.bits 8 _ w3)
        generalize worth l r = xb at CON hR
        obtain ⟨x, bo⟩ := xb
        simp only at CON hR
        have HH := Lib.hid h
        clear h hB3
        cases z
        · go_wp2_with fail
          refine CON.out.mono ?_
          rintro e w4 ⟨he, hB4⟩
          replace he : e = .returned (.tuple #[.agg #[.int .i64 x.tag, .string x.text, .int .u64 x.bits, .string x.cls, .string x.name, .string x.desc], .bool bo]) := he
          subst he
          obtain ⟨w5, hw5⟩ : ∃ W, (w4.alloc (.cells #[.int .i64 0, .string ⟨#[]⟩, .int .u64 0, .string ⟨#[]⟩, .string ⟨#[]⟩, .string ⟨#[]⟩] 41)).setRow w4.heap.size (valA x) = W := ⟨_, rfl⟩
          have hw5' : w4.alloc (.cells (valA x) 41) = w5 := by rw [← hw5]; exact (World.setRow_alloc_new w4 _ _ _).symm
          have Z4 := Lib.hid (Whole.new w4 41 #[.int .i64 0, .string ⟨#[]⟩, .int .u64 0, .string ⟨#[]⟩, .string ⟨#[]⟩, .string ⟨#[]⟩])
          have B4 := Lib.hid (B3.out.trans (hB4.mono B3.out.size))
          have B5 : Hid (Below w.heap.size w w5) := Lib.hid (hw5' ▸ B4.out.alloc B4.out.size _)
          have W5 : Hid (Whole w5 w.heap.size 41 (valA v0)) := Lib.hid (hw5' ▸ (W3.out.bel hB4).alloc _)
          have hlt := Lib.hid (W3.out.bel hB4).lt
          obtain ⟨g4, hg4⟩ : ∃ q, w4.heap.size = q := ⟨_, rfl⟩
          have N5 : Hid (Whole w5 g4 41 (valA x)) := Lib.hid (hw5' ▸ hg4 ▸ Whole.new w4 41 _)
          rw [hg4] at hw5 Z4
          have hne : Hid (w.heap.size ≠ g4 ∧ w.heap.size ≤ g4) := Lib.hid (by have := hlt.out; omega)
          have k0 : w5.cell? ⟨g4, 0, none⟩ = some (.int .i64 x.tag) := N5.out.cell 0
          have k1 := N5.out.frozen 0
          have N6 : Hid (Whole (w5.setCell ⟨g4, 0, none⟩ (.int .i64 r.tag)) g4 41 (valA ⟨r.tag, x.text, x.bits, x.cls, x.name, x.desc⟩)) := Lib.hid (N5.out.put 0 (.int .i64 r.tag))
          have W6 : Hid (Whole (w5.setCell ⟨g4, 0, none⟩ (.int .i64 r.tag)) w.heap.size 41 (valA v0)) := Lib.hid (W5.out.far (p := ⟨g4, 0, none⟩) hne.out.1 _)
          have B6 := Lib.hid (B5.out.setCell (p := ⟨g4, 0, none⟩) hne.out.2 (.int .i64 r.tag))
          clear hB4 hw5'
          cases bo
          · go_wp2_with (first | (refine wpList_store_row rfl 41 (.tmp 10) (.tmp 57) rfl g4 (valA x) rfl rfl 41 (valA v0) Z4.out rfl rfl (val_one _) ?_) | (refine wpList_store_row rfl 41 (.tmp 6) (.tmp 61) rfl w.heap.size (valA v0) rfl rfl 41 (valA v0) W5.out rfl rfl (val_one _) ?_))
            rw [if_neg (by decide)] at hR
            subst hR
            refine bodyPost_ret (results_val (p := 6) (u := 7) rfl _ _ w.heap.size v0 rfl (W5.out.setRow _)) rfl ?_
            exact ⟨rfl, below_setRow B5.out (Nat.le_refl _) _⟩
          · go_wp2_with (first | (refine wpList_store_row rfl 41 (.tmp 10) (.tmp 57) rfl g4 (valA x) rfl rfl 41 (valA v0) Z4.out rfl rfl (val_one _) ?_) | (refine wpList_load_row rfl 41 (.tmp 10) rfl g4 rfl 41 (valA ⟨r.tag, x.text, x.bits, x.cls, x.name, x.desc⟩) (0, 0) _ N6.out Try.underlying41 rfl rfl ?_) | (refine wpList_store_row rfl 41 (.tmp 6) (.tmp 64) rfl w.heap.size (valA ⟨r.tag, x.text, x.bits, x.cls, x.name, x.desc⟩) rfl rfl 41 (valA v0) W6.out rfl rfl (val_one _) ?_))
            rw [if_pos trivial] at hR
            subst hR
            refine bodyPost_ret (results_val (p := 6) (u := 7) rfl _ _ w.heap.size ⟨r.tag, x.text, x.bits, x.cls, x.name, x.desc⟩ rfl (W6.out.setRow _)) rfl ?_
            exact ⟨rfl, below_setRow B6.out (Nat.le_refl _) _⟩
        · rw [HQ.out rfl] at CT
          go_wp2_with (go_at_call 40; refine CT.out.mono ?_; rintro e w40 ⟨rfl, rfl⟩)
          refine CON.out.mono ?_
          rintro e w4 ⟨he, hB4⟩
          replace he : e = .returned (.tuple #[.agg #[.int .i64 x.tag, .string x.text, .int .u64 x.bits, .string x.cls, .string x.name, .string x.desc], .bool bo]) := he
          subst he
          obtain ⟨w5, hw5⟩ : ∃ W, (w4.alloc (.cells #[.int .i64 0, .string ⟨#[]⟩, .int .u64 0, .string ⟨#[]⟩, .string ⟨#[]⟩, .string ⟨#[]⟩] 41)).setRow w4.heap.size (valA x) = W := ⟨_, rfl⟩
          have hw5' : w4.alloc (.cells (valA x) 41) = w5 := by rw [← hw5]; exact (World.setRow_alloc_new w4 _ _ _).symm
          have Z4 := Lib.hid (Whole.new w4 41 #[.int .i64 0, .string ⟨#[]⟩, .int .u64 0, .string ⟨#[]⟩, .string ⟨#[]⟩, .string ⟨#[]⟩])
          have B4 := Lib.hid (B3.out.trans (hB4.mono B3.out.size))
          have B5 : Hid (Below w.heap.size w w5) := Lib.hid (hw5' ▸ B4.out.alloc B4.out.size _)
          have W5 : Hid (Whole w5 w.heap.size 41 (valA v0)) := Lib.hid (hw5' ▸ (W3.out.bel hB4).alloc _)
          have hlt := Lib.hid (W3.out.bel hB4).lt
          obtain ⟨g4, hg4⟩ : ∃ q, w4.heap.size = q := ⟨_, rfl⟩
          have N5 : Hid (Whole w5 g4 41 (valA x)) := Lib.hid (hw5' ▸ hg4 ▸ Whole.new w4 41 _)
          rw [hg4] at hw5 Z4
          have hne : Hid (w.heap.size ≠ g4 ∧ w.heap.size ≤ g4) := Lib.hid (by have := hlt.out; omega)
          have k0 : w5.cell? ⟨g4, 0, none⟩ = some (.int .i64 x.tag) := N5.out.cell 0
          have k1 := N5.out.frozen 0
          have N6 : Hid (Whole (w5.setCell ⟨g4, 0, none⟩ (.int .i64 r.tag)) g4 41 (valA ⟨r.tag, x.text, x.bits, x.cls, x.name, x.desc⟩)) := Lib.hid (N5.out.put 0 (.int .i64 r.tag))
          have W6 : Hid (Whole (w5.setCell ⟨g4, 0, none⟩ (.int .i64 r.tag)) w.heap.size 41 (valA v0)) := Lib.hid (W5.out.far (p := ⟨g4, 0, none⟩) hne.out.1 _)
          have B6 := Lib.hid (B5.out.setCell (p := ⟨g4, 0, none⟩) hne.out.2 (.int .i64 r.tag))
          clear hB4 hw5'
          cases bo
          · go_wp2_with (first | (refine wpList_store_row rfl 41 (.tmp 10) (.tmp 57) rfl g4 (valA x) rfl rfl 41 (valA v0) Z4.out rfl rfl (val_one _) ?_) | (refine wpList_store_row rfl 41 (.tmp 6) (.tmp 61) rfl w.heap.size (valA v0) rfl rfl 41 (valA v0) W5.out rfl rfl (val_one _) ?_))
            rw [if_neg (by decide)] at hR
            subst hR
            refine bodyPost_ret (results_val (p := 6) (u := 7) rfl _ _ w.heap.size v0 rfl (W5.out.setRow _)) rfl ?_
            exact ⟨rfl, below_setRow B5.out (Nat.le_refl _) _⟩
          · go_wp2_with (first | (refine wpList_store_row rfl 41 (.tmp 10) (.tmp 57) rfl g4 (valA x) rfl rfl 41 (valA v0) Z4.out rfl rfl (val_one _) ?_) | (refine wpList_load_row rfl 41 (.tmp 10) rfl g4 rfl 41 (valA ⟨r.tag, x.text, x.bits, x.cls, x.name, x.desc⟩) (0, 0) _ N6.out Try.underlying41 rfl rfl ?_) | (refine wpList_store_row rfl 41 (.tmp 6) (.tmp 64) rfl w.heap.size (valA ⟨r.tag, x.text, x.bits, x.cls, x.name, x.desc⟩) rfl rfl 41 (valA v0) W6.out rfl rfl (val_one _) ?_))
            rw [if_pos trivial] at hR
            subst hR
            refine bodyPost_ret (results_val (p := 6) (u := 7) rfl _ _ w.heap.size ⟨r.tag, x.text, x.bits, x.cls, x.name, x.desc⟩ rfl (W6.out.setRow _)) rfl ?_
            exact ⟨rfl, below_setRow B6.out (Nat.le_refl _) _⟩
      · rw [HV.out] at e
        subst e
        have CON := Lib.hid (show Calls Try.prog 81 #[.agg #[.int .i64 r.a], .slice (some ⟨b, o, none⟩) n c] w3 (ValRes w3 (worth l r).1 (worth l r).2) by
          unfold worth; rw [if_neg (by omega), if_neg (by omega), if_pos (by omega)]; exact vOf_any l _ n c B r.a hn H.out.2.2 w3 HSA.out hB3)
        generalize worth l r = xb at CON hR
        obtain ⟨x, bo⟩ := xb
        simp only at CON hR
        have HH := Lib.hid h
        clear h hB3
        cases z
        · go_wp2_with fail
          refine CON.out.mono ?_
          rintro e w4 ⟨he, hB4⟩
          replace he : e = .returned (.tuple #[.agg #[.int .i64 x.tag, .string x.text, .int .u64 x.bits, .string x.cls, .string x.name, .string x.desc], .bool bo]) := he
          subst he
          obtain ⟨w5, hw5⟩ : ∃ W, (w4.alloc (.cells #[.int .i64 0, .string ⟨#[]⟩, .int .u64 0, .string ⟨#[]⟩, .string ⟨#[]⟩, .string ⟨#[]⟩] 41)).setRow w4.heap.size (valA x) = W := ⟨_, rfl⟩
          have hw5' : w4.alloc (.cells (valA x) 41) = w5 := by rw [← hw5]; exact (World.setRow_alloc_new w4 _ _ _).symm
          have Z4 := Lib.hid (Whole.new w4 41 #[.int .i64 0, .string ⟨#[]⟩, .int .u64 0, .string ⟨#[]⟩, .string ⟨#[]⟩, .string ⟨#[]⟩])
          have B4 := Lib.hid (B3.out.trans (hB4.mono B3.out.size))
          have B5 : Hid (Below w.heap.size w w5) := Lib.hid (hw5' ▸ B4.out.alloc B4.out.size _)
          have W5 : Hid (Whole w5 w.heap.size 41 (valA v0)) := Lib.hid (hw5' ▸ (W3.out.bel hB4).alloc _)
          have hlt := Lib.hid (W3.out.bel hB4).lt
          obtain ⟨g4, hg4⟩ : ∃ q, w4.heap.size = q := ⟨_, rfl⟩
          have N5 : Hid (Whole w5 g4 41 (valA x)) := Lib.hid (hw5' ▸ hg4 ▸ Whole.new w4 41 _)
          rw [hg4] at hw5 Z4
          have hne : Hid (w.heap.size ≠ g4 ∧ w.heap.size ≤ g4) := Lib.hid (by have := hlt.out; omega)
          have k0 : w5.cell? ⟨g4, 0, none⟩ = some (.int .i64 x.tag) := N5.out.cell 0
          have k1 := N5.out.frozen 0
          have N6 : Hid (Whole (w5.setCell ⟨g4, 0, none⟩ (.int .i64 r.tag)) g4 41 (valA ⟨r.tag, x.text, x.bits, x.cls, x.name, x.desc⟩)) := Lib.hid (N5.out.put 0 (.int .i64 r.tag))
          have W6 : Hid (Whole (w5.setCell ⟨g4, 0, none⟩ (.int .i64 r.tag)) w.heap.size 41 (valA v0)) := Lib.hid (W5.out.far (p := ⟨g4, 0, none⟩) hne.out.1 _)
          have B6 := Lib.hid (B5.out.setCell (p := ⟨g4, 0, none⟩) hne.out.2 (.int .i64 r.tag))
          clear hB4 hw5'
          cases bo
          · go_wp2_with (first | (refine wpList_store_row rfl 41 (.tmp 10) (.tmp 57) rfl g4 (valA x) rfl rfl 41 (valA v0) Z4.out rfl rfl (val_one _) ?_) | (refine wpList_store_row rfl 41 (.tmp 6) (.tmp 61) rfl w.heap.size (valA v0) rfl rfl 41 (valA v0) W5.out rfl rfl (val_one _) ?_))
            rw [if_neg (by decide)] at hR
            subst hR
            refine bodyPost_ret (results_val (p := 6) (u := 7) rfl _ _ w.heap.size v0 rfl (W5.out.setRow _)) rfl ?_
            exact ⟨rfl, below_setRow B5.out (Nat.le_refl _) _⟩
          · go_wp2_with (first | (refine wpList_store_row rfl 41 (.tmp 10) (.tmp 57) rfl g4 (valA x) rfl rfl 41 (valA v0) Z4.out rfl rfl (val_one _) ?_) | (refine wpList_load_row rfl 41 (.tmp 10) rfl g4 rfl 41 (valA ⟨r.tag, x.text, x.bits, x.cls, x.name, x.desc⟩) (0, 0) _ N6.out Try.underlying41 rfl rfl ?_) | (refine wpList_store_row rfl 41 (.tmp 6) (.tmp 64) rfl w.heap.size (valA ⟨r.tag, x.text, x.bits, x.cls, x.name, x.desc⟩) rfl rfl 41 (valA v0) W6.out rfl rfl (val_one _) ?_))
            rw [if_pos trivial] at hR
            subst hR
            refine bodyPost_ret (results_val (p := 6) (u := 7) rfl _ _ w.heap.size ⟨r.tag, x.text, x.bits, x.cls, x.name, x.desc⟩ rfl (W6.out.setRow _)) rfl ?_
            exact ⟨rfl, below_setRow B6.out (Nat.le_refl _) _⟩
        · rw [HQ.out rfl] at CT
          go_wp2_with (go_at_call 40; refine CT.out.mono ?_; rintro e w40 ⟨rfl, rfl⟩)
          refine CON.out.mono ?_
          rintro e w4 ⟨he, hB4⟩
          replace he : e = .returned (.tuple #[.agg #[.int .i64 x.tag, .string x.text, .int .u64 x.bits, .string x.cls, .string x.name, .string x.desc], .bool bo]) := he
          subst he
          obtain ⟨w5, hw5⟩ : ∃ W, (w4.alloc (.cells #[.int .i64 0, .string ⟨#[]⟩, .int .u64 0, .string ⟨#[]⟩, .string ⟨#[]⟩, .string ⟨#[]⟩] 41)).setRow w4.heap.size (valA x) = W := ⟨_, rfl⟩
          have hw5' : w4.alloc (.cells (valA x) 41) = w5 := by rw [← hw5]; exact (World.setRow_alloc_new w4 _ _ _).symm
          have Z4 := Lib.hid (Whole.new w4 41 #[.int .i64 0, .string ⟨#[]⟩, .int .u64 0, .string ⟨#[]⟩, .string ⟨#[]⟩, .string ⟨#[]⟩])
          have B4 := Lib.hid (B3.out.trans (hB4.mono B3.out.size))
          have B5 : Hid (Below w.heap.size w w5) := Lib.hid (hw5' ▸ B4.out.alloc B4.out.size _)
          have W5 : Hid (Whole w5 w.heap.size 41 (valA v0)) := Lib.hid (hw5' ▸ (W3.out.bel hB4).alloc _)
          have hlt := Lib.hid (W3.out.bel hB4).lt
          obtain ⟨g4, hg4⟩ : ∃ q, w4.heap.size = q := ⟨_, rfl⟩
          have N5 : Hid (Whole w5 g4 41 (valA x)) := Lib.hid (hw5' ▸ hg4 ▸ Whole.new w4 41 _)
          rw [hg4] at hw5 Z4
          have hne : Hid (w.heap.size ≠ g4 ∧ w.heap.size ≤ g4) := Lib.hid (by have := hlt.out; omega)
          have k0 : w5.cell? ⟨g4, 0, none⟩ = some (.int .i64 x.tag) := N5.out.cell 0
          have k1 := N5.out.frozen 0
          have N6 : Hid (Whole (w5.setCell ⟨g4, 0, none⟩ (.int .i64 r.tag)) g4 41 (valA ⟨r.tag, x.text, x.bits, x.cls, x.name, x.desc⟩)) := Lib.hid (N5.out.put 0 (.int .i64 r.tag))
          have W6 : Hid (Whole (w5.setCell ⟨g4, 0, none⟩ (.int .i64 r.tag)) w.heap.size 41 (valA v0)) := Lib.hid (W5.out.far (p := ⟨g4, 0, none⟩) hne.out.1 _)
          have B6 := Lib.hid (B5.out.setCell (p := ⟨g4, 0, none⟩) hne.out.2 (.int .i64 r.tag))
          clear hB4 hw5'
          cases bo
          · go_wp2_with (first | (refine wpList_store_row rfl 41 (.tmp 10) (.tmp 57) rfl g4 (valA x) rfl rfl 41 (valA v0) Z4.out rfl rfl (val_one _) ?_) | (refine wpList_store_row rfl 41 (.tmp 6) (.tmp 61) rfl w.heap.size (valA v0) rfl rfl 41 (valA v0) W5.out rfl rfl (val_one _) ?_))
            rw [if_neg (by decide)] at hR
            subst hR
            refine bodyPost_ret (results_val (p := 6) (u := 7) rfl _ _ w.heap.size v0 rfl (W5.out.setRow _)) rfl ?_
            exact ⟨rfl, below_setRow B5.out (Nat.le_refl _) _⟩
          · go_wp2_with (first | (refine wpList_store_row rfl 41 (.tmp 10) (.tmp 57) rfl g4 (valA x) rfl rfl 41 (valA v0) Z4.out rfl rfl (val_one _) ?_) | (refine wpList_load_row rfl 41 (.tmp 10) rfl g4 rfl 41 (valA ⟨r.tag, x.text, x.bits, x.cls, x.name, x.desc⟩) (0, 0) _ N6.out Try.underlying41 rfl rfl ?_) | (refine wpList_store_row rfl 41 (.tmp 6) (.tmp 64) rfl w.heap.size (valA ⟨r.tag, x.text, x.bits, x.cls, x.name, x.desc⟩) rfl rfl 41 (valA v0) W6.out rfl rfl (val_one _) ?_))
            rw [if_pos trivial] at hR
            subst hR
            refine bodyPost_ret (results_val (p := 6) (u := 7) rfl _ _ w.heap.size ⟨r.tag, x.text, x.bits, x.cls, x.name, x.desc⟩ rfl (W6.out.setRow _)) rfl ?_
            exact ⟨rfl, below_setRow B6.out (Nat.le_refl _) _⟩
      · rw [HV.out] at e
        subst e
        have CON := Lib.hid (show Calls Try.prog 81 #[.agg #[.int .i64 r.a], .slice (some ⟨b, o, none⟩) n c] w3 (ValRes w3 (worth l r).1 (worth l r).2) by
          unfold worth; rw [if_neg (by omega), if_neg (by omega), if_pos (by omega)]; exact vOf_any l _ n c B r.a hn H.out.2.2 w3 HSA.out hB3)
        generalize worth l r = xb at CON hR
        obtain ⟨x, bo⟩ := xb
        simp only at CON hR
        have HH := Lib.hid h
        clear h hB3
        cases z
        · go_wp2_with fail
          refine CON.out.mono ?_
          rintro e w4 ⟨he, hB4⟩
          replace he : e = .returned (.tuple #[.agg #[.int .i64 x.tag, .string x.text, .int .u64 x.bits, .string x.cls, .string x.name, .string x.desc], .bool bo]) := he
          subst he
          obtain ⟨w5, hw5⟩ : ∃ W, (w4.alloc (.cells #[.int .i64 0, .string ⟨#[]⟩, .int .u64 0, .string ⟨#[]⟩, .string ⟨#[]⟩, .string ⟨#[]⟩] 41)).setRow w4.heap.size (valA x) = W := ⟨_, rfl⟩
          have hw5' : w4.alloc (.cells (valA x) 41) = w5 := by rw [← hw5]; exact (World.setRow_alloc_new w4 _ _ _).symm
          have Z4 := Lib.hid (Whole.new w4 41 #[.int .i64 0, .string ⟨#[]⟩, .int .u64 0, .string ⟨#[]⟩, .string ⟨#[]⟩, .string ⟨#[]⟩])
          have B4 := Lib.hid (B3.out.trans (hB4.mono B3.out.size))
          have B5 : Hid (Below w.heap.size w w5) := Lib.hid (hw5' ▸ B4.out.alloc B4.out.size _)
          have W5 : Hid (Whole w5 w.heap.size 41 (valA v0)) := Lib.hid (hw5' ▸ (W3.out.bel hB4).alloc _)
          have hlt := Lib.hid (W3.out.bel hB4).lt
          obtain ⟨g4, hg4⟩ : ∃ q, w4.heap.size = q := ⟨_, rfl⟩
          have N5 : Hid (Whole w5 g4 41 (valA x)) := Lib.hid (hw5' ▸ hg4 ▸ Whole.new w4 41 _)
          rw [hg4] at hw5 Z4
          have hne : Hid (w.heap.size ≠ g4 ∧ w.heap.size ≤ g4) := Lib.hid (by have := hlt.out; omega)
          have k0 : w5.cell? ⟨g4, 0, none⟩ = some (.int .i64 x.tag) := N5.out.cell 0
          have k1 := N5.out.frozen 0
          have N6 : Hid (Whole (w5.setCell ⟨g4, 0, none⟩ (.int .i64 r.tag)) g4 41 (valA ⟨r.tag, x.text, x.bits, x.cls, x.name, x.desc⟩)) := Lib.hid (N5.out.put 0 (.int .i64 r.tag))
          have W6 : Hid (Whole (w5.setCell ⟨g4, 0, none⟩ (.int .i64 r.tag)) w.heap.size 41 (valA v0)) := Lib.hid (W5.out.far (p := ⟨g4, 0, none⟩) hne.out.1 _)
          have B6 := Lib.hid (B5.out.setCell (p := ⟨g4, 0, none⟩) hne.out.2 (.int .i64 r.tag))
          clear hB4 hw5'
          cases bo
          · go_wp2_with (first | (refine wpList_store_row rfl 41 (.tmp 10) (.tmp 57) rfl g4 (valA x) rfl rfl 41 (valA v0) Z4.out rfl rfl (val_one _) ?_) | (refine wpList_store_row rfl 41 (.tmp 6) (.tmp 61) rfl w.heap.size (valA v0) rfl rfl 41 (valA v0) W5.out rfl rfl (val_one _) ?_))
            rw [if_neg (by decide)] at hR
            subst hR
            refine bodyPost_ret (results_val (p := 6) (u := 7) rfl _ _ w.heap.size v0 rfl (W5.out.setRow _)) rfl ?_
            exact ⟨rfl, below_setRow B5.out (Nat.le_refl _) _⟩
          · go_wp2_with (first | (refine wpList_store_row rfl 41 (.tmp 10) (.tmp 57) rfl g4 (valA x) rfl rfl 41 (valA v0) Z4.out rfl rfl (val_one _) ?_) | (refine wpList_load_row rfl 41 (.tmp 10) rfl g4 rfl 41 (valA ⟨r.tag, x.text, x.bits, x.cls, x.name, x.desc⟩) (0, 0) _ N6.out Try.underlying41 rfl rfl ?_) | (refine wpList_store_row rfl 41 (.tmp 6) (.tmp 64) rfl w.heap.size (valA ⟨r.tag, x.text, x.bits, x.cls, x.name, x.desc⟩) rfl rfl 41 (valA v0) W6.out rfl rfl (val_one _) ?_))
            rw [if_pos trivial] at hR
            subst hR
            refine bodyPost_ret (results_val (p := 6) (u := 7) rfl _ _ w.heap.size ⟨r.tag, x.text, x.bits, x.cls, x.name, x.desc⟩ rfl (W6.out.setRow _)) rfl ?_
            exact ⟨rfl, below_setRow B6.out (Nat.le_refl _) _⟩
        · rw [HQ.out rfl] at CT
          go_wp2_with (go_at_call 40; refine CT.out.mono ?_; rintro e w40 ⟨rfl, rfl⟩)
          refine CON.out.mono ?_
          rintro e w4 ⟨he, hB4⟩
          replace he : e = .returned (.tuple #[.agg #[.int .i64 x.tag, .string x.text, .int .u64 x.bits, .string x.cls, .string x.name, .string x.desc], .bool bo]) := he
          subst he
          obtain ⟨w5, hw5⟩ : ∃ W, (w4.alloc (.cells #[.int .i64 0, .string ⟨#[]⟩, .int .u64 0, .string ⟨#[]⟩, .string ⟨#[]⟩, .string ⟨#[]⟩] 41)).setRow w4.heap.size (valA x) = W := ⟨_, rfl⟩
          have hw5' : w4.alloc (.cells (valA x) 41) = w5 := by rw [← hw5]; exact (World.setRow_alloc_new w4 _ _ _).symm
          have Z4 := Lib.hid (Whole.new w4 41 #[.int .i64 0, .string ⟨#[]⟩, .int .u64 0, .string ⟨#[]⟩, .string ⟨#[]⟩, .string ⟨#[]⟩])
          have B4 := Lib.hid (B3.out.trans (hB4.mono B3.out.size))
          have B5 : Hid (Below w.heap.size w w5) := Lib.hid (hw5' ▸ B4.out.alloc B4.out.size _)
          have W5 : Hid (Whole w5 w.heap.size 41 (valA v0)) := Lib.hid (hw5' ▸ (W3.out.bel hB4).alloc _)
          have hlt := Lib.hid (W3.out.bel hB4).lt
          obtain ⟨g4, hg4⟩ : ∃ q, w4.heap.size = q := ⟨_, rfl⟩
          have N5 : Hid (Whole w5 g4 41 (valA x)) := Lib.hid (hw5' ▸ hg4 ▸ Whole.new w4 41 _)
          rw [hg4] at hw5 Z4
          have hne : Hid (w.heap.size ≠ g4 ∧ w.heap.size ≤ g4) := Lib.hid (by have := hlt.out; omega)
          have k0 : w5.cell? ⟨g4, 0, none⟩ = some (.int .i64 x.tag) := N5.out.cell 0
          have k1 := N5.out.frozen 0
          have N6 : Hid (Whole (w5.setCell ⟨g4, 0, none⟩ (.int .i64 r.tag)) g4 41 (valA ⟨r.tag, x.text, x.bits, x.cls, x.name, x.desc⟩)) := Lib.hid (N5.out.put 0 (.int .i64 r.tag))
          have W6 : Hid (Whole (w5.setCell ⟨g4, 0, none⟩ (.int .i64 r.tag)) w.heap.size 41 (valA v0)) := Lib.hid (W5.out.far (p := ⟨g4, 0, none⟩) hne.out.1 _)
          have B6 := Lib.hid (B5.out.setCell (p := ⟨g4, 0, none⟩) hne.out.2 (.int .i64 r.tag))
          clear hB4 hw5'
          cases bo
          · go_wp2_with (first | (refine wpList_store_row rfl 41 (.tmp 10) (.tmp 57) rfl g4 (valA x) rfl rfl 41 (valA v0) Z4.out rfl rfl (val_one _) ?_) | (refine wpList_store_row rfl 41 (.tmp 6) (.tmp 61) rfl w.heap.size (valA v0) rfl rfl 41 (valA v0) W5.out rfl rfl (val_one _) ?_))
            rw [if_neg (by decide)] at hR
            subst hR
            refine bodyPost_ret (results_val (p := 6) (u := 7) rfl _ _ w.heap.size v0 rfl (W5.out.setRow _)) rfl ?_
            exact ⟨rfl, below_setRow B5.out (Nat.le_refl _) _⟩
          · go_wp2_with (first | (refine wpList_store_row rfl 41 (.tmp 10) (.tmp 57) rfl g4 (valA x) rfl rfl 41 (valA v0) Z4.out rfl rfl (val_one _) ?_) | (refine wpList_load_row rfl 41 (.tmp 10) rfl g4 rfl 41 (valA ⟨r.tag, x.text, x.bits, x.cls, x.name, x.desc⟩) (0, 0) _ N6.out Try.underlying41 rfl rfl ?_) | (refine wpList_store_row rfl 41 (.tmp 6) (.tmp 64) rfl w.heap.size (valA ⟨r.tag, x.text, x.bits, x.cls, x.name, x.desc⟩) rfl rfl 41 (valA v0) W6.out rfl rfl (val_one _) ?_))
            rw [if_pos trivial] at hR
            subst hR
            refine bodyPost_ret (results_val (p := 6) (u := 7) rfl _ _ w.heap.size ⟨r.tag, x.text, x.bits, x.cls, x.name, x.desc⟩ rfl (W6.out.setRow _)) rfl ?_
            exact ⟨rfl, below_setRow B6.out (Nat.le_refl _) _⟩
      · rw [HV.out] at e
        subst e
        have CON := Lib.hid (show Calls Try.prog 87 #[.agg #[.int .i64 r.a, .int .i64 r.b], .slice (some ⟨b, o, none⟩) n c] w3 (ValRes w3 (worth l r).1 (worth l r).2) by
          unfold worth; rw [if_neg (by omega), if_neg (by omega), if_neg (by omega), if_neg (by omega)]; exact vMem_any l _ n c B r.a r.b hn H.out.2.2 w3 HSA.out hB3)
        generalize worth l r = xb at CON hR
        obtain ⟨x, bo⟩ := xb
        simp only at CON hR
        have HH := Lib.hid h
        clear h hB3
        cases z
        · go_wp2_with fail
          refine CON.out.mono ?_
          rintro e w4 ⟨he, hB4⟩
          replace he : e = .returned (.tuple #[.agg #[.int .i64 x.tag, .string x.text, .int .u64 x.bits, .string x.cls, .string x.name, .string x.desc], .bool bo]) := he
          subst he
          obtain ⟨w5, hw5⟩ : ∃ W, (w4.alloc (.cells #[.int .i64 0, .string ⟨#[]⟩, .int .u64 0, .string ⟨#[]⟩, .string ⟨#[]⟩, .string ⟨#[]⟩] 41)).setRow w4.heap.size (valA x) = W := ⟨_, rfl⟩
          have hw5' : w4.alloc (.cells (valA x) 41) = w5 := by rw [← hw5]; exact (World.setRow_alloc_new w4 _ _ _).symm
          have Z4 := Lib.hid (Whole.new w4 41 #[.int .i64 0, .string ⟨#[]⟩, .int .u64 0, .string ⟨#[]⟩, .string ⟨#[]⟩, .string ⟨#[]⟩])
          have B4 := Lib.hid (B3.out.trans (hB4.mono B3.out.size))
          have B5 : Hid (Below w.heap.size w w5) := Lib.hid (hw5' ▸ B4.out.alloc B4.out.size _)
          have W5 : Hid (Whole w5 w.heap.size 41 (valA v0)) := Lib.hid (hw5' ▸ (W3.out.bel hB4).alloc _)
          have hlt := Lib.hid (W3.out.bel hB4).lt
          obtain ⟨g4, hg4⟩ : ∃ q, w4.heap.size = q := ⟨_, rfl⟩
          have N5 : Hid (Whole w5 g4 41 (valA x)) := Lib.hid (hw5' ▸ hg4 ▸ Whole.new w4 41 _)
          rw [hg4] at hw5 Z4
          have hne : Hid (w.heap.size ≠ g4 ∧ w.heap.size ≤ g4) := Lib.hid (by have := hlt.out; omega)
          have k0 : w5.cell? ⟨g4, 0, none⟩ = some (.int .i64 x.tag) := N5.out.cell 0
          have k1 := N5.out.frozen 0
          have N6 : Hid (Whole (w5.setCell ⟨g4, 0, none⟩ (.int .i64 r.tag)) g4 41 (valA ⟨r.tag, x.text, x.bits, x.cls, x.name, x.desc⟩)) := Lib.hid (N5.out.put 0 (.int .i64 r.tag))
          have W6 : Hid (Whole (w5.setCell ⟨g4, 0, none⟩ (.int .i64 r.tag)) w.heap.size 41 (valA v0)) := Lib.hid (W5.out.far (p := ⟨g4, 0, none⟩) hne.out.1 _)
          have B6 := Lib.hid (B5.out.setCell (p := ⟨g4, 0, none⟩) hne.out.2 (.int .i64 r.tag))
          clear hB4 hw5'
          cases bo
          · go_wp2_with (first | (refine wpList_store_row rfl 41 (.tmp 10) (.tmp 57) rfl g4 (valA x) rfl rfl 41 (valA v0) Z4.out rfl rfl (val_one _) ?_) | (refine wpList_store_row rfl 41 (.tmp 6) (.tmp 61) rfl w.heap.size (valA v0) rfl rfl 41 (valA v0) W5.out rfl rfl (val_one _) ?_))
            rw [if_neg (by decide)] at hR
            subst hR
            refine bodyPost_ret (results_val (p := 6) (u := 7) rfl _ _ w.heap.size v0 rfl (W5.out.setRow _)) rfl ?_
            exact ⟨rfl, below_setRow B5.out (Nat.le_refl _) _⟩
          · go_wp2_with (first | (refine wpList_store_row rfl 41 (.tmp 10) (.tmp 57) rfl g4 (valA x) rfl rfl 41 (valA v0) Z4.out rfl rfl (val_one _) ?_) | (refine wpList_load_row rfl 41 (.tmp 10) rfl g4 rfl 41 (valA ⟨r.tag, x.text, x.bits, x.cls, x.name, x.desc⟩) (0, 0) _ N6.out Try.underlying41 rfl rfl ?_) | (refine wpList_store_row rfl 41 (.tmp 6) (.tmp 64) rfl w.heap.size (valA ⟨r.tag, x.text, x.bits, x.cls, x.name, x.desc⟩) rfl rfl 41 (valA v0) W6.out rfl rfl (val_one _) ?_))
            rw [if_pos trivial] at hR
            subst hR
            refine bodyPost_ret (results_val (p := 6) (u := 7) rfl _ _ w.heap.size ⟨r.tag, x.text, x.bits, x.cls, x.name, x.desc⟩ rfl (W6.out.setRow _)) rfl ?_
            exact ⟨rfl, below_setRow B6.out (Nat.le_refl _) _⟩
        · rw [HQ.out rfl] at CT
          go_wp2_with (go_at_call 40; refine CT.out.mono ?_; rintro e w40 ⟨rfl, rfl⟩)
          refine CON.out.mono ?_
          rintro e w4 ⟨he, hB4⟩
          replace he : e = .returned (.tuple #[.agg #[.int .i64 x.tag, .string x.text, .int .u64 x.bits, .string x.cls, .string x.name, .string x.desc], .bool bo]) := he
          subst he
          obtain ⟨w5, hw5⟩ : ∃ W, (w4.alloc (.cells #[.int .i64 0, .string ⟨#[]⟩, .int .u64 0, .string ⟨#[]⟩, .string ⟨#[]⟩, .string ⟨#[]⟩] 41)).setRow w4.heap.size (valA x) = W := ⟨_, rfl⟩
          have hw5' : w4.alloc (.cells (valA x) 41) = w5 := by rw [← hw5]; exact (World.setRow_alloc_new w4 _ _ _).symm
          have Z4 := Lib.hid (Whole.new w4 41 #[.int .i64 0, .string ⟨#[]⟩, .int .u64 0, .string ⟨#[]⟩, .string ⟨#[]⟩, .string ⟨#[]⟩])
          have B4 := Lib.hid (B3.out.trans (hB4.mono B3.out.size))
          have B5 : Hid (Below w.heap.size w w5) := Lib.hid (hw5' ▸ B4.out.alloc B4.out.size _)
          have W5 : Hid (Whole w5 w.heap.size 41 (valA v0)) := Lib.hid (hw5' ▸ (W3.out.bel hB4).alloc _)
          have hlt := Lib.hid (W3.out.bel hB4).lt
          obtain ⟨g4, hg4⟩ : ∃ q, w4.heap.size = q := ⟨_, rfl⟩
          have N5 : Hid (Whole w5 g4 41 (valA x)) := Lib.hid (hw5' ▸ hg4 ▸ Whole.new w4 41 _)
          rw [hg4] at hw5 Z4
          have hne : Hid (w.heap.size ≠ g4 ∧ w.heap.size ≤ g4) := Lib.hid (by have := hlt.out; omega)
          have k0 : w5.cell? ⟨g4, 0, none⟩ = some (.int .i64 x.tag) := N5.out.cell 0
          have k1 := N5.out.frozen 0
          have N6 : Hid (Whole (w5.setCell ⟨g4, 0, none⟩ (.int .i64 r.tag)) g4 41 (valA ⟨r.tag, x.text, x.bits, x.cls, x.name, x.desc⟩)) := Lib.hid (N5.out.put 0 (.int .i64 r.tag))
          have W6 : Hid (Whole (w5.setCell ⟨g4, 0, none⟩ (.int .i64 r.tag)) w.heap.size 41 (valA v0)) := Lib.hid (W5.out.far (p := ⟨g4, 0, none⟩) hne.out.1 _)
          have B6 := Lib.hid (B5.out.setCell (p := ⟨g4, 0, none⟩) hne.out.2 (.int .i64 r.tag))
          clear hB4 hw5'
          cases bo
          · go_wp2_with (first | (refine wpList_store_row rfl 41 (.tmp 10) (.tmp 57) rfl g4 (valA x) rfl rfl 41 (valA v0) Z4.out rfl rfl (val_one _) ?_) | (refine wpList_store_row rfl 41 (.tmp 6) (.tmp 61) rfl w.heap.size (valA v0) rfl rfl 41 (valA v0) W5.out rfl rfl (val_one _) ?_))
            rw [if_neg (by decide)] at hR
            subst hR
            refine bodyPost_ret (results_val (p := 6) (u := 7) rfl _ _ w.heap.size v0 rfl (W5.out.setRow _)) rfl ?_
            exact ⟨rfl, below_setRow B5.out (Nat.le_refl _) _⟩
          · go_wp2_with (first | (refine wpList_store_row rfl 41 (.tmp 10) (.tmp 57) rfl g4 (valA x) rfl rfl 41 (valA v0) Z4.out rfl rfl (val_one _) ?_) | (refine wpList_load_row rfl 41 (.tmp 10) rfl g4 rfl 41 (valA ⟨r.tag, x.text, x.bits, x.cls, x.name, x.desc⟩) (0, 0) _ N6.out Try.underlying41 rfl rfl ?_) | (refine wpList_store_row rfl 41 (.tmp 6) (.tmp 64) rfl w.heap.size (valA ⟨r.tag, x.text, x.bits, x.cls, x.name, x.desc⟩) rfl rfl 41 (valA v0) W6.out rfl rfl (val_one _) ?_))
            rw [if_pos trivial] at hR
            subst hR
            refine bodyPost_ret (results_val (p := 6) (u := 7) rfl _ _ w.heap.size ⟨r.tag, x.text, x.bits, x.cls, x.name, x.desc⟩ rfl (W6.out.setRow _)) rfl ?_
            exact ⟨rfl, below_setRow B6.out (Nat.le_refl _) _⟩
      · rw [HV.out] at e
        subst e
        have CON := Lib.hid (show Calls Try.prog 85 #[.agg #[.int .i64 r.a, .int .i64 r.b], .slice (some ⟨b, o, none⟩) n c] w3 (ValRes w3 (worth l r).1 (worth l r).2) by
          unfold worth; rw [if_neg (by omega), if_neg (by omega), if_neg (by omega), if_pos (by omega)]; exact vPair_any l _ n c B r.a r.b hn H.out.2.2 w3 HSA.out hB3)
        generalize worth l r = xb at CON hR
        obtain ⟨x, bo⟩ := xb
        simp only at CON hR
        have HH := Lib.hid h
        clear h hB3
        cases z
        · go_wp2_with fail
          refine CON.out.mono ?_
          rintro e w4 ⟨he, hB4⟩
          replace he : e = .returned (.tuple #[.agg #[.int .i64 x.tag, .string x.text, .int .u64 x.bits, .string x.cls, .string x.name, .string x.desc], .bool bo]) := he
          subst he
          obtain ⟨w5, hw5⟩ : ∃ W, (w4.alloc (.cells #[.int .i64 0, .string ⟨#[]⟩, .int .u64 0, .string ⟨#[]⟩, .string ⟨#[]⟩, .string ⟨#[]⟩] 41)).setRow w4.heap.size (valA x) = W := ⟨_, rfl⟩
          have hw5' : w4.alloc (.cells (valA x) 41) = w5 := by rw [← hw5]; exact (World.setRow_alloc_new w4 _ _ _).symm
          have Z4 := Lib.hid (Whole.new w4 41 #[.int .i64 0, .string ⟨#[]⟩, .int .u64 0, .string ⟨#[]⟩, .string ⟨#[]⟩, .string ⟨#[]⟩])
          have B4 := Lib.hid (B3.out.trans (hB4.mono B3.out.size))
          have B5 : Hid (Below w.heap.size w w5) := Lib.hid (hw5' ▸ B4.out.alloc B4.out.size _)
          have W5 : Hid (Whole w5 w.heap.size 41 (valA v0)) := Lib.hid (hw5' ▸ (W3.out.bel hB4).alloc _)
          have hlt := Lib.hid (W3.out.bel hB4).lt
          obtain ⟨g4, hg4⟩ : ∃ q, w4.heap.size = q := ⟨_, rfl⟩
          have N5 : Hid (Whole w5 g4 41 (valA x)) := Lib.hid (hw5' ▸ hg4 ▸ Whole.new w4 41 _)
          rw [hg4] at hw5 Z4
          have hne : Hid (w.heap.size ≠ g4 ∧ w.heap.size ≤ g4) := Lib.hid (by have := hlt.out; omega)
          have k0 : w5.cell? ⟨g4, 0, none⟩ = some (.int .i64 x.tag) := N5.out.cell 0
          have k1 := N5.out.frozen 0
          have N6 : Hid (Whole (w5.setCell ⟨g4, 0, none⟩ (.int .i64 r.tag)) g4 41 (valA ⟨r.tag, x.text, x.bits, x.cls, x.name, x.desc⟩)) := Lib.hid (N5.out.put 0 (.int .i64 r.tag))
          have W6 : Hid (Whole (w5.setCell ⟨g4, 0, none⟩ (.int .i64 r.tag)) w.heap.size 41 (valA v0)) := Lib.hid (W5.out.far (p := ⟨g4, 0, none⟩) hne.out.1 _)
          have B6 := Lib.hid (B5.out.setCell (p := ⟨g4, 0, none⟩) hne.out.2 (.int .i64 r.tag))
          clear hB4 hw5'
          cases bo
          · go_wp2_with (first | (refine wpList_store_row rfl 41 (.tmp 10) (.tmp 57) rfl g4 (valA x) rfl rfl 41 (valA v0) Z4.out rfl rfl (val_one _) ?_) | (refine wpList_store_row rfl 41 (.tmp 6) (.tmp 61) rfl w.heap.size (valA v0) rfl rfl 41 (valA v0) W5.out rfl rfl (val_one _) ?_))
            rw [if_neg (by decide)] at hR
            subst hR
            refine bodyPost_ret (results_val (p := 6) (u := 7) rfl _ _ w.heap.size v0 rfl (W5.out.setRow _)) rfl ?_
            exact ⟨rfl, below_setRow B5.out (Nat.le_refl _) _⟩
          · go_wp2_with (first | (refine wpList_store_row rfl 41 (.tmp 10) (.tmp 57) rfl g4 (valA x) rfl rfl 41 (valA v0) Z4.out rfl rfl (val_one _) ?_) | (refine wpList_load_row rfl 41 (.tmp 10) rfl g4 rfl 41 (valA ⟨r.tag, x.text, x.bits, x.cls, x.name, x.desc⟩) (0, 0) _ N6.out Try.underlying41 rfl rfl ?_) | (refine wpList_store_row rfl 41 (.tmp 6) (.tmp 64) rfl w.heap.size (valA ⟨r.tag, x.text, x.bits, x.cls, x.name, x.desc⟩) rfl rfl 41 (valA v0) W6.out rfl rfl (val_one _) ?_))
            rw [if_pos trivial] at hR
            subst hR
            refine bodyPost_ret (results_val (p := 6) (u := 7) rfl _ _ w.heap.size ⟨r.tag, x.text, x.bits, x.cls, x.name, x.desc⟩ rfl (W6.out.setRow _)) rfl ?_
            exact ⟨rfl, below_setRow B6.out (Nat.le_refl _) _⟩
        · rw [HQ.out rfl] at CT
          go_wp2_with (go_at_call 40; refine CT.out.mono ?_; rintro e w40 ⟨rfl, rfl⟩)
          refine CON.out.mono ?_
          rintro e w4 ⟨he, hB4⟩
          replace he : e = .returned (.tuple #[.agg #[.int .i64 x.tag, .string x.text, .int .u64 x.bits, .string x.cls, .string x.name, .string x.desc], .bool bo]) := he
          subst he
          obtain ⟨w5, hw5⟩ : ∃ W, (w4.alloc (.cells #[.int .i64 0, .string ⟨#[]⟩, .int .u64 0, .string ⟨#[]⟩, .string ⟨#[]⟩, .string ⟨#[]⟩] 41)).setRow w4.heap.size (valA x) = W := ⟨_, rfl⟩
          have hw5' : w4.alloc (.cells (valA x) 41) = w5 := by rw [← hw5]; exact (World.setRow_alloc_new w4 _ _ _).symm
          have Z4 := Lib.hid (Whole.new w4 41 #[.int .i64 0, .string ⟨#[]⟩, .int .u64 0, .string ⟨#[]⟩, .string ⟨#[]⟩, .string ⟨#[]⟩])
          have B4 := Lib.hid (B3.out.trans (hB4.mono B3.out.size))
          have B5 : Hid (Below w.heap.size w w5) := Lib.hid (hw5' ▸ B4.out.alloc B4.out.size _)
          have W5 : Hid (Whole w5 w.heap.size 41 (valA v0)) := Lib.hid (hw5' ▸ (W3.out.bel hB4).alloc _)
          have hlt := Lib.hid (W3.out.bel hB4).lt
          obtain ⟨g4, hg4⟩ : ∃ q, w4.heap.size = q := ⟨_, rfl⟩
          have N5 : Hid (Whole w5 g4 41 (valA x)) := Lib.hid (hw5' ▸ hg4 ▸ Whole.new w4 41 _)
          rw [hg4] at hw5 Z4
          have hne : Hid (w.heap.size ≠ g4 ∧ w.heap.size ≤ g4) := Lib.hid (by have := hlt.out; omega)
          have k0 : w5.cell? ⟨g4, 0, none⟩ = some (.int .i64 x.tag) := N5.out.cell 0
          have k1 := N5.out.frozen 0
          have N6 : Hid (Whole (w5.setCell ⟨g4, 0, none⟩ (.int .i64 r.tag)) g4 41 (valA ⟨r.tag, x.text, x.bits, x.cls, x.name, x.desc⟩)) := Lib.hid (N5.out.put 0 (.int .i64 r.tag))
          have W6 : Hid (Whole (w5.setCell ⟨g4, 0, none⟩ (.int .i64 r.tag)) w.heap.size 41 (valA v0)) := Lib.hid (W5.out.far (p := ⟨g4, 0, none⟩) hne.out.1 _)
          have B6 := Lib.hid (B5.out.setCell (p := ⟨g4, 0, none⟩) hne.out.2 (.int .i64 r.tag))
          clear hB4 hw5'
          cases bo
          · go_wp2_with (first | (refine wpList_store_row rfl 41 (.tmp 10) (.tmp 57) rfl g4 (valA x) rfl rfl 41 (valA v0) Z4.out rfl rfl (val_one _) ?_) | (refine wpList_store_row rfl 41 (.tmp 6) (.tmp 61) rfl w.heap.size (valA v0) rfl rfl 41 (valA v0) W5.out rfl rfl (val_one _) ?_))
            rw [if_neg (by decide)] at hR
            subst hR
            refine bodyPost_ret (results_val (p := 6) (u := 7) rfl _ _ w.heap.size v0 rfl (W5.out.setRow _)) rfl ?_
            exact ⟨rfl, below_setRow B5.out (Nat.le_refl _) _⟩
          · go_wp2_with (first | (refine wpList_store_row rfl 41 (.tmp 10) (.tmp 57) rfl g4 (valA x) rfl rfl 41 (valA v0) Z4.out rfl rfl (val_one _) ?_) | (refine wpList_load_row rfl 41 (.tmp 10) rfl g4 rfl 41 (valA ⟨r.tag, x.text, x.bits, x.cls, x.name, x.desc⟩) (0, 0) _ N6.out Try.underlying41 rfl rfl ?_) | (refine wpList_store_row rfl 41 (.tmp 6) (.tmp 64) rfl w.heap.size (valA ⟨r.tag, x.text, x.bits, x.cls, x.name, x.desc⟩) rfl rfl 41 (valA v0) W6.out rfl rfl (val_one _) ?_))
            rw [if_pos trivial] at hR
            subst hR
            refine bodyPost_ret (results_val (p := 6) (u := 7) rfl _ _ w.heap.size ⟨r.tag, x.text, x.bits, x.cls, x.name, x.desc⟩ rfl (W6.out.setRow _)) rfl ?_
            exact ⟨rfl, below_setRow B6.out (Nat.le_refl _) _⟩
      · exact absurd h HF.out
  · rw [List.getElem?_eq_none (by omega)] at hR
    simp only at hR
    subst hR
    have d1 : decide ((n : Int) ≤ (k : Int)) = true := decide_eq_true (by omega)
    have d2 : decide (n ≤ k) = true := decide_eq_true (by omega)
    have H := Lib.hid (And.intro hk (And.intro h0 hs))
    clear hk h0 hs
    go_enter Try.func21, Try.ntmps21
    go_wp2_with (refine wpList_store_row rfl 41 (.tmp 6) (.tmp 28) rfl w.heap.size (valA v0) rfl rfl 41 (valA v0) W2.out rfl rfl (val_one _) ?_)
    refine bodyPost_ret (results_val (p := 6) (u := 7) rfl _ _ w.heap.size v0 rfl (W2.out.setRow _)) rfl ?_
    exact ⟨rfl, below_setRow B2.out (Nat.le_refl _) _⟩
end Go.Proofs.Ytmojclbejmnikaa
