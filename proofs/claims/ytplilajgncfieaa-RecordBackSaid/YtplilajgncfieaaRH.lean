/-
  Numbers that a cursor reads, one behind the other: number, numbers. Conditions: the cursor stands as told, over at most a million bytes; numbers of 2 or 4 bytes.
-/
import Derived.Test.YtplilajgncfieaaRC
import Derived.Test.YtplilajgncfieaaC4
namespace Go.Proofs.Ytplilajgncfieaa
open Go.RowKit
set_option maxRecDepth 100000

/-- A number that stands next: it, the place behind it, the error. -/
def rd1 (bs : List Nat) (k : Nat) (a : Nat) (e : Int) : Int × Nat × Int := ((len_ (nxt bs a e k true).1 : Nat), (nxt bs a e k true).2.1, (nxt bs a e k true).2.2)
/-- Numbers of these sizes. -/
def rdz (bs : List Nat) : List Nat → Nat → Int → List Int × Nat × Int
  | [], a, e => ([], a, e)
  | k :: ks, a, e => ((rd1 bs k a e).1 :: (rdz bs ks (rd1 bs k a e).2.1 (rd1 bs k a e).2.2).1, (rdz bs ks (rd1 bs k a e).2.1 (rd1 bs k a e).2.2).2)
theorem rdz_append (bs : List Nat) (l m : List Nat) (a : Nat) (e : Int) : rdz bs (l ++ m) a e = ((rdz bs l a e).1 ++ (rdz bs m (rdz bs l a e).2.1 (rdz bs l a e).2.2).1, (rdz bs m (rdz bs l a e).2.1 (rdz bs l a e).2.2).2) := by
  induction l generalizing a e with
  | nil => rfl
  | cons k ks ih =>
    show rdz bs (k :: (ks ++ m)) a e = _
    simp only [rdz, ih]
    rfl
theorem rdz_length (bs : List Nat) (l : List Nat) (a : Nat) (e : Int) : (rdz bs l a e).1.length = l.length := by
  induction l generalizing a e with
  | nil => rfl
  | cons k ks ih => simp only [rdz, List.length_cons, ih]
theorem len_lt (l : List Nat) (h : ∀ x ∈ l, x < 256) : len_ l < 256 ^ l.length := by
  have := big_lt l.reverse (fun x hx => h x (List.mem_reverse.1 hx))
  rwa [big_reverse, List.length_reverse] at this
theorem rd1_lt (bs : List Nat) (h256 : ∀ x ∈ bs, x < 256) (k a : Nat) (e : Int) : 0 ≤ (rd1 bs k a e).1 ∧ (rd1 bs k a e).1 < 256 ^ k := by
  unfold rd1
  have h1 := len_lt _ (nxt_byte bs a e k true h256)
  have h2 := nxt_short bs a e k true
  have h3 : 256 ^ (nxt bs a e k true).1.length ≤ 256 ^ k := Nat.pow_le_pow_right (by omega) (by simpa using h2)
  refine ⟨by simp, ?_⟩
  have : len_ (nxt bs a e k true).1 < 256 ^ k := by omega
  simp only
  exact_mod_cast this
theorem rd1_place (bs : List Nat) (k a : Nat) (e : Int) (ha : a ≤ bs.length) : (rd1 bs k a e).2.1 ≤ bs.length := nxt_place bs a e k true (fun _ => by omega) ha
theorem rdz_place (bs : List Nat) (l : List Nat) (a : Nat) (e : Int) (ha : a ≤ bs.length) : (rdz bs l a e).2.1 ≤ bs.length := by
  induction l generalizing a e with
  | nil => exact ha
  | cons k ks ih => exact ih _ _ (rd1_place bs k a e ha)
theorem rdz_lt (bs : List Nat) (h256 : ∀ x ∈ bs, x < 256) (l : List Nat) (a : Nat) (e : Int) : ∀ (i : Nat) (k : Nat), l[i]? = some k → ∃ v, (rdz bs l a e).1[i]? = some v ∧ 0 ≤ v ∧ v < 256 ^ k := by
  induction l generalizing a e with
  | nil => intro i k h; simp at h
  | cons k ks ih =>
    intro i m h
    cases i with
    | zero =>
      obtain rfl : k = m := by simpa using h
      exact ⟨_, rfl, rd1_lt bs h256 k a e⟩
    | succ i => exact ih _ _ i m (by simpa using h)
theorem rdz_snoc (bs : List Nat) (n k : Nat) (a : Nat) (e : Int) : rdz bs (List.replicate (n + 1) k) a e = ((rdz bs (List.replicate n k) a e).1 ++ [(rd1 bs k (rdz bs (List.replicate n k) a e).2.1 (rdz bs (List.replicate n k) a e).2.2).1], (rd1 bs k (rdz bs (List.replicate n k) a e).2.1 (rdz bs (List.replicate n k) a e).2.2).2) := by
  rw [List.replicate_succ', rdz_append]
  rfl

/-- What a reading did to a cursor. -/
def CurRes (w : World) (B g : Nat) (sv : Value) (bs : List Nat) (r : Nat × Int) (w' : World) : Prop := CursorAt w' B g sv bs r.1 r.2 ∧ Only (fun k => k = g) w w'

theorem wide24' {k : Nat} (h : k = 2 ∨ k = 4) : Wide (k : Int) := by
  rcases h with rfl | rfl
  · exact .inr (.inl rfl)
  · exact .inr (.inr (.inl rfl))
theorem number_any (B g : Nat) (sv : Value) (bs : List Nat) (a : Nat) (err : Int) (k : Nat) (z : Int) (hk : k = 2 ∨ k = 4) (hz : z = k) (w : World) (h : CursorAt w B g sv bs a err) (hb : bs.length ≤ 1000000) (ha : a ≤ bs.length) (h256 : ∀ x ∈ bs, x < 256) :
    Calls Try.prog 32 #[.pointer (some ⟨g, 0, none⟩), .int .i64 z] w fun e w' => e = .returned (.int .i64 (rd1 bs k a err).1) ∧ CurRes w B g sv bs (rd1 bs k a err).2 w' := by
  have hW : decide (Wide z) = true := by rw [hz]; exact decide_eq_true (wide24' hk)
  have L := littleC_any B g sv bs a err z w h hb ha h256
  rw [hW, hz] at L
  have hlt := rd1_lt bs h256 k a err
  have h32 : (256 : Int) ^ k ≤ 4294967296 := by rcases hk with rfl | rfl <;> decide
  have hv : (rd1 bs k a err).1 = (len_ (nxt bs a err k true).1 : Nat) := rfl
  have hw : IntKind.i64.wrap ((len_ (nxt bs a err k true).1 : Nat) : Int) = (rd1 bs k a err).1 := by rw [← hv]; exact IntWalk.i64_in _ (by omega)
  have hr : (rd1 bs k a err).2 = (nxt bs a err k true).2 := rfl
  rw [hr]
  rw [← hz] at L hw ⊢
  generalize nxt bs a err z true = q at *
  generalize (rd1 bs k a err).1 = v at *
  have HL := Lib.hid L
  clear L h h256 hlt hv hW hr
  subst hz
  go_enter Try.func32, Try.ntmps32
  go_wp2_with fail
  refine HL.out.mono ?_
  rintro e w' ⟨rfl, h1, h2⟩
  have H1 := Lib.hid h1; have H2 := Lib.hid h2; clear h1 h2
  go_wp2_with fail
  go_ret
  exact ⟨rfl, H1.out, H2.out⟩

theorem int_info : (Try.prog.info? 3).map (fun i => (i.zero, i.size, i.bytes)) = some (some (.int .i64 0), 1, 8) := by kernel_rfl
theorem ints_set (l : List Int) (n : Nat) (v : Int) : (l ++ List.replicate (n + 1) 0).set l.length v = l ++ [v] ++ List.replicate n 0 := by
  rw [List.set_append_right _ _ (Nat.le_refl _), Nat.sub_self, List.replicate_succ]
  simp
theorem iv_set (l : List Int) (i : Nat) (v : Int) : (iv l).set i (.int .i64 v) = iv (l.set i v) := by simp [iv, List.map_set]
theorem CursorAt.bel {w w' : World} {B g : Nat} {sv : Value} {bs : List Nat} {a : Nat} {err : Int} (h : CursorAt w B g sv bs a err) (hb : Below w.heap.size w w') : CursorAt w' B g sv bs a err := h.only (Only.of_below hb Nob) (fun _ _ h => h)

theorem CursorAt.put {w : World} {B g : Nat} {sv : Value} {bs : List Nat} {a : Nat} {err : Int} (h : CursorAt w B g sv bs a err) {gs : Nat} {t : TypeId} {cs : Array Value} (hW : Whole w gs t cs) (h1 : (59 : TypeId) ≠ t) (h2 : (5 : TypeId) ≠ t) (i : Nat) (v : Value) : CursorAt (w.setCell ⟨gs, i, none⟩ v) B g sv bs a err :=
  ⟨h.1, h.2.1.far (p := ⟨gs, i, none⟩) (h.2.1.ne hW h1) v, own_only h.2.2 ((Only.refl (fun k => k = gs) w).setCell (p := ⟨gs, i, none⟩) (.inl rfl) v) (fun k hk => own_ne_whole h.2.2 hW h2 k hk)⟩

/-- A row of numbers that was read. -/
def RowRes (w : World) (B g : Nat) (sv : Value) (bs : List Nat) (n : Nat) (r : List Int × Nat × Int) (e : Ending) (w' : World) : Prop :=
  ∃ gs, e = .returned (.slice (some ⟨gs, 0, none⟩) n n) ∧ Whole w' gs 3 (iv r.1).toArray ∧ w.heap.size ≤ gs ∧ CurRes w B g sv bs r.2 w'

set_option linter.unusedSimpArgs false in
set_option maxHeartbeats 2000000 in
theorem numbers_any (B g : Nat) (sv : Value) (bs : List Nat) (a : Nat) (err : Int) (k : Nat) (z : Int) (hk : k = 2 ∨ k = 4) (hz : z = k) (n : Nat) (hn : n ≤ 100) (w : World) (h : CursorAt w B g sv bs a err) (hb : bs.length ≤ 1000000) (ha : a ≤ bs.length) (h256 : ∀ x ∈ bs, x < 256) :
    Calls Try.prog 41 #[.pointer (some ⟨g, 0, none⟩), .int .i64 z, .int .i64 n] w (RowRes w B g sv bs n (rdz bs (List.replicate n k) a err)) := by
  obtain ⟨i0, hi0, hz0, hz1, hz2⟩ := info_parts int_info
  have HC := Lib.hid h; have HA := Lib.hid ha; have H256 := Lib.hid h256; have HZ := Lib.hid hz; have HK := Lib.hid hk
  have hgw := h.2.1.lt
  have hBs := Lib.hid hb
  clear h ha h256 hz hk hb
  have hO : i0.bytes * n ≤ 281474976710656 := by rw [hz2]; omega
  go_enter Try.func41, Try.ntmps41
  go_wp2_with (at_make; refine wpList_make_full _ rfl _ _ 56 rfl w.heap.size 3 i0 _ 1 Try.underlying56 hi0 hz0 hz1 _ _ ((n : Int)) ((n : Int)) n rfl rfl rfl rfl hO (by simp only [maxLen]; omega) (Nat.le_refl _) ?_; intro w1 hown1 hg1)
  have hW1 := own_full hown1
  rw [show (madeCells (Value.int IntKind.i64 0).cells (n * 1)).toList = iv (List.replicate n 0) by rw [show (Value.int IntKind.i64 0).cells = #[.int .i64 0] from rfl, toList_madeCells_one]; simp [iv]] at hW1
  have hb1 : Below w.heap.size w w1 := (Below.refl _ _).grown hg1 (Nat.le_refl _) (by simp)
  have HW1 := Lib.hid hW1; have HC1 := Lib.hid (HC.out.bel hb1); have HB1 := Lib.hid hb1
  clear hown1 hg1 hW1 hb1 hO
  obtain ⟨gs, hgs⟩ : ∃ gs, w.heap.size = gs := ⟨_, rfl⟩
  rw [hgs] at HW1 ⊢
  have hne : gs ≠ g := by omega
  go_loopw [12] (fun i wr => ∃ j : Nat, j ≤ n ∧ i = .int .i64 j ∧ Whole wr gs 3 (iv ((rdz bs (List.replicate j k) a err).1 ++ List.replicate (n - j) 0)).toArray ∧ CursorAt wr B g sv bs (rdz bs (List.replicate j k) a err).2.1 (rdz bs (List.replicate j k) a err).2.2 ∧ Only (fun i => i = g) w wr) (fun i _ => n - (intOf i).toNat)
  case atStart => exact ⟨0, Nat.zero_le _, rfl, by simpa [rdz] using HW1.out, HC1.out, Only.of_below HB1.out _⟩
  case round =>
    obtain ⟨j, hj, rfl, hW, hC, hO⟩ := hrel
    by_cases hlt : j < n
    · have N := number_any B g sv bs (rdz bs (List.replicate j k) a err).2.1 (rdz bs (List.replicate j k) a err).2.2 k z HK.out HZ.out wr hC hBs.out (rdz_place bs _ a err HA.out) H256.out
      have hsn := Lib.hid (rdz_snoc bs j k a err)
      have hln := Lib.hid (rdz_length bs (List.replicate j k) a err)
      rw [List.length_replicate] at hln
      have HN := Lib.hid N; have HW := Lib.hid hW; have HO := Lib.hid hO
      clear N hW hC hO
      generalize rdz bs (List.replicate j k) a err = q at *
      generalize rd1 bs k q.2.1 q.2.2 = r at *
      have hj0 : (0 : Int) ≤ j := by omega
      go_wp2_with (go_at_call 32; refine HN.out.mono ?_; rintro e w2 ⟨rfl, hC2, hO2⟩; have hW2 := HW.out.only hO2 hne; have hc2 : ∃ old, w2.cell? ⟨gs, j, none⟩ = some old := (by rw [hW2.cell, List.getElem?_toArray, List.getElem?_eq_getElem (by have := hln.out; simp; omega)]; exact ⟨_, rfl⟩); obtain ⟨old, hc2⟩ := hc2; have hf2 := hW2.frozen j; have HW2 := Lib.hid hW2; have HC2 := Lib.hid hC2; have HO2 := Lib.hid hO2; clear hW2 hC2 hO2)
      go_roundw
      case rel =>
        refine ⟨j + 1, by omega, by go_num, ?_, ?_, ?_⟩
        · rw [hsn.out]
          have h1 := HW2.out.put j (.int .i64 r.1)
          rw [List.setIfInBounds_toArray, iv_set, show n - j = n - (j + 1) + 1 by omega] at h1
          have h2 := ints_set q.1 (n - (j + 1)) r.1
          rw [hln.out] at h2
          rw [h2] at h1
          exact h1
        · rw [hsn.out]
          exact HC2.out.put HW2.out (by decide) (by decide) j _
        · exact (HO.out.trans HO2.out).setCell (p := ⟨gs, j, none⟩) (.inr (by simp only; omega)) _
      case measure => simp [intOf]; omega
    · obtain rfl : n = j := by omega
      rw [Nat.sub_self, List.replicate_zero, List.append_nil] at hW
      have HW := Lib.hid hW; have HC := Lib.hid hC; have HO := Lib.hid hO
      clear hW hC hO
      go_wp2_with fail
      go_ret
      exact ⟨gs, rfl, HW.out, by omega, HC.out, HO.out⟩
end Go.Proofs.Ytplilajgncfieaa
