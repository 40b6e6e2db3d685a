/-
  Contracts of the cursor: New, Err, At, Left, Fail, next. Conditions: the cursor stands as told (CursorAt), over at most a million bytes.
-/
import Derived.Test.YtmojclbejmnikaaC2
namespace Go.Proofs.Ytmojclbejmnikaa
open Go.RowKit
set_option maxRecDepth 100000

/-- A cursor stands at block g, over these bytes, so many read, with an error. -/
def CursorAt (w : World) (B g : Nat) (sv : Value) (bs : List Nat) (a : Nat) (err : Int) : Prop :=
  B ≤ g ∧ Whole w g 52 #[sv, .int .i64 a, .int .i64 err] ∧ w.ownsRow B 5 1 sv bs.length (bv bs)

def failed (err e : Int) : Int := if err = 0 then e else err

theorem CursorAt.set {w : World} {B g : Nat} {sv : Value} {bs : List Nat} {a : Nat} {err : Int} (h : CursorAt w B g sv bs a err) (a' : Nat) : CursorAt (w.setCell ⟨g, 1, none⟩ (.int .i64 a')) B g sv bs a' err ∧ Only (fun k => k = g) w (w.setCell ⟨g, 1, none⟩ (.int .i64 a')) := by
  have hO := (Only.refl (fun k => k = g) w).setCell (p := ⟨g, 1, none⟩) (.inl rfl) (.int .i64 a')
  exact ⟨⟨h.1, by simpa using h.2.1.put 1 (.int .i64 a'), own_only h.2.2 hO (fun k hk => own_ne_whole h.2.2 h.2.1 (by decide) k hk)⟩, hO⟩
theorem CursorAt.setErr {w : World} {B g : Nat} {sv : Value} {bs : List Nat} {a : Nat} {err : Int} (h : CursorAt w B g sv bs a err) (e : Int) : CursorAt (w.setCell ⟨g, 2, none⟩ (.int .i64 e)) B g sv bs a e ∧ Only (fun k => k = g) w (w.setCell ⟨g, 2, none⟩ (.int .i64 e)) := by
  have hO := (Only.refl (fun k => k = g) w).setCell (p := ⟨g, 2, none⟩) (.inl rfl) (.int .i64 e)
  exact ⟨⟨h.1, by simpa using h.2.1.put 2 (.int .i64 e), own_only h.2.2 hO (fun k hk => own_ne_whole h.2.2 h.2.1 (by decide) k hk)⟩, hO⟩
theorem CursorAt.only {w w' : World} {B g : Nat} {sv : Value} {bs : List Nat} {a : Nat} {err : Int} {S : Nat → Prop} (h : CursorAt w B g sv bs a err) (ho : Only S w w') (hS : ∀ k, k < w.heap.size → ¬ S k) : CursorAt w' B g sv bs a err :=
  ⟨h.1, h.2.1.only ho (hS _ h.2.1.lt), own_only h.2.2 ho (fun k hk => hS k (own_whole h.2.2 hk).2.choose_spec.lt)⟩
theorem CursorAt.c0 {w : World} {B g : Nat} {sv : Value} {bs : List Nat} {a : Nat} {err : Int} (h : CursorAt w B g sv bs a err) : w.cell? ⟨g, 0, none⟩ = some sv := by simpa using h.2.1.cell 0
theorem CursorAt.c1 {w : World} {B g : Nat} {sv : Value} {bs : List Nat} {a : Nat} {err : Int} (h : CursorAt w B g sv bs a err) : w.cell? ⟨g, 1, none⟩ = some (.int .i64 a) := by simpa using h.2.1.cell 1
theorem CursorAt.c2 {w : World} {B g : Nat} {sv : Value} {bs : List Nat} {a : Nat} {err : Int} (h : CursorAt w B g sv bs a err) : w.cell? ⟨g, 2, none⟩ = some (.int .i64 err) := by simpa using h.2.1.cell 2

def NewC (w : World) (bs : List Nat) (e : Ending) (w' : World) : Prop :=
  ∃ g sv, e = .returned (.pointer (some ⟨g, 0, none⟩)) ∧ CursorAt w' w.heap.size g sv bs 0 0 ∧ Below w.heap.size w w'

theorem newC_any (A : Option Addr) (c B : Nat) (bs : List Nat) (w : World) (hs : Seen w B 1 A bs.length c (bv bs)) (hB : B ≤ w.heap.size) (hl : bs.length ≤ 1000000) :
    Calls Try.prog 7 #[.slice A bs.length c] w (NewC w bs) := by
  have HS := Lib.hid hs; clear hs
  go_enter Try.func7, Try.ntmps7
  go_wp2_with (go_at_call 23; refine (clone_any A _ c B _ _ HS.out hB (bv_oneCell _) (by omega)).mono ?_; rintro e w' ⟨v, rfl, hown, hbel⟩; obtain ⟨A1, c1, rfl, _⟩ := own_form hown)
  go_ret
  have hsz := hbel.size
  exact ⟨w'.heap.size, _, rfl, ⟨hsz, Whole.new _ _ _, hown.alloc _⟩, hbel.alloc hsz _⟩

theorem errC_any (B g : Nat) (sv : Value) (bs : List Nat) (a : Nat) (err : Int) (w : World) (h : CursorAt w B g sv bs a err) :
    Calls Try.prog 11 #[.pointer (some ⟨g, 0, none⟩)] w fun e w' => e = .returned (.int .i64 err) ∧ w = w' := by
  have c2 := h.c2
  clear h
  go_enter Try.func11, Try.ntmps11
  go_wp2
  go_ret
  exact ⟨rfl, rfl⟩
theorem errC_nil (w : World) : Calls Try.prog 11 #[.pointer none] w fun e w' => e = .returned (.int .i64 1) ∧ w = w' := by
  go_enter Try.func11, Try.ntmps11
  go_wp2
  go_ret
  exact ⟨rfl, rfl⟩
theorem atC_any (B g : Nat) (sv : Value) (bs : List Nat) (a : Nat) (err : Int) (w : World) (h : CursorAt w B g sv bs a err) :
    Calls Try.prog 12 #[.pointer (some ⟨g, 0, none⟩)] w fun e w' => e = .returned (.int .i64 a) ∧ w = w' := by
  have c1 := h.c1
  clear h
  go_enter Try.func12, Try.ntmps12
  go_wp2
  go_ret
  exact ⟨rfl, rfl⟩
theorem leftC_any (B g : Nat) (sv : Value) (bs : List Nat) (a : Nat) (err : Int) (w : World) (h : CursorAt w B g sv bs a err) (hb : bs.length ≤ 1000000) (ha : a ≤ bs.length) :
    Calls Try.prog 35 #[.pointer (some ⟨g, 0, none⟩)] w fun e w' => e = .returned (.int .i64 ((bs.length - a : Nat) : Int)) ∧ w' = w.drew := by
  have c0 := h.c0
  have c1 := h.c1
  obtain ⟨A, c, rfl, _⟩ := own_form h.2.2
  clear h
  go_enter Try.func35, Try.ntmps35
  go_wp2
  go_still (by kernel_rfl)
  go_wp2
  go_ret
  refine ⟨ret_int ?_, rfl⟩
  rw [IntWalk.i64_in _ (by omega)]
  omega
theorem leftC_nil (w : World) : Calls Try.prog 35 #[.pointer none] w fun e w' => e = .returned (.int .i64 0) ∧ w = w' := by
  go_enter Try.func35, Try.ntmps35
  go_wp2
  go_ret
  exact ⟨rfl, rfl⟩

theorem failC_any (B g : Nat) (sv : Value) (bs : List Nat) (a : Nat) (err e0 : Int) (w : World) (h : CursorAt w B g sv bs a err) :
    Calls Try.prog 26 #[.pointer (some ⟨g, 0, none⟩), .int .i64 e0] w fun e w' => e = .returned (.tuple #[]) ∧ CursorAt w' B g sv bs a (failed err e0) ∧ Only (fun k => k = g) w w' := by
  have c2 := h.c2
  have f2 := h.2.1.frozen 2
  by_cases he : err = 0
  · subst he
    have HC := Lib.hid (h.setErr e0)
    clear h
    go_enter Try.func26, Try.ntmps26
    go_wp2
    go_end0
    exact ⟨rfl, by simpa [failed] using HC.out.1, HC.out.2⟩
  · have he1 : (err != 0) = true := by simp [he]
    have he2 := Lib.hid he
    clear he
    go_enter Try.func26, Try.ntmps26
    go_wp2
    go_returns
    exact ⟨rfl, by simpa [failed, he2.out] using h, Only.refl _ _⟩
theorem failC_nil (e0 : Int) (w : World) : Calls Try.prog 26 #[.pointer none, .int .i64 e0] w fun e w' => e = .returned (.tuple #[]) ∧ w = w' := by
  go_enter Try.func26, Try.ntmps26
  go_wp2
  go_returns
  exact ⟨rfl, rfl⟩

/-- Nothing was read: the cursor stays, with an error. -/
def NextBad (w : World) (B g : Nat) (sv : Value) (bs : List Nat) (a : Nat) (err : Int) (w' : World) : Prop := CursorAt w' B g sv bs a err ∧ Only (fun k => k = g) w w'

theorem next_bad_may (B g : Nat) (sv : Value) (bs : List Nat) (a : Nat) (err n : Int) (w : World) (h : CursorAt w B g sv bs a err) :
    Calls Try.prog 41 #[.pointer (some ⟨g, 0, none⟩), .int .i64 n, .bool false] w fun e w' => e = .returned (.slice none 0 0) ∧ NextBad w B g sv bs a (failed err 1) w' := by
  have H := Lib.hid h; clear h
  have he : (failed err 1 != 0) = true := by unfold failed; split <;> simp [*]
  obtain ⟨x, hx⟩ : ∃ x, failed err 1 = x := ⟨_, rfl⟩
  rw [hx] at he ⊢
  have HX := Lib.hid hx; clear hx
  go_enter Try.func41, Try.ntmps41
  go_wp2_with (first | (go_at_call 26; refine (failC_any B g sv bs a err 1 _ H.out).mono ?_; rintro e w1 ⟨rfl, hC, hO⟩; rw [HX.out] at hC) | (go_at_call 11; refine (errC_any B g sv bs a x _ hC).mono ?_; rintro e w2 ⟨rfl, rfl⟩))
  go_ret
  exact ⟨rfl, hC, hO⟩

theorem next_bad_end (B g : Nat) (sv : Value) (bs : List Nat) (a : Nat) (err n : Int) (w : World) (h : CursorAt w B g sv bs a err) (hb : bs.length ≤ 1000000) (ha : a ≤ bs.length) (hn : ((bs.length - a : Nat) : Int) < n) :
    Calls Try.prog 41 #[.pointer (some ⟨g, 0, none⟩), .int .i64 n, .bool true] w fun e w' => e = .returned (.slice none 0 0) ∧ NextBad w B g sv bs a (failed err 6) w' := by
  have H := Lib.hid h; clear h
  have he : (failed err 6 != 0) = true := by unfold failed; split <;> simp [*]
  obtain ⟨x, hx⟩ : ∃ x, failed err 6 = x := ⟨_, rfl⟩
  rw [hx] at he ⊢
  have HX := Lib.hid hx; clear hx
  obtain ⟨l, hl⟩ : ∃ l, bs.length - a = l := ⟨_, rfl⟩
  rw [hl] at hn
  have HL := Lib.hid hl; clear hl
  go_enter Try.func41, Try.ntmps41
  go_wp2_with (first | (go_at_call 35; refine (leftC_any B g sv bs a err _ H.out hb ha).mono ?_; rintro e w0 ⟨rfl, rfl⟩; rw [HL.out]) | (go_at_call 26; refine (failC_any B g sv bs a err 6 _ (by exact H.out)).mono ?_; rintro e w1 ⟨rfl, hC, hO⟩; rw [HX.out] at hC) | (go_at_call 11; refine (errC_any B g sv bs a x _ hC).mono ?_; rintro e w2 ⟨rfl, rfl⟩))
  go_ret
  exact ⟨rfl, hC, ⟨hO.os, hO.tape, hO.output, hO.size, hO.block⟩⟩

theorem next_bad_err (B g : Nat) (sv : Value) (bs : List Nat) (a : Nat) (err n : Int) (w : World) (h : CursorAt w B g sv bs a err) (hb : bs.length ≤ 1000000) (ha : a ≤ bs.length) (hn : n ≤ ((bs.length - a : Nat) : Int)) (he0 : err ≠ 0) :
    Calls Try.prog 41 #[.pointer (some ⟨g, 0, none⟩), .int .i64 n, .bool true] w fun e w' => e = .returned (.slice none 0 0) ∧ NextBad w B g sv bs a err w' := by
  have H := Lib.hid h; clear h
  have he : (err != 0) = true := by simp [he0]
  clear he0
  obtain ⟨l, hl⟩ : ∃ l, bs.length - a = l := ⟨_, rfl⟩
  rw [hl] at hn
  have HL := Lib.hid hl; clear hl
  go_enter Try.func41, Try.ntmps41
  go_wp2_with (first | (go_at_call 35; refine (leftC_any B g sv bs a err _ H.out hb ha).mono ?_; rintro e w0 ⟨rfl, rfl⟩; rw [HL.out]) | (go_at_call 11; refine (errC_any B g sv bs a err _ (by exact H.out)).mono ?_; rintro e w2 ⟨rfl, rfl⟩))
  go_ret
  exact ⟨rfl, H.out, (Only.refl _ _).drew⟩

/-- The next bytes, as a slice of the cursor's own. -/
def NextOk (w : World) (B g : Nat) (sv : Value) (bs : List Nat) (a n : Nat) (e : Ending) (w' : World) : Prop :=
  ∃ A c, e = .returned (.slice A n c) ∧ c ≤ maxLen ∧ Seen w' w'.heap.size 1 A n c (bv ((bs.drop a).take n)) ∧ CursorAt w' B g sv bs (a + n) 0 ∧ Only (fun k => k = g) w w'

theorem next_ok (B g : Nat) (sv : Value) (bs : List Nat) (a n : Nat) (w : World) (h : CursorAt w B g sv bs a 0) (hb : bs.length ≤ 1000000) (hn : a + n ≤ bs.length) :
    Calls Try.prog 41 #[.pointer (some ⟨g, 0, none⟩), .int .i64 n, .bool true] w (NextOk w B g sv bs a n) := by
  obtain ⟨A, c, rfl, hcm⟩ := own_form h.2.2
  have hlc : bs.length ≤ c := (Seen.of_own h.2.2).2.1
  have HCM := Lib.hid hcm
  unfold maxLen at hcm
  have f1 := h.2.1.frozen 1
  have c1 := h.c1
  have H := Lib.hid h; clear h
  obtain ⟨l, hl⟩ : ∃ l, bs.length - a = l := ⟨_, rfl⟩
  have hnl : n ≤ l := by omega
  have HL := Lib.hid hl; clear hl
  have hz : ((0 : Int) != 0) = false := rfl
  have HS := Lib.hid (H.out.set (a + n))
  by_cases hca : c = a
  · subst hca
    obtain rfl : n = 0 := by omega
    go_enter Try.func41, Try.ntmps41
    go_wp2_with (first | (go_at_call 35; refine (leftC_any B g _ bs c 0 _ H.out hb (by omega)).mono ?_; rintro e w0 ⟨rfl, rfl⟩; rw [HL.out]) | (go_at_call 11; refine (errC_any B g _ bs c 0 _ (by exact H.out)).mono ?_; rintro e w2 ⟨rfl, rfl⟩))
    have hC : CursorAt (w.setCell ⟨g, 1, none⟩ (.int .i64 ((c : Int)))).drew B g (.slice A bs.length c) bs (c + 0) 0 := HS.out.1
    have hO : Only (fun k => k = g) w (w.setCell ⟨g, 1, none⟩ (.int .i64 ((c : Int)))).drew := HS.out.2.drew
    generalize (w.setCell ⟨g, 1, none⟩ (.int .i64 ((c : Int)))).drew = W at *
    have d0 := hC.c0
    have d1 := hC.c1
    obtain ⟨s, hs⟩ : ∃ s, c + 0 = s := ⟨_, rfl⟩
    rw [hs] at d1
    have es : (s : Int) - 0 = c := by omega
    have ws : IntKind.i64.wrap (c : Int) = c := IntWalk.i64_in _ (by omega)
    have hs0 : (0 : Int) ≤ c := by omega
    have hs1 : (c : Int) ≤ s := by omega
    have hs2 : (s : Int) ≤ c := by omega
    have hs3 : (s : Int) - c = 0 := by omega
    have hs4 : c ≤ s := by omega
    have hs5 : s ≤ c := by omega
    have hs6 : s - c = 0 := by omega
    refine wp_region_still_lit (by kernel_rfl) (by kernel_rfl) ?_
    repeat still_step
    refine wpStill_nil ?_
    go_wp2_with fail
    go_ret
    exact ⟨A, 0, rfl, Nat.zero_le _, by rw [List.take_zero]; exact (Seen.of_own hC.2.2).empty, hC, hO.drew⟩
  · have hca1 : (c = a) = False := by simp [hca]
    go_enter Try.func41, Try.ntmps41
    go_wp2_with (first | (go_at_call 35; refine (leftC_any B g _ bs a 0 _ H.out hb (by omega)).mono ?_; rintro e w0 ⟨rfl, rfl⟩; rw [HL.out]) | (go_at_call 11; refine (errC_any B g _ bs a 0 _ (by exact H.out)).mono ?_; rintro e w2 ⟨rfl, rfl⟩))
    have hC : CursorAt (w.setCell ⟨g, 1, none⟩ (.int .i64 ((a : Int) + n))).drew B g (.slice A bs.length c) bs (a + n) 0 := HS.out.1
    have hO : Only (fun k => k = g) w (w.setCell ⟨g, 1, none⟩ (.int .i64 ((a : Int) + n))).drew := HS.out.2.drew
    generalize (w.setCell ⟨g, 1, none⟩ (.int .i64 ((a : Int) + n))).drew = W at *
    have d0 := hC.c0
    have d1 := hC.c1
    obtain ⟨s, hs⟩ : ∃ s, a + n = s := ⟨_, rfl⟩
    rw [hs] at d1
    have es : (s : Int) - n = a := by omega
    have ws : IntKind.i64.wrap (a : Int) = a := IntWalk.i64_in _ (by omega)
    have hs0 : (0 : Int) ≤ a := by omega
    have hs1 : (a : Int) ≤ s := by omega
    have hs2 : (s : Int) ≤ c := by omega
    have hs3 : (s : Int) - a = n := by omega
    have hs4 : a ≤ s := by omega
    have hs5 : s ≤ c := by omega
    have hs6 : s - a = n := by omega
    refine wp_region_still_lit (by kernel_rfl) (by kernel_rfl) ?_
    repeat still_step
    refine wpStill_nil ?_
    go_wp2_with fail
    go_ret
    refine ⟨_, _, rfl, Nat.le_trans (Nat.sub_le _ _) HCM.out, ?_, hC, hO.drew⟩
    have h3 := (Seen.of_own hC.2.2).cut hn
    rw [show bv ((bs.drop a).take n) = ((bv bs).drop a).take n by simp [bv, List.map_take, List.map_drop]]
    exact h3
/-- The error behind a reading of n bytes. -/
def cerr (err : Int) (may : Bool) (n left : Int) : Int := if err ≠ 0 then err else if may = false then 1 else if left < n then 6 else 0

/-- What a reading of n bytes gives: the bytes, the place, the error. -/
def nxt (bs : List Nat) (a : Nat) (err n : Int) (may : Bool) : List Nat × Nat × Int :=
  if cerr err may n ((bs.length : Int) - a) = 0 then ((bs.drop a).take n.toNat, a + n.toNat, 0) else ([], a, cerr err may n ((bs.length : Int) - a))

theorem nxt_place (bs : List Nat) (a : Nat) (err n : Int) (may : Bool) (h : may = true → 0 ≤ n) (ha : a ≤ bs.length) : (nxt bs a err n may).2.1 ≤ bs.length := by
  unfold nxt
  split
  · rename_i hc
    unfold cerr at hc
    split at hc
    · contradiction
    · split at hc
      · cases hc
      · split at hc
        · cases hc
        · rename_i h1 h2 h3
          have := h (by simpa using h2)
          simp only
          omega
  · exact ha
theorem nxt_short (bs : List Nat) (a : Nat) (err n : Int) (may : Bool) : (nxt bs a err n may).1.length ≤ n.toNat := by
  unfold nxt
  split <;> simp
  omega
theorem nxt_byte (bs : List Nat) (a : Nat) (err n : Int) (may : Bool) (h : ∀ x ∈ bs, x < 256) : ∀ x ∈ (nxt bs a err n may).1, x < 256 := by
  unfold nxt
  split
  · intro x hx
    exact h x (List.mem_of_mem_drop (List.mem_of_mem_take hx))
  · simp

def NextRes (w : World) (B g : Nat) (sv : Value) (bs : List Nat) (r : List Nat × Nat × Int) (e : Ending) (w' : World) : Prop :=
  ∃ A c, e = .returned (.slice A r.1.length c) ∧ c ≤ maxLen ∧ Seen w' w'.heap.size 1 A r.1.length c (bv r.1) ∧ CursorAt w' B g sv bs r.2.1 r.2.2 ∧ Only (fun k => k = g) w w'

theorem next_any (B g : Nat) (sv : Value) (bs : List Nat) (a : Nat) (err n : Int) (may : Bool) (w : World) (h : CursorAt w B g sv bs a err) (hb : bs.length ≤ 1000000) (ha : a ≤ bs.length) (hmay : may = true → 0 ≤ n) :
    Calls Try.prog 41 #[.pointer (some ⟨g, 0, none⟩), .int .i64 n, .bool may] w (NextRes w B g sv bs (nxt bs a err n may)) := by
  have bad : ∀ x, cerr err may n ((bs.length : Int) - a) = x → x ≠ 0 → ∀ e w', (e = .returned (.slice none 0 0) ∧ NextBad w B g sv bs a x w') → NextRes w B g sv bs (nxt bs a err n may) e w' := by
    rintro x hx hx0 e w' ⟨rfl, hC, hO⟩
    unfold nxt
    rw [if_neg (by rw [hx]; exact hx0), hx]
    exact ⟨none, 0, rfl, Nat.zero_le _, seen_nil _ _, hC, hO⟩
  have hcast : ((bs.length - a : Nat) : Int) = (bs.length : Int) - a := by omega
  cases may
  · refine (next_bad_may B g sv bs a err n w h).mono (bad _ ?_ ?_)
    · unfold cerr failed; split <;> simp [*]
    · unfold failed; split <;> simp [*]
  · have hn0 := hmay rfl
    by_cases hl : (bs.length : Int) - a < n
    · refine (next_bad_end B g sv bs a err n w h hb ha (by omega)).mono (bad _ ?_ ?_)
      · unfold cerr failed; split <;> simp [*]
      · unfold failed; split <;> simp [*]
    · by_cases he : err = 0
      · subst he
        obtain ⟨k, rfl⟩ := Int.eq_ofNat_of_zero_le hn0
        refine (next_ok B g sv bs a k w h hb (by omega)).mono ?_
        rintro e w' ⟨A, c, rfl, hc, hs, hC, hO⟩
        have hz : cerr 0 true (k : Int) ((bs.length : Int) - a) = 0 := by unfold cerr; simp [hl]
        have hnx : nxt bs a 0 k true = ((bs.drop a).take k, a + k, 0) := by
          unfold nxt
          rw [if_pos hz]
          rfl
        rw [hnx]
        have hlen : ((bs.drop a).take k).length = k := by simp; omega
        refine ⟨A, c, ?_, hc, ?_, hC, hO⟩
        · simp only [hlen]
        · simp only [hlen]
          exact hs
      · refine (next_bad_err B g sv bs a err n w h hb ha (by omega) he).mono (bad _ ?_ he)
        unfold cerr; simp [he]
end Go.Proofs.Ytmojclbejmnikaa
