/-
  Contracts of the cursor: Big, Little, Take, End. Conditions: the cursor stands as told (CursorAt), over at most a million bytes.
-/
import Derived.Test.YtmojclbejmnikaaC3
namespace Go.Proofs.Ytmojclbejmnikaa
open Go.RowKit

instance (n : Int) : Decidable (Wide n) := by unfold Wide; exact inferInstance

/-- A number was read: the cursor stands where nxt says. -/
def NumRes (w : World) (B g : Nat) (sv : Value) (bs : List Nat) (r : List Nat × Nat × Int) (x : Nat) (e : Ending) (w' : World) : Prop :=
  e = .returned (.int .u64 x) ∧ CursorAt w' B g sv bs r.2.1 r.2.2 ∧ Only (fun k => k = g) w w'

theorem big_take (l : List Nat) (j : Nat) (h : j < l.length) : big_ (l.take (j + 1)) = big_ (l.take j) * 256 + l[j] := by
  rw [List.take_succ_eq_append_getElem h, big_append]
theorem big_small (l : List Nat) (j : Nat) (hl : ∀ x ∈ l, x < 256) (hj : j ≤ l.length) : big_ (l.take j) < 256 ^ j := by
  have := big_lt (l.take j) (fun x hx => hl x (List.mem_of_mem_take hx))
  rwa [List.length_take, Nat.min_eq_left hj] at this
theorem pow256_le {j : Nat} (h : j ≤ 7) : 256 ^ j ≤ 72057594037927936 := by
  have := Nat.pow_le_pow_right (n := 256) (by omega) h
  simpa using this

theorem widthC_any (n : Int) (w : World) : Calls Try.prog 42 #[.int .i64 n] w fun e w' => e = .returned (.bool (decide (Wide n))) ∧ w = w' := by
  by_cases h : Wide n
  · simpa [h] using widthC_yes n h w
  · simpa [h] using widthC_no n h w

theorem Wide.nonneg {n : Int} (h : decide (Wide n) = true) : 0 ≤ n := by
  have h := of_decide_eq_true h
  rcases h with rfl | rfl | rfl | rfl <;> omega
theorem Wide.le8 {n : Int} (h : decide (Wide n) = true) : n ≤ 8 := by
  have h := of_decide_eq_true h
  rcases h with rfl | rfl | rfl | rfl <;> omega

theorem nxt_le8 (bs : List Nat) (a : Nat) (err n : Int) : (nxt bs a err n (decide (Wide n))).1.length ≤ 8 := by
  have h := nxt_short bs a err n (decide (Wide n))
  by_cases hw : Wide n
  · have := Wide.le8 (decide_eq_true hw)
    omega
  · have : (nxt bs a err n (decide (Wide n))).1 = [] := by
      unfold nxt cerr
      simp only [decide_eq_false hw]
      by_cases he : err = 0 <;> simp [he]
    rw [this]; simp

set_option maxHeartbeats 1000000 in
theorem bigC_any (B g : Nat) (sv : Value) (bs : List Nat) (a : Nat) (err n : Int) (w : World) (h : CursorAt w B g sv bs a err) (hb : bs.length ≤ 1000000) (ha : a ≤ bs.length) (h256 : ∀ x ∈ bs, x < 256) :
    Calls Try.prog 24 #[.pointer (some ⟨g, 0, none⟩), .int .i64 n] w (NumRes w B g sv bs (nxt bs a err n (decide (Wide n))) (big_ (nxt bs a err n (decide (Wide n))).1)) := by
  have H := Lib.hid h; clear h
  have h8 := nxt_le8 bs a err n
  have hby := nxt_byte bs a err n (decide (Wide n)) h256
  obtain ⟨may, hmay⟩ : ∃ may, decide (Wide n) = may := ⟨_, rfl⟩
  rw [hmay] at h8 hby ⊢
  have HMy := Lib.hid hmay; clear hmay
  have HN := Lib.hid (next_any B g sv bs a err n may w H.out hb ha (fun e => Wide.nonneg (HMy.out.trans e)))
  obtain ⟨r, hr⟩ : ∃ r, nxt bs a err n may = r := ⟨_, rfl⟩
  rw [hr] at h8 hby HN ⊢
  obtain ⟨xs, a', err'⟩ := r
  simp only at h8 hby HN ⊢
  clear hr
  have HBy := Lib.hid hby; clear hby h256
  go_enter Try.func24, Try.ntmps24
  go_wp2_with (first | (go_at_call 42; refine (widthC_any n _).mono ?_; rintro e w0 ⟨rfl, rfl⟩; rw [HMy.out]) | (go_at_call 41; refine HN.out.mono ?_; rintro e w1 ⟨A, c, rfl, hc, hs, hC, hO⟩))
  have HS := Lib.hid hs; clear hs
  have HC := Lib.hid hC; clear hC
  have HO := Lib.hid hO; clear hO
  obtain ⟨m, hm⟩ : ∃ m, xs.length = m := ⟨_, rfl⟩
  rw [hm] at h8 HS ⊢
  have HM := Lib.hid hm; clear hm
  go_loop [5, 14] (fun x i => ∃ j : Nat, j ≤ m ∧ i = .int .i64 j ∧ x = .int .u64 (big_ (xs.take j))) (fun _ i => m - (intOf i).toNat)
  case atStart => exact ⟨0, Nat.zero_le _, rfl, by simp [big_]⟩
  case round =>
    obtain ⟨j, hj, rfl, rfl⟩ := hrel
    by_cases hlt : j < m
    · have hjl : j < xs.length := by rw [HM.out]; exact hlt
      have ht := Lib.hid (big_take xs j hjl)
      have hsm := big_small xs j HBy.out (by rw [HM.out]; omega)
      have hp := pow256_le (show j ≤ 7 by omega)
      obtain ⟨b, o, u, rfl, hbk, hu, hcell⟩ := HS.out.at (k := j) hlt
      have hu' : u = .int .u8 (xs[j] : Nat) := by rw [bv_get _ _ hjl] at hu; exact (Option.some.inj hu).symm
      subst hu'
      have hx := HBy.out _ (List.getElem_mem hjl)
      clear hu
      generalize big_ (xs.take j) = N at *
      generalize xs[j] = y at *
      have hj0 : (0 : Int) ≤ j := by omega
      have eo : Hid (bits BinOp.or IntKind.u64 ((N : Int) * 256) (y : Int) = ((N * 256 + y : Nat) : Int)) := by
        show _ = _
        rw [show (N : Int) * 256 = ((N * 256 : Nat) : Int) by omega, u64_or_nat _ _ (by omega) (by omega), nat_join 8 _ _ (by omega) (by omega)]
      go_wp2_with fail
      go_round
      case rel => exact ⟨j + 1, by omega, by go_num, by rw [ht.out, eo.out]⟩
      case measure => simp [intOf]; omega
    · obtain rfl : m = j := by omega
      go_wp2_with fail
      go_ret
      refine ⟨?_, HC.out, HO.out⟩
      rw [List.take_of_length_le (by rw [HM.out]; exact Nat.le_refl _)]
      rfl
theorem len_append (l : List Nat) (x : Nat) : len_ (l ++ [x]) = len_ l + 256 ^ l.length * x := by
  induction l with
  | nil => simp [len_]
  | cons a l ih =>
    have h1 : ∀ t, len_ (a :: t) = a + 256 * len_ t := fun _ => rfl
    rw [List.cons_append, h1, h1, ih, List.length_cons, Nat.pow_succ, Nat.mul_add]
    rw [show 256 * (256 ^ l.length * x) = 256 ^ l.length * 256 * x by rw [← Nat.mul_assoc, Nat.mul_comm 256]]
    omega
theorem len_take (l : List Nat) (j : Nat) (h : j < l.length) : len_ (l.take (j + 1)) = len_ (l.take j) + 256 ^ j * l[j] := by
  rw [List.take_succ_eq_append_getElem h, len_append, List.length_take, Nat.min_eq_left (by omega)]
theorem len_small (l : List Nat) (j : Nat) (hl : ∀ x ∈ l, x < 256) (hj : j ≤ l.length) : len_ (l.take j) < 256 ^ j := by
  have := big_lt (l.take j).reverse (fun x hx => hl x (List.mem_of_mem_take (List.mem_reverse.1 hx)))
  rwa [big_reverse, List.length_reverse, List.length_take, Nat.min_eq_left hj] at this
theorem or_byte (N y j : Nat) (hN : N < 256 ^ j) (hy : y < 256) (hj : j ≤ 7) : bits BinOp.or IntKind.u64 (N : Int) (IntKind.u64.wrap ((y : Int) * 2 ^ (8 * j))) = ((N + 256 ^ j * y : Nat) : Int) := by
  have hp := pow256_le hj
  have e0 : (256 : Nat) ^ j = 2 ^ (8 * j) := by rw [Nat.pow_mul]
  have h1 : y * 2 ^ (8 * j) < 18446744073709551616 := by
    rw [← e0]
    have h2 : y * 256 ^ j ≤ 255 * 256 ^ j := Nat.mul_le_mul_right _ (by omega)
    omega
  have e : IntKind.u64.wrap ((y : Int) * 2 ^ (8 * j)) = ((y * 2 ^ (8 * j) : Nat) : Int) := by
    rw [show ((y : Int) * 2 ^ (8 * j)) = ((y * 2 ^ (8 * j) : Nat) : Int) by simp, IntWalk.u64_in _ (by omega)]
  rw [e, u64_or_nat _ _ (by omega) h1, Nat.or_comm, nat_join (8 * j) _ _ (Nat.mul_mod_left _ _) (by rw [← e0]; exact hN), ← e0]
  congr 1
  rw [Nat.add_comm, Nat.mul_comm]

/-- Bytes were read: a new row of them. -/
def TakeRes (w : World) (B g : Nat) (sv : Value) (bs : List Nat) (r : List Nat × Nat × Int) (e : Ending) (w' : World) : Prop :=
  ∃ v, e = .returned v ∧ w'.ownsRow w.heap.size 5 1 v r.1.length (bv r.1) ∧ CursorAt w' B g sv bs r.2.1 r.2.2 ∧ Only (fun k => k = g) w w'

theorem takeC_any (B g : Nat) (sv : Value) (bs : List Nat) (a : Nat) (err n : Int) (w : World) (h : CursorAt w B g sv bs a err) (hb : bs.length ≤ 1000000) (ha : a ≤ bs.length) :
    Calls Try.prog 43 #[.pointer (some ⟨g, 0, none⟩), .int .i64 n] w (TakeRes w B g sv bs (nxt bs a err n (decide (0 ≤ n)))) := by
  have H := Lib.hid h; clear h
  have hpl := nxt_short bs a err n (decide (0 ≤ n))
  have hle : (nxt bs a err n (decide (0 ≤ n))).1.length ≤ 1000000 := by
    unfold nxt
    split
    · simp; omega
    · simp
  obtain ⟨may, hmay⟩ : ∃ may, decide (0 ≤ n) = may := ⟨_, rfl⟩
  rw [hmay] at hle ⊢
  have HN := Lib.hid (next_any B g sv bs a err n may w H.out hb ha (fun e => of_decide_eq_true (hmay.trans e)))
  obtain ⟨r, hr⟩ : ∃ r, nxt bs a err n may = r := ⟨_, rfl⟩
  rw [hr] at HN hle ⊢
  obtain ⟨xs, a', err'⟩ := r
  simp only at HN hle ⊢
  clear hr hpl
  go_enter Try.func43, Try.ntmps43
  go_wp2_with (first | (go_at_call 41; refine HN.out.mono ?_; rintro e w1 ⟨A, c, rfl, hc, hs, hC, hO⟩) | (go_at_call 23; refine (clone_any A _ c _ _ _ hs (Nat.le_refl _) (bv_oneCell _) (by omega)).mono ?_; rintro e w2 ⟨v, rfl, hown, hbel⟩))
  go_ret
  exact ⟨v, rfl, own_base hown hO.size, hC.only (Only.of_below hbel Nob) (fun _ _ h => h), hO.trans (Only.of_below hbel _)⟩

/-- The error behind End. -/
def endErr (bs : List Nat) (a : Nat) (err : Int) : Int := if a < bs.length then failed err 2 else err

theorem endC_any (B g : Nat) (sv : Value) (bs : List Nat) (a : Nat) (err : Int) (w : World) (h : CursorAt w B g sv bs a err) (hb : bs.length ≤ 1000000) (ha : a ≤ bs.length) :
    Calls Try.prog 17 #[.pointer (some ⟨g, 0, none⟩)] w fun e w' => e = .returned (.int .i64 (endErr bs a err)) ∧ NextBad w B g sv bs a (endErr bs a err) w' := by
  have H := Lib.hid h; clear h
  obtain ⟨l, hl⟩ : ∃ l, bs.length - a = l := ⟨_, rfl⟩
  have HL := Lib.hid hl
  by_cases hlt : a < bs.length
  · have hl0 : 0 < l := by omega
    have hx : endErr bs a err = failed err 2 := by unfold endErr; rw [if_pos hlt]
    rw [hx]
    clear hl hx
    go_enter Try.func17, Try.ntmps17
    go_wp2_with (first | (go_at_call 35; refine (leftC_any B g _ bs a err _ H.out hb ha).mono ?_; rintro e w0 ⟨rfl, rfl⟩; rw [HL.out]) | (go_at_call 26; refine (failC_any B g sv bs a err 2 _ (by exact H.out)).mono ?_; rintro e w1 ⟨rfl, hC, hO⟩) | (go_at_call 11; refine (errC_any B g _ bs a _ _ hC).mono ?_; rintro e w2 ⟨rfl, rfl⟩))
    go_ret
    exact ⟨rfl, hC, ⟨hO.os, hO.tape, hO.output, hO.size, hO.block⟩⟩
  · obtain rfl : l = 0 := by omega
    have hx : endErr bs a err = err := by unfold endErr; rw [if_neg hlt]
    rw [hx]
    clear hl hx
    go_enter Try.func17, Try.ntmps17
    go_wp2_with (first | (go_at_call 35; refine (leftC_any B g _ bs a err _ H.out hb ha).mono ?_; rintro e w0 ⟨rfl, rfl⟩; rw [HL.out]) | (go_at_call 11; refine (errC_any B g _ bs a _ _ (by exact H.out)).mono ?_; rintro e w2 ⟨rfl, rfl⟩))
    go_ret
    exact ⟨rfl, H.out, (Only.refl _ _).drew⟩
end Go.Proofs.Ytmojclbejmnikaa
