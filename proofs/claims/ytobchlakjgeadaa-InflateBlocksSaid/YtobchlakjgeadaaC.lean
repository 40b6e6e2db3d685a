/-
  Contracts of the smallest functions: isWidth, lowest, Bits, Number, Clone of bytes. Conditions: each theorem names the range of its arguments.
-/
import Derived.Test.YtobchlakjgeadaaProg
import Derived.Test.YtobchlakjgeadaaA
import Derived.Test.YtobchlakjgeadaaB
import Derived.StillTailTactics
import Derived.Lib.SliceRun
namespace Go.Proofs.Ytobchlakjgeadaa
open Go.RowKit


theorem isWidth_yes (n : Int) (h0 : 0 ≤ n) (h1 : n ≤ 32) (w : World) :
    Calls Try.prog 47 #[.int .i64 n] w fun e w' => e = .returned (.bool true) ∧ w = w' := by
  go_enter Try.func47, Try.ntmps47
  go_wp2
  go_ret
  exact ⟨rfl, rfl⟩
theorem isWidth_no (n : Int) (h : n < 0 ∨ 32 < n) (w : World) :
    Calls Try.prog 47 #[.int .i64 n] w fun e w' => e = .returned (.bool false) ∧ w = w' := by
  rcases h with h | h
  · go_enter Try.func47, Try.ntmps47
    go_wp2
    go_ret
    exact ⟨rfl, rfl⟩
  · have h' : 0 ≤ n := by omega
    have h2 : decide (n ≤ 32) = false := by simp; omega
    go_enter Try.func47, Try.ntmps47
    go_wp2
    go_ret
    exact ⟨rfl, rfl⟩

theorem lowest_num (v n : Nat) (hv : v < 4294967296) (h1 : n ≤ 32) : bits BinOp.and IntKind.u32 (v : Int) ((2 ^ n - 1) % 4294967296) = ((v % 2 ^ n : Nat) : Int) := by
  have hp := pow_le_32 h1
  have hp1 : 1 ≤ 2 ^ n := Nat.one_le_two_pow
  have e : ((2 ^ n - 1) % 4294967296 : Int) = ((2 ^ n - 1 : Nat) : Int) := by
    have hc : ((2 : Int) ^ n) = ((2 ^ n : Nat) : Int) := (Int.natCast_pow 2 n).symm
    rw [hc]
    generalize 2 ^ n = p at *
    omega
  rw [e, u32_and_nat v _ hv (by omega), Nat.and_two_pow_sub_one_eq_mod]

theorem lowest_any (v n : Nat) (hv : v < 4294967296) (h1 : n ≤ 32) (w : World) :
    Calls Try.prog 48 #[.int .u32 v, .int .i64 n] w fun e w' => e = .returned (.int .u32 (v % 2^n : Nat)) ∧ w = w' := by
  go_enter Try.func48, Try.ntmps48
  go_wp2
  go_ret
  exact ⟨ret_int (lowest_num v n hv h1), rfl⟩

/-- What Bits gives, and every call that makes one row of its own. -/
def GivesRow (w : World) (e : TypeId) (size n : Nat) (xs : List Value) (end_ : Ending) (w' : World) : Prop :=
  ∃ v, end_ = .returned v ∧ w'.ownsRow w.heap.size e size v n xs ∧ Below w.heap.size w w'

theorem bool_info : (Try.prog.info? 4).map (fun i => (i.zero, i.size, i.bytes)) = some (some (.bool false), 1, 1) := by kernel_rfl
theorem byte_info : (Try.prog.info? 5).map (fun i => (i.zero, i.size, i.bytes)) = some (some (.int .u8 0), 1, 1) := by kernel_rfl

theorem bits_any (v n : Nat) (hv : v < 4294967296) (h : n ≤ 32) (w : World) :
    Calls Try.prog 28 #[.int .u32 v, .int .i64 n] w (GivesRow w 4 1 n ((bitsOf v n).map .bool)) := by
  obtain ⟨i0, hi0, hz0, hz1, hz2⟩ := info_parts bool_info
  go_enter Try.func28, Try.ntmps28
  go_wp2
  go_loopw [0, 5, 6] (fun x s i wr => ∃ k : Nat, k ≤ n ∧ i = .int .i64 k ∧ x = .int .u32 (v / 2 ^ k : Nat) ∧ wr.ownsRow w.heap.size 4 1 s k ((bitsOf v k).map .bool) ∧ Below w.heap.size w wr) (fun _ _ i _ => n - (intOf i).toNat)
  case atStart => exact ⟨0, Nat.zero_le _, rfl, by simp, World.ownsRow_nil _ _ _ _, Below.refl _ _⟩
  case round =>
    obtain ⟨k, hk, rfl, rfl, hown, hbel⟩ := hrel
    by_cases hlt : k < n
    · have hb : Hid (bitsOf v (k + 1) = bitsOf v k ++ [v / 2 ^ k % 2 == 1]) := bitsOf_succ v k
      have hd : Hid (v / 2 ^ (k + 1) = v / 2 ^ k / 2) := by
        show _ = _
        rw [Nat.pow_succ, Nat.div_div_eq_div_mul]
      have hx1 : v / 2 ^ k < 4294967296 := Nat.lt_of_le_of_lt (Nat.div_le_self _ _) hv
      have hsz := hbel.size
      generalize v / 2 ^ k = x at *
      have hlt1 := hown.lt
      go_wp2_with (at_builtin; refine wpList_append_seen _ rfl (.tmp 12) (.tmp 16) _ rfl w.heap.size 4 i0 _ 1 1 Try.underlying29 hi0 hz0 hz1 hz2 rfl (by omega) u5 k _ rfl (hown.alloc _) _ _ 1 1 _ rfl (seen_one _ _ _) (by simp [Value.oneCell']) (by simp [maxLen]; omega) (by omega) (by simp; omega) ?_; intro v1 w1 hown1 hg1 hat1)
      go_roundw
      case rel =>
        refine ⟨k + 1, by omega, by go_num, by rw [hd.out]; rfl, ?_, (hbel.alloc hsz _).grown hg1 (by simp; omega) (fun j hj => (hlt1 j hj).1)⟩
        rw [hb.out, List.map_append]
        have e : ((x : Int) % 2 == 1) = (x % 2 == 1) := by rw [Bool.eq_iff_iff]; simp; omega
        rw [e] at hown1
        exact hown1
      case measure => simp [intOf]; omega
    · obtain rfl : k = n := by omega
      go_wp2
      go_ret
      exact ⟨_, rfl, hown, hbel⟩


/-- Number of at most 32 bits. -/
theorem number_any (A : Option Addr) (n c : Nat) (l : List Bool) (hl : l.length = n) (h : n ≤ 32) (B : Nat) (w : World) (hs : Seen w B 1 A n c (l.map .bool)) :
    Calls Try.prog 31 #[.slice A n c] w fun e w' => e = .returned (.int .u32 (num l)) ∧ w = w' := by
  have HL := Lib.hid hl; clear hl
  have HS := Lib.hid hs; clear hs
  go_enter Try.func31, Try.ntmps31
  go_wp2
  go_loop [3, 4] (fun o i => ∃ k : Nat, k ≤ n ∧ i = .int .i64 ((k : Int) - 1) ∧ o = .int .u32 (num (l.drop k))) (fun _ i => (intOf i + 1).toNat)
  case atStart => exact ⟨n, Nat.le_refl _, rfl, by rw [List.drop_of_length_le (by rw [HL.out]; omega)]; rfl⟩
  case round =>
    obtain ⟨k, hk, rfl, rfl⟩ := hrel
    by_cases hlt : 0 < k
    · obtain ⟨j, rfl⟩ : ∃ j, k = j + 1 := ⟨k - 1, by omega⟩
      have hj : j < l.length := by have := HL.out; omega
      obtain ⟨b, o, u, rfl, hb, hu, hcell⟩ := HS.out.at (k := j) (by omega)
      have hu' : u = .bool l[j] := by simpa [hj] using hu.symm
      subst hu'
      have hd : Hid (l.drop j = l[j] :: l.drop (j + 1)) := List.drop_eq_getElem_cons hj
      have hn := num_lt (l.drop (j + 1))
      have hp : 2 ^ (l.drop (j + 1)).length ≤ 2147483648 := by
        have h2 := Nat.pow_le_pow_right (n := 2) (by omega) (show (l.drop (j + 1)).length ≤ 31 by have := HL.out; simp; omega)
        simpa using h2
      have e1 : (((j + 1 : Nat) : Int) - 1) = (j : Int) := by omega
      have hcell' : Hid (w.cell? ⟨b, o + j, none⟩ = some (.bool l[j])) := hcell
      clear hu hcell
      have hlast : Hid (num (l.drop j) = (if l[j] then 1 else 0) + 2 * num (l.drop (j + 1))) := by
        show _ = _
        rw [hd.out]; rfl
      generalize num (l.drop (j + 1)) = N at *
      generalize l[j] = bit at *
      rw [e1]
      have hc := hcell'.out
      cases bit
      all_goals
        go_wp2
        go_round
        case rel => exact ⟨j, by omega, by go_num, by rw [hlast.out]; simp; omega⟩
        case measure => simp [intOf]
    · obtain rfl : k = 0 := by omega
      go_wp2
      go_ret
      exact ⟨rfl, rfl⟩


theorem clone_any (A : Option Addr) (n c B : Nat) (xs : List Value) (w : World) (hs : Seen w B 1 A n c xs) (hB : B ≤ w.heap.size) (h1 : ∀ u ∈ xs, u.oneCell' = true) (hn : n ≤ 140737488355328) :
    Calls Try.prog 34 #[.slice A n c] w (GivesRow w 5 1 n xs) := by
  obtain ⟨i0, hi0, hz0, hz1, hz2⟩ := info_parts byte_info
  have HS := Lib.hid hs
  have q33 : ∀ (w : World) (a : Option Addr) (n c n' c' : Nat), (binOp .eql 22 (.slice a n c) (.slice none n' c')).run Try.prog w = .ok (.bool a.isNone) w := fun w a n c n' c' => Lib.run_eql_slice_nil w _ _ a n c n' c' Try.underlying22
  cases A with
  | none =>
    obtain ⟨g1, g2, g3⟩ := hs
    obtain rfl : c = 0 := by simpa using g3
    obtain rfl : n = 0 := by omega
    obtain rfl : xs = [] := List.eq_nil_of_length_eq_zero (by simpa using g1)
    clear g1 g2 g3
    go_enter Try.func34, Try.ntmps34
    go_wp2
    go_ret
    exact ⟨_, rfl, World.ownsRow_nil _ _ _ _, Below.refl _ _⟩
  | some a =>
    clear hs
    have H1 := Lib.hid h1; clear h1
    go_enter Try.func34, Try.ntmps34
    go_wp2_with (at_builtin; refine wpList_append_seen _ rfl (.tmp 5) (.tmp 6) _ rfl w.heap.size 5 i0 _ 1 1 Try.underlying22 hi0 hz0 hz1 hz2 rfl (by omega) (.slice (some ⟨w.heap.size, 0, none⟩) 0 0) 0 [] rfl (World.ownsRow_made w #[] 0 (Nat.le_refl _) (by simp [maxLen]) rfl) B (some a) n c xs rfl (HS.out.below ((Below.refl _ _).alloc hB _)) H1.out (by simp [maxLen]; omega) (by omega) (by simp) ?_; intro v1 w1 hown1 hg1 hat1)
    go_ret
    refine ⟨_, rfl, by simpa using hown1, ((Below.refl _ _).alloc (Nat.le_refl _) _).grown hg1 (by simp) (by simp [Value.ownBlock])⟩

theorem bytes_oneCell (l : List Nat) : ∀ u ∈ l.map (fun x : Nat => Value.int .u8 x), u.oneCell' = true := by
  intro u hu
  obtain ⟨_, _, rfl⟩ := List.mem_map.1 hu
  rfl

end Go.Proofs.Ytobchlakjgeadaa
