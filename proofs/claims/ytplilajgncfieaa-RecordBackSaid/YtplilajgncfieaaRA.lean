/-
  Numbers put one behind the other: put. Conditions: numbers of 1, 2, 4 or 8 bytes, at least one of them.
-/
import Derived.Test.YtplilajgncfieaaC1
namespace Go.Proofs.Ytplilajgncfieaa
open Go.RowKit

/-- The 64 bits that an int is. -/
def u64 (n : Int) : Nat := (n % 18446744073709551616).toNat
theorem u64_wrap (n : Int) : IntKind.u64.wrap n = (u64 n : Int) := by
  unfold u64
  have : IntKind.u64.wrap n = n % 18446744073709551616 := by simp [IntKind.wrap, IntKind.bits, IntKind.signed]
  omega
theorem u64_lt (n : Int) : u64 n < 18446744073709551616 := by unfold u64; omega
/-- Values of ints. -/
def iv (l : List Int) : List Value := l.map fun n => Value.int .i64 n
@[simp] theorem iv_length (l : List Int) : (iv l).length = l.length := List.length_map _
theorem iv_get (l : List Int) (i : Nat) (h : i < l.length) : (iv l)[i]? = some (.int .i64 l[i]) := by simp [iv, h]
theorem iv_oneCell (l : List Int) : ∀ u ∈ iv l, u.oneCell' = true := by
  intro u hu
  simp only [iv, List.mem_map] at hu
  obtain ⟨x, _, rfl⟩ := hu
  rfl
/-- Numbers' bytes, one number behind the other. -/
def putL (ns : List Int) (k : Nat) : List Nat := ns.flatMap fun n => leb (u64 n) k
theorem putL_length (ns : List Int) (k : Nat) : (putL ns k).length = ns.length * k := by
  induction ns with
  | nil => simp [putL]
  | cons a l ih => simp only [putL, List.flatMap_cons, List.length_append, leb_length, List.length_cons] at ih ⊢; rw [ih, Nat.succ_mul]; omega
theorem putL_lt (ns : List Int) (k : Nat) : ∀ x ∈ putL ns k, x < 256 := by
  intro x hx
  simp only [putL, List.mem_flatMap] at hx
  obtain ⟨n, _, h⟩ := hx
  exact leb_lt _ _ x h
theorem putL_take (ns : List Int) (k j : Nat) (h : j < ns.length) : putL (ns.take (j + 1)) k = putL (ns.take j) k ++ leb (u64 ns[j]) k := by
  unfold putL
  rw [List.take_succ_eq_append_getElem h, List.flatMap_append]
  simp

/-- Block facts, behind what changed only newer blocks. -/
theorem Whole.bel {w w' : World} {g : Nat} {t : TypeId} {cs : Array Value} (h : Whole w g t cs) (hb : Below w.heap.size w w') : Whole w' g t cs := (hb.block g h.lt).trans h
theorem Seen.bel {w w' : World} {size n c : Nat} {A : Option Addr} {xs : List Value} (h : Seen w w.heap.size size A n c xs) (hb : Below w.heap.size w w') : Seen w' w'.heap.size size A n c xs := (h.below hb).more hb.size
theorem bel_after {B : Nat} {a w w' : World} (h : Below B a w) (hB : B ≤ a.heap.size) (hb : Below w.heap.size w w') : Below B a w' := h.trans (hb.mono (Nat.le_trans hB h.size))

set_option maxHeartbeats 1000000 in
theorem put_any (A : Option Addr) (c B n : Nat) (bs : List Nat) (hn : bs.length = n) (An : Option Addr) (cN Bn m : Nat) (ns : List Int) (hm : ns.length = m) (k : Nat) (z : Int) (hk : Wide z) (hz : z = k) (w : World) (hs : Seen w B 1 A n c (bv bs)) (hB : B ≤ w.heap.size) (hle : n + 8 * m ≤ 1000000)
    (hN : Seen w Bn 1 An m cN (iv ns)) (hBn : Bn ≤ w.heap.size) (hpos : 0 < m) :
    Calls Try.prog 27 #[.slice A n c, .int .i64 z, .slice An m cN] w (GivesBlock w (bs ++ putL ns k)) := by
  have hk8 : k ≤ 8 := by rcases hk with h | h | h | h <;> omega
  have HK := Lib.hid hk; clear hk
  have HS := Lib.hid (hs.more hB); clear hs hB B
  have HN := Lib.hid (hN.more hBn); clear hN hBn Bn
  have HL := Lib.hid hn; clear hn
  have HM := Lib.hid hm; clear hm
  have HZ := Lib.hid hz; clear hz
  go_enter Try.func27, Try.ntmps27
  go_wp2_with fail
  go_loopw [0, 11] (fun s i wr => ∃ j : Nat, j ≤ m ∧ i = .int .i64 j ∧ Below w.heap.size w wr ∧ ∃ A' c', s = .slice A' (bs ++ putL (ns.take j) k).length c' ∧ Seen wr wr.heap.size 1 A' (bs ++ putL (ns.take j) k).length c' (bv (bs ++ putL (ns.take j) k)) ∧ (0 < j → ∃ g, A' = some ⟨g, 0, none⟩ ∧ c' = (bs ++ putL (ns.take j) k).length ∧ Whole wr g 5 (bv (bs ++ putL (ns.take j) k)).toArray ∧ w.heap.size ≤ g)) (fun _ i _ => m - (intOf i).toNat)
  case atStart => exact ⟨0, Nat.zero_le _, rfl, Below.refl _ _, A, c, by simp [putL, HL.out], by simpa [putL, HL.out] using HS.out, fun h => absurd h (by omega)⟩
  case round =>
    obtain ⟨j, hj, rfl, hbel, A', c', rfl, hseen, hwh⟩ := hrel
    by_cases hlt : j < m
    · have hjl : j < ns.length := by rw [HM.out]; exact hlt
      obtain ⟨b, o, u, rfl, hbk, hu, hcell⟩ := (HN.out.below hbel).at (k := j) hlt
      have hu' : u = .int .i64 ns[j] := by rw [iv_get _ _ hjl] at hu; exact (Option.some.inj hu).symm
      subst hu'
      clear hu hwh
      have ht := Lib.hid (putL_take ns k j hjl)
      have hlen : (bs ++ putL (ns.take j) k).length ≤ 999992 := by
        rw [List.length_append, HL.out, putL_length, List.length_take, HM.out, Nat.min_eq_left hj]
        have : j * k ≤ j * 8 := Nat.mul_le_mul_left _ hk8
        omega
      generalize hy : ns[j] = y at *
      have hc := u64_wrap y
      have hj0 : (0 : Int) ≤ j := by omega
      have L := Lib.hid (little_go A' c' wr.heap.size (bs ++ putL (ns.take j) k) wr hseen (Nat.le_refl _) (by omega) (u64 y) k hk8 z (.inl ⟨HK.out, HZ.out⟩))
      have HBel := Lib.hid hbel; clear hbel hseen hlen hy
      obtain ⟨ws, hws⟩ : ∃ ws, bs ++ putL (ns.take j) k = ws := ⟨_, rfl⟩
      rw [hws] at L ⊢
      have HW := Lib.hid hws; clear hws
      go_wp2_with (go_at_call 46; refine (L.out).mono ?_; rintro e w1 ⟨g, rfl, hwg, hg, hb1⟩)
      have hx : bs ++ putL (ns.take (j + 1)) k = ws ++ leb (u64 y) k := by rw [ht.out, ← List.append_assoc, HW.out]
      have HB1 := Lib.hid hb1; clear hb1
      go_roundw
      case rel =>
        refine ⟨j + 1, by omega, by go_num, bel_after HBel.out (Nat.le_refl _) HB1.out, some ⟨g, 0, none⟩, _, ?_, ?_, fun _ => ⟨g, rfl, rfl, ?_, Nat.le_trans HBel.out.size hg⟩⟩
        · rw [hx]; simp
        · rw [hx]; exact seen_block hwg
        · rw [hx]; exact hwg
      case measure => simp [intOf]; omega
    · obtain rfl : m = j := by omega
      obtain ⟨g, rfl, rfl, hwg, hg⟩ := hwh hpos
      have ht : ns.take m = ns := List.take_of_length_le (by rw [HM.out]; exact Nat.le_refl _)
      rw [ht] at hwg ⊢
      have HWG := Lib.hid hwg; clear hwg
      go_wp2_with fail
      go_ret
      exact ⟨g, by simp, HWG.out, hg, hbel⟩
end Go.Proofs.Ytplilajgncfieaa
