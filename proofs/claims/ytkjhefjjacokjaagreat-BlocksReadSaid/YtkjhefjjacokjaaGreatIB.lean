/-
  The document's reader, and what lengths make. Conditions: each theorem names its own.
  The document's words. Conditions: each theorem names its own.
-/
import Derived.Test.YtkjhefjjacokjaaGreatH
import Derived.Test.YtkjhefjjacokjaaGreatW5
import Derived.Test.YtkjhefjjacokjaaGreatF
import Derived.Test.YtkjhefjjacokjaaGreatLT
import Derived.Test.YtkjhefjjacokjaaGreatTF
import Derived.StillTailTactics
import Derived.Lib.SliceRun
import Derived.Deep.LoopGhost
import Derived.OwnWalk
import Derived.RegionTactic
import Derived.Deep.WholeRow
import Derived.Test.YtkjhefjjacokjaaGreatZ4
namespace Go.Proofs.YtkjhefjjacokjaaGreat
open Go.RowKit
set_option maxRecDepth 100000
theorem rbits_any (v n : Nat) (hv : v < 4294967296) (h : n ≤ 32) (w : World) :
    Calls Tryz.prog 64 #[.int .u32 v, .int .i64 n] w (GivesRow w 4 1 n ((bitsOf v n).map .bool)) := by
  obtain ⟨i0, hi0, hz0, hz1, hz2⟩ := info_parts bool_info
  go_enter Tryz.func64, Tryz.ntmps64
  go_wp2
  go_loopw [0, 5, 6] (fun x s i wr => ∃ k : Nat, k ≤ n ∧ i = .int .i64 k ∧ x = .int .u32 (v / 2 ^ k : Nat) ∧ wr.ownsRow w.heap.size 4 1 s k ((bitsOf v k).map .bool) ∧ Below w.heap.size w wr) (fun _ _ i _ => n - (intOf i).toNat)
  case atStart => exact ⟨0, Nat.zero_le _, rfl, by simp, World.ownsRow_nil _ _ _ _, Below.refl _ _⟩
  case round =>
    obtain ⟨k, hk, rfl, rfl, hown, hbel⟩ := hrel
    by_cases hlt : k < n
    · have hb : Hid (bitsOf v (k + 1) = bitsOf v k ++ [v / 2 ^ k % 2 == 1]) := bitsOf_succ v k
      have hd : Hid (v / 2 ^ (k + 1) = v / 2 ^ k / 2) := by
        show _ = _
        rw [Nat.pow_succ, Nat.div_div_eq_div_mul]
      have hx1 : v / 2 ^ k < 4294967296 := Nat.lt_of_le_of_lt (Nat.div_le_self _ _) hv
      have hsz := hbel.size
      generalize v / 2 ^ k = x at *
      have hlt1 := hown.lt
      go_wp2_with (at_builtin; refine wpList_append_seen _ rfl (.tmp 12) (.tmp 16) _ rfl w.heap.size 4 i0 _ 1 1 Tryz.underlying70 hi0 hz0 hz1 hz2 rfl (by omega) u5 k _ rfl (hown.alloc _) _ _ 1 1 _ rfl (seen_one _ _ _) (by simp [Value.oneCell']) (by simp [maxLen]; omega) (by omega) (by simp; omega) ?_; intro v1 w1 hown1 hg1 hat1)
      go_roundw
      case rel =>
        refine ⟨k + 1, by omega, by go_num, by rw [hd.out]; rfl, ?_, (hbel.alloc hsz _).grown hg1 (by simp; omega) (fun j hj => (hlt1 j hj).1)⟩
        rw [hb.out, List.map_append]
        have e : ((x : Int) % 2 == 1) = (x % 2 == 1) := by rw [Bool.eq_iff_iff]; simp; omega
        rw [e] at hown1
        exact hown1
      case measure => simp [intOf]; omega
    · obtain rfl : k = n := by omega
      go_wp2
      go_ret
      exact ⟨_, rfl, hown, hbel⟩
/-- Number of at most 32 bits. -/
theorem number_any (A : Option Addr) (n c : Nat) (l : List Bool) (hl : l.length = n) (h : n ≤ 32) (B : Nat) (w : World) (hs : Seen w B 1 A n c (l.map .bool)) :
    Calls Tryz.prog 84 #[.slice A n c] w fun e w' => e = .returned (.int .u32 (num l)) ∧ w = w' := by
  have HL := Lib.hid hl; clear hl
  have HS := Lib.hid hs; clear hs
  go_enter Tryz.func84, Tryz.ntmps84
  go_wp2
  go_loop [3, 4] (fun o i => ∃ k : Nat, k ≤ n ∧ i = .int .i64 ((k : Int) - 1) ∧ o = .int .u32 (num (l.drop k))) (fun _ i => (intOf i + 1).toNat)
  case atStart => exact ⟨n, Nat.le_refl _, rfl, by rw [List.drop_of_length_le (by rw [HL.out]; omega)]; rfl⟩
  case round =>
    obtain ⟨k, hk, rfl, rfl⟩ := hrel
    by_cases hlt : 0 < k
    · obtain ⟨j, rfl⟩ : ∃ j, k = j + 1 := ⟨k - 1, by omega⟩
      have hj : j < l.length := by have := HL.out; omega
      obtain ⟨b, o, u, rfl, hb, hu, hcell⟩ := HS.out.at (k := j) (by omega)
      have hu' : u = .bool l[j] := by simpa [hj] using hu.symm
      subst hu'
      have hd : Hid (l.drop j = l[j] :: l.drop (j + 1)) := List.drop_eq_getElem_cons hj
      have hn := num_lt (l.drop (j + 1))
      have hp : 2 ^ (l.drop (j + 1)).length ≤ 2147483648 := by
        have h2 := Nat.pow_le_pow_right (n := 2) (by omega) (show (l.drop (j + 1)).length ≤ 31 by have := HL.out; simp; omega)
        simpa using h2
      have e1 : (((j + 1 : Nat) : Int) - 1) = (j : Int) := by omega
      have hcell' : Hid (w.cell? ⟨b, o + j, none⟩ = some (.bool l[j])) := hcell
      clear hu hcell
      have hlast : Hid (num (l.drop j) = (if l[j] then 1 else 0) + 2 * num (l.drop (j + 1))) := by
        show _ = _
        rw [hd.out]; rfl
      generalize num (l.drop (j + 1)) = N at *
      generalize l[j] = bit at *
      rw [e1]
      have hc := hcell'.out
      cases bit
      all_goals
        go_wp2
        go_round
        case rel => exact ⟨j, by omega, by go_num, by rw [hlast.out]; simp; omega⟩
        case measure => simp [intOf]
    · obtain rfl : k = 0 := by omega
      go_wp2
      go_ret
      exact ⟨rfl, rfl⟩
theorem unpack_snoc (l : List Nat) (x : Nat) : unpack (l ++ [x]) = unpack l ++ bitsOf x 8 := by simp [unpack]
theorem refOf_any (A : Option Addr) (c B : Nat) (bs : List Nat) (n : Nat) (hn : bs.length = n) (w : World) (hs : Seen w B 1 A n c (bs.map fun x : Nat => Value.int .u8 x)) (hB : B ≤ w.heap.size) (hl : n ≤ 100000) (h256 : ∀ x ∈ bs, x < 256) :
    Calls Tryz.prog 37 #[.slice A n c] w (GivesRow w 4 1 (8 * n) ((unpack bs).map .bool)) := by
  obtain ⟨i0, hi0, hz0, hz1, hz2⟩ := info_parts bool_info
  have HS := Lib.hid hs; clear hs
  have HN := Lib.hid hn; clear hn
  have H256 := Lib.hid h256; clear h256
  go_enter Tryz.func37, Tryz.ntmps37
  go_wp2
  go_loopw [3, 8] (fun s i wr => ∃ k : Nat, k ≤ n ∧ i = .int .i64 k ∧ wr.ownsRow w.heap.size 4 1 s (8 * k) ((unpack (bs.take k)).map .bool) ∧ Below w.heap.size w wr) (fun _ i _ => n - (intOf i).toNat)
  case atStart => exact ⟨0, Nat.zero_le _, rfl, World.ownsRow_nil _ _ _ _, Below.refl _ _⟩
  case round =>
    obtain ⟨k, hk, rfl, hown, hbel⟩ := hrel
    by_cases hlt : k < n
    · have hkl : k < bs.length := by rw [HN.out]; exact hlt
      obtain ⟨b, o, u, rfl, hb, hu, hcell⟩ := (HS.out.below (hbel.mono hB)).at (k := k) hlt
      have hu' : u = .int .u8 (bs[k] : Nat) := by simpa [hkl] using hu.symm
      subst hu'
      have hx := H256.out _ (List.getElem_mem hkl)
      have hsn : Hid (unpack (bs.take (k + 1)) = unpack (bs.take k) ++ bitsOf bs[k] 8) := by
        show _ = _
        rw [List.take_succ_eq_append_getElem hkl, unpack_snoc]
      clear hu
      generalize bs[k] = x at *
      have wx : IntKind.u32.wrap (x : Int) = x := IntWalk.u32_in _ (by omega)
      have HOwn := Lib.hid hown; clear hown
      have HBel := Lib.hid hbel; clear hbel
      go_wp2_with fail
      refine (rbits_any x 8 (by omega) (by omega) _).mono ?_; rintro e w1 ⟨v1, rfl, ho1, hb1⟩
      obtain ⟨A1, c1, rfl, hc1, hs1⟩ := own_seen ho1
      have HS1 := Lib.hid hs1
      have HB1 := Lib.hid (HBel.out.trans (hb1.mono HBel.out.size))
      have HO1 := Lib.hid (own_only HOwn.out (Only.of_below hb1 Nob) (fun _ _ h => h))
      have HLT := Lib.hid HOwn.out.lt
      have hsz := HB1.out.size
      clear ho1 hs1 hb1
      go_wp2_with (at_builtin; refine wpList_append_seen _ rfl (.tmp 12) (.tmp 15) _ rfl w.heap.size 4 i0 _ 1 1 Tryz.underlying70 hi0 hz0 hz1 hz2 rfl (by omega) u3 (8 * k) _ rfl HO1.out _ A1 8 c1 _ rfl HS1.out (by intro u hu; obtain ⟨_, _, rfl⟩ := List.mem_map.1 hu; rfl) (by simp only [maxLen]; omega) (by omega) hsz ?_; intro v2 w2 hown2 hg2 hat2)
      go_roundw
      case rel =>
        refine ⟨k + 1, by omega, by go_num, ?_, HB1.out.grown hg2 hsz (fun i hi => (HLT.out i hi).1)⟩
        rw [hsn.out, List.map_append, show 8 * (k + 1) = 8 * k + 8 by omega]
        exact hown2
      case measure => simp [intOf]; omega
    · obtain rfl : n = k := by omega
      rw [List.take_of_length_le (by rw [HN.out]; exact Nat.le_refl _)] at hown
      go_wp2_with fail
      go_ret
      exact ⟨_, rfl, hown, hbel⟩
/-- The document's bytes of bits. -/
theorem refBytes_any (A : Option Addr) (n c B : Nat) (l : List Bool) (hl : l.length = n) (hn : n ≤ 1000000) (w : World) (hs : Seen w B 1 A n c (l.map .bool)) (hB : B ≤ w.heap.size) :
    Calls Tryz.prog 85 #[.slice A n c] w (GivesRow w 5 1 ((n + 7) / 8) ((pack l).map fun x : Nat => Value.int .u8 x)) := by
  obtain ⟨i0, hi0, hz0, hz1, hz2⟩ := info_parts byte_info
  have hnc := hs.2.1
  have HS := Lib.hid hs; clear hs
  have HL := Lib.hid hl; clear hl
  go_enter Tryz.func85, Tryz.ntmps85
  go_wp2
  go_loopw [3, 4] (fun s i wr => ∃ k : Nat, 8 * k ≤ n + 7 ∧ i = .int .i64 (8 * k : Nat) ∧ wr.ownsRow w.heap.size 5 1 s k (((pack l).take k).map fun x : Nat => Value.int .u8 x) ∧ Below w.heap.size w wr) (fun _ i _ => n + 8 - (intOf i).toNat)
  case atStart => exact ⟨0, by omega, rfl, World.ownsRow_nil _ _ _ _, Below.refl _ _⟩
  case round =>
    obtain ⟨k, hk, rfl, hown, hbel⟩ := hrel
    obtain ⟨a, ha⟩ : ∃ a, 8 * k = a := ⟨_, rfl⟩
    rw [ha]
    have HA := Lib.hid ha; clear ha
    have hsz := hbel.size
    have hlt1 := hown.lt
    have HLT := Lib.hid hlt1; clear hlt1
    by_cases hlt : a < n
    · have hca : (c = a) = False := by simp; omega
      have hS2 := HS.out.below (hbel.mono hB)
      have hk2 : k < (l.length + 7) / 8 := by have := HA.out; have := HL.out; omega
      have hk3 : k ≤ 1000000 := by omega
      have htake0 : (pack l).take (k + 1) = (pack l).take k ++ [num ((l.drop a).take 8)] := by
        have h1 := pack_get l k hk2
        rw [HA.out] at h1
        rw [List.getElem?_eq_getElem (by simpa using hk2)] at h1
        rw [List.take_succ_eq_append_getElem (by simpa using hk2), Option.some.inj h1]
      have hnum : num ((l.drop a).take 8) < 256 := by
        have h1 := num_lt ((l.drop a).take 8)
        have h2 : ((l.drop a).take 8).length ≤ 8 := by simp; omega
        have := Nat.pow_le_pow_right (n := 2) (by omega) h2
        omega
      have htake := Lib.hid htake0; clear htake0
      by_cases hm : n < a + 8
      · have hch : num ((l.drop a).take (n - a)) = num ((l.drop a).take 8) := by
          rw [List.take_of_length_le (by simp [HL.out]), List.take_of_length_le (by simp [HL.out]; omega)]
        generalize num ((l.drop a).take 8) = N at *
        go_wp2_with fail
        refine (number_any _ (n - a) _ ((l.drop a).take (n - a)) (by rw [List.length_take, List.length_drop, HL.out]; omega) (by omega) _ _ (by have h3 := hS2.cut (q := a) (n := (n - a)) (by omega); rw [List.map_take, List.map_drop]; exact h3)).mono ?_; rintro e w' ⟨rfl, rfl⟩
        rw [hch]
        go_wp2_with (at_builtin; refine wpList_append_seen _ rfl (.tmp 11) (.tmp 22) _ rfl w.heap.size 5 i0 _ 1 1 Tryz.underlying23 hi0 hz0 hz1 hz2 rfl (by omega) u3 k _ rfl (hown.alloc _) _ _ 1 1 _ rfl (seen_one _ _ _) (by simp [Value.oneCell']) (by simp only [maxLen]; omega) (by omega) (by simp only [World.size_alloc]; omega) ?_; intro v1 w1 hown1 hg1 hat1)
        go_roundw
        case rel =>
          refine ⟨k + 1, by have := HA.out; omega, by have := HA.out; go_num, ?_, (hbel.alloc hsz _).grown hg1 (by simp; omega) (fun i hi => (HLT.out i hi).1)⟩
          rw [htake.out, List.map_append]
          exact hown1
        case measure => simp [intOf]; omega
      · generalize hN : num ((l.drop a).take 8) = N at *
        go_wp2_with fail
        refine (number_any _ 8 _ ((l.drop a).take 8) (by rw [List.length_take, List.length_drop, HL.out]; omega) (by omega) _ _ (by have h3 := hS2.cut (q := a) (n := 8) (by omega); rw [List.map_take, List.map_drop]; exact h3)).mono ?_; rintro e w' ⟨rfl, rfl⟩
        rw [hN]
        go_wp2_with (at_builtin; refine wpList_append_seen _ rfl (.tmp 11) (.tmp 22) _ rfl w.heap.size 5 i0 _ 1 1 Tryz.underlying23 hi0 hz0 hz1 hz2 rfl (by omega) u3 k _ rfl (hown.alloc _) _ _ 1 1 _ rfl (seen_one _ _ _) (by simp [Value.oneCell']) (by simp only [maxLen]; omega) (by omega) (by simp only [World.size_alloc]; omega) ?_; intro v1 w1 hown1 hg1 hat1)
        go_roundw
        case rel =>
          refine ⟨k + 1, by have := HA.out; omega, by have := HA.out; go_num, ?_, (hbel.alloc hsz _).grown hg1 (by simp; omega) (fun i hi => (HLT.out i hi).1)⟩
          rw [htake.out, List.map_append]
          exact hown1
        case measure => simp [intOf]; omega
    · go_wp2_with fail
      go_ret
      have hkk : k = (n + 7) / 8 := by have := HA.out; omega
      subst hkk
      rw [List.take_of_length_le (by simp [HL.out])] at hown
      exact ⟨_, rfl, hown, hbel⟩
/-- The document's reader stands at block g: these bits, so many read. -/
def RefAt (w : World) (B g : Nat) (sv : Value) (l : List Bool) (a : Nat) : Prop :=
  B ≤ g ∧ Whole w g 73 #[sv, .int .i64 a] ∧ w.ownsRow B 4 1 sv l.length (l.map .bool)
theorem RefAt.set {w : World} {B g : Nat} {sv : Value} {l : List Bool} {a : Nat} (h : RefAt w B g sv l a) (a' : Nat) : RefAt (w.setCell ⟨g, 1, none⟩ (.int .i64 a')) B g sv l a' ∧ Only (fun k => k = g) w (w.setCell ⟨g, 1, none⟩ (.int .i64 a')) := by
  have hO := (Only.refl (fun k => k = g) w).setCell (p := ⟨g, 1, none⟩) (.inl rfl) (.int .i64 a')
  exact ⟨⟨h.1, by simpa using h.2.1.put 1 (.int .i64 a'), own_only h.2.2 hO (fun k hk => own_ne_whole h.2.2 h.2.1 (by decide) k hk)⟩, hO⟩
theorem RefAt.c0 {w : World} {B g : Nat} {sv : Value} {l : List Bool} {a : Nat} (h : RefAt w B g sv l a) : w.cell? ⟨g, 0, none⟩ = some sv := by simpa using h.2.1.cell 0
theorem RefAt.c1 {w : World} {B g : Nat} {sv : Value} {l : List Bool} {a : Nat} (h : RefAt w B g sv l a) : w.cell? ⟨g, 1, none⟩ = some (.int .i64 a) := by simpa using h.2.1.cell 1
theorem refGet_end (B g : Nat) (sv : Value) (l : List Bool) (a : Nat) (n : Int) (w : World) (h : RefAt w B g sv l a) (ha : a ≤ l.length) (hn : n ≤ 32) (hl : (l.length : Int) - a < n) :
    Calls Tryz.prog 65 #[.pointer (some ⟨g, 0, none⟩), .int .i64 n] w fun e w' => e = .returned (.tuple #[.int .u32 0, .int .i64 6]) ∧ w' = w.drew := by
  have c0 := h.c0
  have c1 := h.c1
  obtain ⟨A, c, rfl, _⟩ := own_form h.2.2
  clear h
  have wl : IntKind.i64.wrap ((l.length : Int) - a) = (l.length : Int) - a := IntWalk.i64_in _ (by omega)
  have h0 : 0 ≤ n := by omega
  have hd : decide ((l.length : Int) - a < n) = true := by simp; omega
  go_enter Tryz.func65, Tryz.ntmps65
  go_wp2
  go_still (by kernel_rfl)
  go_wp2
  go_ret2
  exact ⟨rfl, rfl⟩
set_option maxHeartbeats 1000000 in
theorem refGet_yes (B g : Nat) (sv : Value) (l : List Bool) (a n : Nat) (w : World) (h : RefAt w B g sv l a) (hb : l.length ≤ 8000000) (hn : n ≤ 32) (hl : a + n ≤ l.length) :
    Calls Tryz.prog 65 #[.pointer (some ⟨g, 0, none⟩), .int .i64 n] w fun e w' => e = .returned (.tuple #[.int .u32 (num ((l.drop a).take n)), .int .i64 0]) ∧ RefAt w' B g sv l (a + n) ∧ Only (fun k => k = g) w w' := by
  have c0 := h.c0
  have c1 := h.c1
  have f1 := h.2.1.frozen 1
  obtain ⟨A, c, rfl, hcm⟩ := own_form h.2.2
  have hlc : l.length ≤ c := (Seen.of_own h.2.2).2.1
  have wl : IntKind.i64.wrap ((l.length : Int) - a) = (l.length : Int) - a := IntWalk.i64_in _ (by omega)
  have hd : decide ((l.length : Int) - a < n) = false := by simp; omega
  have hd0 : decide ((n : Int) < 0) = false := by simp
  have hd1 : decide ((32 : Int) < n) = false := by simp; omega
  have HS := Lib.hid (h.set (a + n))
  have H := Lib.hid h; clear h
  unfold maxLen at hcm
  by_cases hca : c = a
  · subst hca
    obtain rfl : n = 0 := by omega
    go_enter Tryz.func65, Tryz.ntmps65
    go_wp2
    go_still (by kernel_rfl)
    go_wp2
    have hC : RefAt (w.setCell ⟨g, 1, none⟩ (.int .i64 ((c : Int)))).drew B g (.slice A l.length c) l (c + 0) := HS.out.1
    have hO : Only (fun k => k = g) w (w.setCell ⟨g, 1, none⟩ (.int .i64 ((c : Int)))).drew := HS.out.2.drew
    generalize (w.setCell ⟨g, 1, none⟩ (.int .i64 ((c : Int)))).drew = W at *
    have d0 := hC.c0
    have d1 := hC.c1
    have hsn := Lib.hid (show Seen W W.heap.size 1 A 0 0 (([] : List Bool).map Value.bool) from (Seen.of_own hC.2.2).empty)
    obtain ⟨s, hs⟩ : ∃ s, c + 0 = s := ⟨_, rfl⟩
    rw [hs] at d1
    have es : (s : Int) - 0 = c := by omega
    have ws : IntKind.i64.wrap (c : Int) = c := IntWalk.i64_in _ (by omega)
    have hs0 : (0 : Int) ≤ c := by omega
    have hs1 : (c : Int) ≤ s := by omega
    have hs2 : (s : Int) ≤ c := by omega
    have hs3 : (s : Int) - c = 0 := by omega
    have hs4 : c ≤ s := by omega
    have hs5 : s ≤ c := by omega
    have hs6 : s - c = 0 := by omega
    clear c0 c1
    refine wp_region_still_lit (by kernel_rfl) (by kernel_rfl) ?_
    repeat still_step
    still_call (flip (number_any A 0 0 [] (by simp; try omega) (by omega) _ _ (by exact hsn.out)))
    repeat still_step
    refine wpStill_nil ?_
    go_wp2_with fail
    go_ret2
    exact ⟨by simp [num], hC, hO.drew⟩
  · have hca1 : (c = a) = False := by simp [hca]
    go_enter Tryz.func65, Tryz.ntmps65
    go_wp2
    go_still (by kernel_rfl)
    go_wp2
    have hC : RefAt (w.setCell ⟨g, 1, none⟩ (.int .i64 ((a : Int) + n))).drew B g (.slice A l.length c) l (a + n) := HS.out.1
    have hO : Only (fun k => k = g) w (w.setCell ⟨g, 1, none⟩ (.int .i64 ((a : Int) + n))).drew := HS.out.2.drew
    generalize (w.setCell ⟨g, 1, none⟩ (.int .i64 ((a : Int) + n))).drew = W at *
    have d0 := hC.c0
    have d1 := hC.c1
    have hsn := Lib.hid (show Seen W W.heap.size 1 (Option.map (fun x => x.add a) A) n (c - a) (((l.drop a).take n).map Value.bool) by rw [List.map_take, List.map_drop]; exact (Seen.of_own hC.2.2).cut hl)
    obtain ⟨s, hs⟩ : ∃ s, a + n = s := ⟨_, rfl⟩
    rw [hs] at d1
    have es : (s : Int) - n = a := by omega
    have ws : IntKind.i64.wrap (a : Int) = a := IntWalk.i64_in _ (by omega)
    have hs0 : (0 : Int) ≤ a := by omega
    have hs1 : (a : Int) ≤ s := by omega
    have hs2 : (s : Int) ≤ c := by omega
    have hs3 : (s : Int) - a = n := by omega
    have hs4 : a ≤ s := by omega
    have hs5 : s ≤ c := by omega
    have hs6 : s - a = n := by omega
    clear c0 c1
    refine wp_region_still_lit (by kernel_rfl) (by kernel_rfl) ?_
    repeat still_step
    still_call (flip (number_any (Option.map (fun x => x.add a) A) n (c - a) ((l.drop a).take n) (by simp; try omega) (by omega) _ _ (by exact hsn.out)))
    repeat still_step
    refine wpStill_nil ?_
    go_wp2_with fail
    go_ret2
    exact ⟨rfl, hC, hO.drew⟩
theorem refAlign_any (B g : Nat) (sv : Value) (l : List Bool) (a : Nat) (w : World) (h : RefAt w B g sv l a) (ha : a ≤ 8000000) :
    Calls Tryz.prog 66 #[.pointer (some ⟨g, 0, none⟩)] w fun e w' => e = .returned (.tuple #[]) ∧ RefAt w' B g sv l ((a + 7) / 8 * 8) ∧ Only (fun k => k = g) w w' := by
  have H := Lib.hid h; clear h
  obtain ⟨T, hT⟩ : ∃ T, (a + 7) / 8 * 8 = T := ⟨_, rfl⟩
  rw [hT]
  have hT1 : a ≤ T := by omega
  have hT2 : T ≤ a + 7 := by omega
  have HT := Lib.hid (show T % 8 = 0 by omega)
  clear hT
  go_enter Tryz.func66, Tryz.ntmps66
  go_wp2
  go_loopg [2] (T - a) (fun k _ wr => ∃ b : Nat, a ≤ b ∧ b ≤ T ∧ k = T - b ∧ RefAt wr B g sv l b ∧ Only (fun k => k = g) w wr)
  case atStart => exact ⟨a, Nat.le_refl _, hT1, rfl, H.out, Only.refl _ _⟩
  case round =>
    obtain ⟨b, hb1, hb2, rfl, hR, hO⟩ := hrel
    have c1 := hR.c1
    have f1 := hR.2.1.frozen 1
    have HR := Lib.hid (hR.set (b + 1))
    have HO := Lib.hid hO; clear hO
    by_cases hz : b % 8 = 0
    · have hzz : (((b : Int) % 8) != 0) = false := by simp; omega
      have HZ := Lib.hid hz; clear hz
      go_wp2
      go_end0
      have := HZ.out
      have := HT.out
      obtain rfl : b = T := by omega
      exact ⟨rfl, hR, HO.out⟩
    · have hzz : (((b : Int) % 8) != 0) = true := by simp; omega
      have HZ := Lib.hid hz; clear hz
      clear hR
      go_wp2
      go_roundg (T - (b + 1))
      case measure => have := HZ.out; have := HT.out; omega
      case rel =>
        refine ⟨b + 1, by omega, by have := HZ.out; have := HT.out; omega, rfl, HR.out.1, HO.out.trans HR.out.2⟩
theorem refTake_end (B g : Nat) (sv : Value) (l : List Bool) (a : Nat) (n : Int) (w : World) (h : RefAt w B g sv l a) (hb : l.length ≤ 8000000) (ha : (a + 7) / 8 * 8 ≤ l.length) (hn : 0 ≤ n) (hl : ((l.length : Int) - ((a + 7) / 8 * 8 : Nat)) / 8 < n) :
    Calls Tryz.prog 67 #[.pointer (some ⟨g, 0, none⟩), .int .i64 n] w fun e w' => e = .returned (.tuple #[.slice none 0 0, .int .i64 6]) ∧ RefAt w' B g sv l ((a + 7) / 8 * 8) ∧ Only (fun k => k = g) w w' := by
  obtain ⟨T, hT⟩ : ∃ T, (a + 7) / 8 * 8 = T := ⟨_, rfl⟩
  have hA := refAlign_any B g sv l a w h (by omega)
  rw [hT] at hl ha hA ⊢
  have HA := Lib.hid hA; clear hA
  clear hT
  obtain ⟨A, c, rfl, _⟩ := own_form h.2.2
  clear h
  have wl : IntKind.i64.wrap ((l.length : Int) - T) = (l.length : Int) - T := IntWalk.i64_in _ (by omega)
  have wd : IntKind.i64.wrap (((l.length : Int) - T) / 8) = ((l.length : Int) - T) / 8 := IntWalk.i64_in _ (by omega)
  have wt : ((l.length : Int) - T).tdiv 8 = ((l.length : Int) - T) / 8 := Int.tdiv_eq_ediv_of_nonneg (by omega)
  have hd : decide (((l.length : Int) - T) / 8 < n) = true := by simp; omega
  go_enter Tryz.func67, Tryz.ntmps67
  go_wp2_with (go_at_call 66; refine HA.out.mono ?_; rintro e w1 ⟨rfl, hR, hO⟩; have c0 := hR.c0; have c1 := hR.c1)
  go_still (by kernel_rfl)
  go_wp2
  go_ret2
  exact ⟨rfl, hR, hO.drew⟩
theorem below_undrew {w w' : World} (h : Below w.drew.heap.size w.drew w') : Below w.heap.size w w' := ⟨h.os, h.tape, h.output, h.size, h.block⟩
def RefTakePost (w : World) (B g : Nat) (sv : Value) (l : List Bool) (a n : Nat) (xs : List Nat) (e : Ending) (w' : World) : Prop :=
  ∃ v, e = .returned (.tuple #[v, .int .i64 0]) ∧ w'.ownsRow w.heap.size 5 1 v n (xs.map fun x : Nat => Value.int .u8 x) ∧ RefAt w' B g sv l a ∧ Only (fun k => k = g) w w'
set_option maxHeartbeats 1000000 in
theorem refTake_yes (B g : Nat) (sv : Value) (l : List Bool) (a n : Nat) (w : World) (h : RefAt w B g sv l a) (hb : l.length ≤ 800000) (hl : (a + 7) / 8 * 8 + 8 * n ≤ l.length) :
    Calls Tryz.prog 67 #[.pointer (some ⟨g, 0, none⟩), .int .i64 n] w (RefTakePost w B g sv l ((a + 7) / 8 * 8 + 8 * n) n (pack ((l.drop ((a + 7) / 8 * 8)).take (8 * n)))) := by
  obtain ⟨T, hT⟩ : ∃ T, (a + 7) / 8 * 8 = T := ⟨_, rfl⟩
  have hA := refAlign_any B g sv l a w h (by omega)
  rw [hT] at hl hA ⊢
  clear hT
  obtain ⟨A, c, rfl, hcm⟩ := own_form h.2.2
  have hlc : l.length ≤ c := (Seen.of_own h.2.2).2.1
  have HA := Lib.hid hA; clear hA
  clear h
  unfold maxLen at hcm
  have wl : IntKind.i64.wrap ((l.length : Int) - T) = (l.length : Int) - T := IntWalk.i64_in _ (by omega)
  have wd : IntKind.i64.wrap (((l.length : Int) - T) / 8) = ((l.length : Int) - T) / 8 := IntWalk.i64_in _ (by omega)
  have wt : ((l.length : Int) - T).tdiv 8 = ((l.length : Int) - T) / 8 := Int.tdiv_eq_ediv_of_nonneg (by omega)
  have hd : decide (((l.length : Int) - T) / 8 < n) = false := by simp; omega
  have hd0 : decide ((n : Int) < 0) = false := by simp
  by_cases hca : c = T
  · obtain rfl : n = 0 := by omega
    subst hca
    go_enter Tryz.func67, Tryz.ntmps67
    go_wp2_with (go_at_call 66; refine HA.out.mono ?_; rintro e w1 ⟨rfl, hR, hO⟩; have c0 := hR.c0; have c1 := hR.c1; have f1 := hR.2.1.frozen 1)
    go_still (by kernel_rfl)
    go_wp2
    have HS := hR.set (c + 8 * 0)
    have hC : RefAt (w1.setCell ⟨g, 1, none⟩ (.int .i64 ((c : Int)))).drew B g (.slice A l.length c) l (c + 8 * 0) := by
      have h9 := HS.1
      rw [show ((c + 8 * 0 : Nat) : Int) = (c : Int) by simp] at h9
      exact h9
    have hO2 : Only (fun k => k = g) w (w1.setCell ⟨g, 1, none⟩ (.int .i64 ((c : Int)))).drew := by
      have h9 := hO.trans HS.2
      have h8 := h9.drew
      simpa using h8
    clear HS hR hO c0 c1 f1
    generalize (w1.setCell ⟨g, 1, none⟩ (.int .i64 ((c : Int)))).drew = W at *
    have d0 := hC.c0
    have d1 := hC.c1
    have hsn := Lib.hid (show Seen W W.heap.size 1 A 0 0 (([] : List Bool).map Value.bool) from (Seen.of_own hC.2.2).empty)
    have d2 : W.cell? ⟨g, 1, none⟩ = some (.int .i64 (c : Int)) := by simpa using d1
    clear d1
    have w0 : IntKind.i64.wrap 0 = 0 := IntWalk.i64_in _ (by omega)
    have ws : IntKind.i64.wrap (c : Int) = c := IntWalk.i64_in _ (by omega)
    have hs0 : (0 : Int) ≤ c := by omega
    refine wp_region_still_tail 16 (by kernel_rfl) (by kernel_rfl) ?_
    simp only [List.take_succ_cons, List.take_zero, List.drop_succ_cons, List.drop_zero]
    repeat still_step
    refine wpStill_nil ?_
    go_wp2_with fail
    refine (refBytes_any A 0 0 W.heap.size [] rfl (by omega) W.drew hsn.out (Nat.le_refl _)).mono ?_; rintro e w2 ⟨v2, rfl, ho2, hb2⟩
    go_wp2_with fail
    go_ret2
    have hb3 := below_undrew hb2
    rw [show (0 + 7) / 8 = 0 from rfl] at ho2
    exact ⟨v2, rfl, by simpa using own_base ho2 hO2.size, ⟨hC.1, hC.2.1.only (Only.of_below hb3 Nob) (fun h => h), own_only hC.2.2 (Only.of_below hb3 Nob) (fun _ _ h => h)⟩, hO2.trans (Only.of_below hb3 _)⟩
  · have hca1 : (c = T) = False := by simp [hca]
    go_enter Tryz.func67, Tryz.ntmps67
    go_wp2_with (go_at_call 66; refine HA.out.mono ?_; rintro e w1 ⟨rfl, hR, hO⟩; have c0 := hR.c0; have c1 := hR.c1; have f1 := hR.2.1.frozen 1)
    go_still (by kernel_rfl)
    go_wp2
    have HS := hR.set (T + 8 * n)
    have hC : RefAt (w1.setCell ⟨g, 1, none⟩ (.int .i64 ((T : Int) + 8 * n))).drew B g (.slice A l.length c) l (T + 8 * n) := by
      have h9 := HS.1
      rw [show ((T + 8 * n : Nat) : Int) = (T : Int) + 8 * n by simp] at h9
      exact h9
    have hO2 : Only (fun k => k = g) w (w1.setCell ⟨g, 1, none⟩ (.int .i64 ((T : Int) + 8 * n))).drew := by
      have h9 := hO.trans HS.2
      have h8 := h9.drew
      simpa using h8
    clear HS hR hO c0 c1 f1
    generalize (w1.setCell ⟨g, 1, none⟩ (.int .i64 ((T : Int) + 8 * n))).drew = W at *
    have d0 := hC.c0
    have d1 := hC.c1
    have hsn := Lib.hid (show Seen W W.heap.size 1 (Option.map (fun x => x.add T) A) (8 * n) (c - T) (((l.drop T).take (8 * n)).map Value.bool) by rw [List.map_take, List.map_drop]; exact (Seen.of_own hC.2.2).cut hl)
    obtain ⟨s, hs⟩ : ∃ s, T + 8 * n = s := ⟨_, rfl⟩
    rw [hs] at d1
    have wn : IntKind.i64.wrap (8 * (n : Int)) = 8 * n := IntWalk.i64_in _ (by omega)
    have es : (s : Int) - 8 * n = T := by omega
    have ws : IntKind.i64.wrap (T : Int) = T := IntWalk.i64_in _ (by omega)
    have hs0 : (0 : Int) ≤ T := by omega
    have hs1 : (T : Int) ≤ s := by omega
    have hs2 : (s : Int) ≤ c := by omega
    have hs4 : T ≤ s := by omega
    have hs5 : s ≤ c := by omega
    have hs6 : s - T = 8 * n := by omega
    refine wp_region_still_tail 16 (by kernel_rfl) (by kernel_rfl) ?_
    simp only [List.take_succ_cons, List.take_zero, List.drop_succ_cons, List.drop_zero]
    repeat still_step
    refine wpStill_nil ?_
    go_wp2_with fail
    refine (refBytes_any (Option.map (fun x => x.add T) A) (8 * n) (c - T) W.heap.size ((l.drop T).take (8 * n)) (by simp; omega) (by omega) W.drew hsn.out (Nat.le_refl _)).mono ?_; rintro e w2 ⟨v2, rfl, ho2, hb2⟩
    go_wp2_with fail
    go_ret2
    have hb3 := below_undrew hb2
    rw [show (8 * n + 7) / 8 = n by omega] at ho2
    exact ⟨v2, rfl, own_base ho2 hO2.size, ⟨hC.1, hC.2.1.only (Only.of_below hb3 Nob) (fun h => h), own_only hC.2.2 (Only.of_below hb3 Nob) (fun _ _ h => h)⟩, hO2.trans (Only.of_below hb3 _)⟩
theorem pow_step (j : Nat) : ((2 ^ j : Nat) : Int) * 2 = ((2 ^ (j + 1) : Nat) : Int) := by rw [Nat.pow_succ]; simp
set_option maxHeartbeats 1000000 in
theorem refWeight_any (A : Option Addr) (n c B : Nat) (l : List Int) (hn : l.length = n) (hl : n ≤ 1000) (w : World) (hs : Seen w B 1 A n c (iv l)) :
    Calls Tryz.prog 104 #[.slice A n c] w fun e w' => e = .returned (.tuple (if Ok l then #[.int .i64 (weight l : Nat), .bool true] else #[.int .i64 0, .bool false])) ∧ w = w' := by
  have HS := Lib.hid hs; clear hs
  have HN := Lib.hid hn; clear hn
  go_enter Tryz.func104, Tryz.ntmps104
  go_wp2
  go_loop [4, 11] (fun y i => ∃ k : Nat, k ≤ n ∧ i = .int .i64 k ∧ y = .int .i64 (weight (l.take k) : Nat) ∧ Ok (l.take k)) (fun _ i => n - (intOf i).toNat)
  case atStart => exact ⟨0, Nat.zero_le _, rfl, rfl, by intro x hx; simp at hx⟩
  case round =>
    obtain ⟨k, hk, rfl, rfl, hok⟩ := hrel
    have HOK := Lib.hid hok; clear hok
    have hw : weight (l.take k) ≤ 32768000 := by have := weight_le (l.take k); simp at this; omega
    by_cases hlt : k < n
    · obtain ⟨b, o, rfl, _, hc⟩ := HS.out.int HN.out hlt
      have hkl : k < l.length := by have := HN.out; omega
      have E1 := Lib.hid (weight_take l k hkl)
      have E3 := Lib.hid (ok_take l k hkl)
      have E4 := Lib.hid (@not_ok l k hkl)
      obtain ⟨x, hx⟩ : ∃ x, l[k] = x := ⟨_, rfl⟩
      rw [hx] at hc
      by_cases h0 : 0 ≤ x
      · by_cases h15 : x ≤ 15
        · obtain ⟨m, rfl⟩ := Int.eq_ofNat_of_zero_le h0
          have HX := Lib.hid hx; clear hx
          by_cases hm : 0 < m
          · generalize weight (l.take k) = W at *
            go_wp2
            go_loop [7, 8] (fun y i => ∃ j : Nat, m + j ≤ 15 ∧ i = .int .i64 (m + j : Nat) ∧ y = .int .i64 (2 ^ j : Nat)) (fun _ i => 15 - (intOf i).toNat)
            case atStart => exact ⟨0, by omega, rfl, rfl⟩
            case round =>
              obtain ⟨j, hj, rfl, rfl⟩ := hrel
              have hp : 2 ^ j ≤ 32768 := Nat.pow_le_pow_right (n := 2) (i := j) (j := 15) (by omega) (by omega)
              have hps := Lib.hid (pow_step j)
              by_cases hj2 : m + j < 15
              · have EJ := Lib.hid (show (2 ^ j : Nat) = 2 ^ j from rfl)
                generalize (2 ^ j : Nat) = P at *
                go_wp2
                go_round
                case rel => exact ⟨j + 1, by omega, by go_num, by rw [← hps.out]⟩
                case measure => simp [intOf]; omega
              · have EW : Hid (wt (m : Int) = 2 ^ j) := Lib.hid (by unfold wt; rw [if_neg (by omega)]; congr 1; omega)
                clear hps
                generalize (2 ^ j : Nat) = P at *
                go_wp2
                go_round
                case rel =>
                  refine ⟨k + 1, by omega, by go_num, ?_, ?_⟩
                  · rw [E1.out, HX.out, EW.out]; go_num
                  · rw [E3.out, HX.out]; exact ⟨HOK.out, by omega, by omega⟩
                case measure => simp [intOf]; omega
          · obtain rfl : m = 0 := by omega
            go_wp2
            go_round
            case rel =>
              refine ⟨k + 1, by omega, by go_num, ?_, ?_⟩
              · rw [E1.out, HX.out]; rfl
              · rw [E3.out, HX.out]; exact ⟨HOK.out, by omega, by omega⟩
            case measure => simp [intOf]; omega
        · have HK := Lib.hid (E4.out (by rw [hx]; omega))
          have HX := Lib.hid hx; clear hx
          have h15' : decide (15 < x) = true := by simp; omega
          go_wp2
          go_ret2
          exact ⟨rfl, rfl⟩
      · have HK := Lib.hid (E4.out (by rw [hx]; omega))
        have HX := Lib.hid hx; clear hx
        go_wp2
        go_ret2
        exact ⟨rfl, rfl⟩
    · obtain rfl : k = n := by omega
      have e : l.take k = l := List.take_of_length_le (by have := HN.out; omega)
      rw [e] at hw HOK ⊢
      clear e
      go_wp2
      go_ret2
      exact ⟨rfl, rfl⟩
set_option maxHeartbeats 1000000 in
theorem refKind_any (A : Option Addr) (n c B : Nat) (l : List Int) (hn : l.length = n) (hl : n ≤ 1000) (w : World) (hs : Seen w B 1 A n c (iv l)) :
    Calls Tryz.prog 86 #[.slice A n c] w fun e w' => e = .returned (.int .i64 (kindOf l : Nat)) ∧ w = w' := by
  have HS := Lib.hid hs; clear hs
  have HN := Lib.hid hn; clear hn
  have HK := Lib.hid (kind_doc l)
  go_enter Tryz.func86, Tryz.ntmps86
  go_wp2
  go_loop [3, 4, 11] (fun x y i => ∃ k : Nat, k ≤ n ∧ i = .int .i64 k ∧ x = .int .i64 (words (l.take k) : Nat) ∧ y = .int .i64 (ones (l.take k) : Nat)) (fun _ _ i => n - (intOf i).toNat)
  case atStart => exact ⟨0, Nat.zero_le _, rfl, rfl, rfl⟩
  case round =>
    obtain ⟨k, hk, rfl, rfl, rfl⟩ := hrel
    have hwd : words (l.take k) ≤ 1000 := by have := words_le (l.take k); simp at this; omega
    have hon : ones (l.take k) ≤ 1000 := by have := ones_le (l.take k); simp at this; omega
    by_cases hlt : k < n
    · obtain ⟨b, o, rfl, _, hc⟩ := HS.out.int HN.out hlt
      have hkl : k < l.length := by have := HN.out; omega
      have E1 := Lib.hid (ones_take l k hkl)
      have E2 := Lib.hid (words_take l k hkl)
      obtain ⟨x, hx⟩ : ∃ x, l[k] = x := ⟨_, rfl⟩
      rw [hx] at hc
      have HX := Lib.hid hx; clear hx
      generalize words (l.take k) = V at *
      generalize ones (l.take k) = O at *
      by_cases h0 : x = 0
      · subst h0
        go_wp2
        go_round
        case rel => exact ⟨k + 1, by omega, by go_num, by rw [E2.out, HX.out]; rfl, by rw [E1.out, HX.out]; rfl⟩
        case measure => simp [intOf]; omega
      · by_cases h1 : x = 1
        · subst h1
          go_wp2
          go_round
          case rel => exact ⟨k + 1, by omega, by go_num, by rw [E2.out, HX.out]; rfl, by rw [E1.out, HX.out]; rfl⟩
          case measure => simp [intOf]; omega
        · have d0 : (x == 0) = false := by simpa using h0
          have d1 : (x == 1) = false := by simpa using h1
          go_wp2
          go_round
          case rel => exact ⟨k + 1, by omega, by go_num, by rw [E2.out, HX.out, if_neg h0]; rfl, by rw [E1.out, HX.out, if_neg h1]; rfl⟩
          case measure => simp [intOf]; omega
    · obtain rfl : k = n := by omega
      have e : l.take k = l := List.take_of_length_le (by have := HN.out; omega)
      rw [e] at hwd hon ⊢
      clear e
      have hW : weight l ≤ 32768000 := by have := weight_le l; have := HN.out; omega
      by_cases hok : Ok l
      · have HC := Lib.hid (refWeight_any A k c B l HN.out hl w HS.out)
        rw [if_pos hok] at HC HK
        have HOK := Lib.hid hok; clear hok
        generalize weight l = W at *
        generalize words l = V at *
        generalize ones l = O at *
        by_cases h0 : V = 0
        · subst h0
          go_wp2_with (go_at_call 104; refine HC.out.mono ?_; rintro e w1 ⟨rfl, rfl⟩)
          go_ret
          exact ⟨by rw [HK.out]; rfl, rfl⟩
        · have d0 : ((V : Int) == 0) = false := by simp; omega
          by_cases h1 : V = 1 ∧ O = 1
          · obtain ⟨rfl, rfl⟩ := h1
            go_wp2_with (go_at_call 104; refine HC.out.mono ?_; rintro e w1 ⟨rfl, rfl⟩)
            go_ret
            exact ⟨by rw [HK.out]; rfl, rfl⟩
          · have HV : Hid (kindOf l = if W = 32768 then 3 else 0) := Lib.hid (by rw [HK.out, if_neg h0, if_neg h1])
            clear HK
            have hd : ((V : Int) == 1) = false ∨ ((V : Int) == 1) = true ∧ ((O : Int) == 1) = false := by
              by_cases h : V = 1
              · exact .inr ⟨by simp [h], by simp; intro h2; exact h1 ⟨h, by omega⟩⟩
              · exact .inl (by simp; omega)
            by_cases h3 : W = 32768
            · subst h3
              rcases hd with d1 | ⟨d1, d2⟩
              · go_wp2_with (go_at_call 104; refine HC.out.mono ?_; rintro e w1 ⟨rfl, rfl⟩)
                go_ret
                exact ⟨by rw [HV.out]; rfl, rfl⟩
              · go_wp2_with (go_at_call 104; refine HC.out.mono ?_; rintro e w1 ⟨rfl, rfl⟩)
                go_ret
                exact ⟨by rw [HV.out]; rfl, rfl⟩
            · have d3 : ((W : Int) == 32768) = false := by simp; omega
              rcases hd with d1 | ⟨d1, d2⟩
              · go_wp2_with (go_at_call 104; refine HC.out.mono ?_; rintro e w1 ⟨rfl, rfl⟩)
                go_ret
                exact ⟨by rw [HV.out, if_neg h3]; rfl, rfl⟩
              · go_wp2_with (go_at_call 104; refine HC.out.mono ?_; rintro e w1 ⟨rfl, rfl⟩)
                go_ret
                exact ⟨by rw [HV.out, if_neg h3]; rfl, rfl⟩
      · have HC := Lib.hid (refWeight_any A k c B l HN.out hl w HS.out)
        rw [if_neg hok] at HC HK
        clear hok
        go_wp2_with (go_at_call 104; refine HC.out.mono ?_; rintro e w1 ⟨rfl, rfl⟩)
        go_ret
        exact ⟨by rw [HK.out]; rfl, rfl⟩
end Go.Proofs.YtkjhefjjacokjaaGreat

namespace Go.Proofs.YtkjhefjjacokjaaGreat
open Go.RowKit
set_option maxRecDepth 100000
/-- What Get answers: the sign whose word comes next, or an error. -/
def CodeGot (l : List Int) (bits : List Bool) (j : Nat) (er : Nat) (m : Nat) : Prop :=
  match lookup l bits with
  | .found n v => j < l.length ∧ len l j = n ∧ wv l j = v ∧ er = 0 ∧ m = n
  | .code => j = 0 ∧ er = 12 ∧ m = 0
  | .fin => j = 0 ∧ er = 6 ∧ m = 0
/-- Bits as a text. -/
def tx (l : List Bool) : ByteArray := ⟨(l.map fun b => if b then (49 : UInt8) else 48).toArray⟩
theorem tx_size (l : List Bool) : (tx l).size = l.length := by simp [tx, ByteArray.size]
theorem tx_one (l : List Bool) : tx l ++ (⟨#[49]⟩ : ByteArray) = tx (l ++ [true]) := by
  apply ByteArray.ext; simp [tx]
theorem tx_zero (l : List Bool) : tx l ++ (⟨#[48]⟩ : ByteArray) = tx (l ++ [false]) := by
  apply ByteArray.ext; simp [tx]
def MoreAt (n : Nat) : Prop := ∀ (v : Nat) (w : World), Calls Tryz.prog 87 #[.string (tx (hi n v))] w fun e w' => e = .returned (.string (tx (hi n (v + 1)))) ∧ w = w'
theorem more_zero : MoreAt 0 := by
  intro v w
  rw [hi_zero, hi_zero]
  have et : tx [] = ⟨#[]⟩ := rfl
  rw [et]
  clear et
  go_enter Tryz.func87, Tryz.ntmps87
  go_wp2
  go_ret
  exact ⟨rfl, rfl⟩
theorem tx_cut (l : List Bool) (b : Bool) : (tx (l ++ [b])).extract 0 ((tx (l ++ [b])).size - 1) = tx l := by
  rw [tx_size]
  apply ByteArray.ext
  rw [ByteArray.data_extract]
  simp [tx]
theorem tx_at (l : List Bool) (i : Nat) (h : i < (tx l).size) : (tx l)[i] = if l[i]'(by rwa [tx_size] at h) then 49 else 48 := by
  show (tx l).data[i] = _
  simp [tx]
theorem tx_last (l : List Bool) (b : Bool) (h : (tx (l ++ [b])).size - 1 < (tx (l ++ [b])).size) : (tx (l ++ [b]))[(tx (l ++ [b])).size - 1].toNat = if b then 49 else 48 := by
  rw [tx_at]
  have : (tx (l ++ [b])).size - 1 = l.length := by rw [tx_size]; simp
  simp only [this]
  rw [List.getElem_concat_length rfl]
  cases b <;> rfl
theorem tx_toList (l : List Bool) : (tx l).toList = l.map fun b => if b then (49 : UInt8) else 48 := by
  rw [ByteArray.toList_eq]
  simp [tx]
theorem tx_some (l : List Bool) (h : l ≠ []) : (tx l).toList.isEmpty = false ∧ ((tx l).toList == []) = false := by
  rw [tx_toList]
  cases l with
  | nil => exact absurd rfl h
  | cons a l => exact ⟨rfl, rfl⟩
set_option maxHeartbeats 400000 in
theorem more_walk (n : Nat) (hn : n < 15) (l : List Bool) (b : Bool) (hl : l.length = n) (m r : List Bool) (hm1 : m.length ≤ 15) (hr : r = if b then m ++ [false] else l ++ [true]) (w : World) (hm : Calls Tryz.prog 87 #[.string (tx l)] w fun e w' => e = .returned (.string (tx m)) ∧ w = w') :
    Calls Tryz.prog 87 #[.string (tx (l ++ [b]))] w fun e w' => e = .returned (.string (tx r)) ∧ w = w' := by
  have HM := Lib.hid hm; clear hm
  have hmz : (tx m).size ≤ 15 := by rw [tx_size]; exact hm1
  have HR := Lib.hid hr; clear hr
  have hs : (tx (l ++ [b])).size = n + 1 := by rw [tx_size]; simp [hl]
  have h1 : 0 < (tx (l ++ [b])).size := by omega
  have h2 : (tx (l ++ [b])).size < 16 := by omega
  have h3 := (tx_some (l ++ [b]) (by simp)).1
  have h4 := (tx_some (l ++ [b]) (by simp)).2
  have HC := Lib.hid (tx_cut l b)
  have HL := Lib.hid (tx_last l b)
  clear hl hs
  generalize tx (l ++ [b]) = s at *
  go_enter Tryz.func87, Tryz.ntmps87
  go_wp2_with fail
  · go_ret
    next h5 h6 =>
    have hL := HL.out (by omega)
    cases b with
    | true => rw [hL] at h6; simp at h6
    | false => exact ⟨by rw [HR.out, HC.out, tx_one]; rfl, rfl⟩
  · rw [HC.out]
    refine HM.out.mono ?_
    rintro e w1 ⟨rfl, rfl⟩
    go_wp2
    go_ret
    next h5 h6 =>
    have hL := HL.out (by omega)
    cases b with
    | true => exact ⟨by rw [HR.out, tx_zero]; rfl, rfl⟩
    | false => rw [hL] at h6; simp at h6
theorem more_any : ∀ n, n ≤ 15 → MoreAt n := by
  intro n
  induction n with
  | zero => exact fun _ => more_zero
  | succ n ih =>
    intro hn v w
    have h := more_walk n (by omega) (hi n (v / 2)) (v % 2 == 1) (by simp) _ _ (by simp; omega) rfl w (ih (by omega) (v / 2) w)
    rw [← hi_snoc] at h
    have e : (if v % 2 == 1 then hi n (v / 2 + 1) ++ [false] else hi n (v / 2) ++ [true]) = hi (n + 1) (v + 1) := by
      rw [hi_snoc n (v + 1)]
      by_cases hv : v % 2 = 0
      · rw [show (v + 1) / 2 = v / 2 by omega, show (v + 1) % 2 = 1 by omega, hv]; rfl
      · rw [show (v + 1) / 2 = v / 2 + 1 by omega, show (v + 1) % 2 = 0 by omega, show v % 2 = 1 by omega]; rfl
    rw [e] at h
    exact h
theorem str_info : (Tryz.prog.info? 9).map (fun i => (i.zero, i.size, i.bytes)) = some (some (.string ⟨#[]⟩), 1, 16) := by kernel_rfl
/-- The texts' row: words of fewer than m bits, and of m bits those ahead of i. -/
def trow (l : List Int) (n m i : Nat) : List Value := mr n fun j => .string (if len l j < m ∨ len l j = m ∧ j < i then tx (wb l j) else tx [])
/-- All of them. -/
def twords (l : List Int) (n : Nat) : List Value := mr n fun j => .string (tx (wb l j))
def RefWordsRes (w : World) (l : List Int) (n : Nat) (e : Ending) (w' : World) : Prop :=
  ∃ v, e = .returned (.tuple #[v, .bool true]) ∧ w'.ownsRow w.heap.size 9 1 v n (twords l n) ∧ Below w.heap.size w w'
def RefWordsIn (w : World) (l : List Int) (n : Nat) (v : Value) (m i : Nat) (wr : World) : Prop :=
  wr.ownsRow w.heap.size 9 1 v n (trow l n m i) ∧ Below w.heap.size w wr
theorem refWords_bad (A : Option Addr) (n c B : Nat) (l : List Int) (hn : l.length = n) (hl : n ≤ 1000) (hr : kindOf l = 0) (w : World) (hs : Seen w B 1 A n c (iv l)) (hB : B ≤ w.heap.size) :
    Calls Tryz.prog 68 #[.slice A n c] w fun e w' => e = .returned (.tuple #[.slice none 0 0, .bool false]) ∧ Below w.heap.size w w' := by
  obtain ⟨i0, hi0, hz0, hz1, hz2⟩ := info_parts str_info
  have HS := Lib.hid hs; clear hs
  have HN := Lib.hid hn; clear hn
  have HR := Lib.hid hr; clear hr
  have HZ0 := Lib.hid hz0; clear hz0
  have HZ1 := Lib.hid hz1; clear hz1
  have HZ2 := Lib.hid hz2; clear hz2
  have HI0 := Lib.hid hi0; clear hi0
  go_enter Tryz.func68, Tryz.ntmps68
  go_wp2_with (first
    | (refine wpList_make_full _ rfl (.tmp 10) (.tmp 10) 99 rfl w.heap.size 9 i0 _ 1 Tryz.underlying99 HI0.out HZ0.out HZ1.out .i64 .i64 n n n rfl rfl rfl rfl (by rw [HZ2.out]; omega) (by simp [maxLen]; omega) (by omega) ?_; intro w3 hown hg3)
    | (go_at_call 86; refine (refKind_any A n c B l HN.out hl _ (HS.out.below ((Below.refl _ _).grown hg3 hB (by simp)))).mono ?_; rintro e w1 ⟨rfl, rfl⟩; rw [HR.out]))
  go_ret2
  exact ⟨rfl, (Below.refl _ _).grown hg3 (Nat.le_refl _) (by simp)⟩
set_option maxRecDepth 100000 in
set_option maxHeartbeats 1000000 in
theorem refWords_any (A : Option Addr) (n c B : Nat) (l : List Int) (hn : l.length = n) (hl : n ≤ 1000) (hr : kindOf l ≠ 0) (w : World) (hs : Seen w B 1 A n c (iv l)) (hB : B ≤ w.heap.size) :
    Calls Tryz.prog 68 #[.slice A n c] w (RefWordsRes w l n) := by
  obtain ⟨i0, hi0, hz0, hz1, hz2⟩ := info_parts str_info
  have HOK := Lib.hid (right_ok hr)
  have hk0 : ((kindOf l : Nat) : Int) ≠ 0 := by omega
  have dk : (((kindOf l : Nat) : Int) == 0) = false := by simpa using hk0
  have HR := Lib.hid hr; clear hr hk0
  have HS := Lib.hid hs; clear hs
  have HN := Lib.hid hn; clear hn
  have HZ0 := Lib.hid hz0; clear hz0
  have HZ1 := Lib.hid hz1; clear hz1
  have HZ2 := Lib.hid hz2; clear hz2
  have HI0 := Lib.hid hi0; clear hi0
  obtain ⟨kk, hkk⟩ : ∃ kk, kindOf l = kk := ⟨_, rfl⟩
  have HKK := Lib.hid hkk
  rw [hkk] at dk
  clear hkk
  go_enter Tryz.func68, Tryz.ntmps68
  go_wp2_with (first
    | (refine wpList_make_full _ rfl (.tmp 10) (.tmp 10) 99 rfl w.heap.size 9 i0 _ 1 Tryz.underlying99 HI0.out HZ0.out HZ1.out .i64 .i64 n n n rfl rfl rfl rfl (by rw [HZ2.out]; omega) (by simp [maxLen]; omega) (by omega) ?_; intro w3 hown hg3)
    | (go_at_call 86; refine (refKind_any A n c B l HN.out hl _ (HS.out.below ((Below.refl _ _).grown hg3 hB (by simp)))).mono ?_; rintro e w1 ⟨rfl, rfl⟩; rw [HKK.out]))
  have h0 : RefWordsIn w l n (.slice (some ⟨w.heap.size, 0, none⟩) n n) 1 0 w3 := by
    refine ⟨?_, (Below.refl _ _).grown hg3 (Nat.le_refl _) (by simp)⟩
    have e : trow l n 1 0 = (madeCells #[.string ⟨#[]⟩] (n * 1)).toList := by
      rw [mr_made]
      exact mr_ext _ _ _ fun i _ => by
        by_cases h : len l i = 0
        · rw [if_pos (by omega)]; unfold wb; rw [h, hi_zero]; rfl
        · rw [if_neg (by omega)]; rfl
    rw [e]; exact hown
  have H0 := Lib.hid h0; clear h0 hown hg3
  obtain ⟨g, hg⟩ : ∃ g, w.heap.size = g := ⟨_, rfl⟩
  rw [hg]
  have HG := Lib.hid hg
  rw [hg] at H0
  clear dk hg
  go_loopw [5, 6, 7, 8] (fun s m _ _ wr => ∃ k : Nat, 1 ≤ k ∧ k ≤ 16 ∧ m = .int .i64 k ∧ s = .string (tx (hi (k - 1) (upTo l (k - 1)))) ∧ RefWordsIn w l n (.slice (some ⟨g, 0, none⟩) n n) k 0 wr) (fun _ m _ _ _ => 16 - (intOf m).toNat)
  case atStart => exact ⟨1, by omega, by omega, rfl, by rw [hi_zero]; rfl, H0.out⟩
  case round =>
    obtain ⟨m, hm1, hm2, rfl, rfl, hin⟩ := hrel
    by_cases hm : m ≤ 15
    · have dm : decide ((m : Int) ≤ 15) = true := by simp; omega
      have E1 : Hid (tx (hi (m - 1) (upTo l (m - 1))) ++ (⟨#[48]⟩ : ByteArray) = tx (hi (m) (fst l (m)))) := Lib.hid (by
        obtain ⟨q, rfl⟩ : ∃ q, m = q + 1 := ⟨m - 1, by omega⟩
        rw [tx_zero, Nat.add_sub_cancel, ← hi_double]; rfl)
      have hz : (tx (hi (m - 1) (upTo l (m - 1)))).size ≤ 15 := by rw [tx_size, hi_length]; omega
      have HIn := Lib.hid hin; clear hin
      obtain ⟨S0, hS0⟩ : ∃ S0, tx (hi (m - 1) (upTo l (m - 1))) = S0 := ⟨_, rfl⟩
      rw [hS0] at E1 hz ⊢
      clear hS0
      go_wp2
      rw [E1.out]
      go_loopw [5, 7, 8, 23] (fun s _ _ i wr => ∃ k : Nat, k ≤ n ∧ i = .int .i64 k ∧ s = .string (tx (hi (m) (fst l (m) + ct (m) (l.take k)))) ∧ RefWordsIn w l n (.slice (some ⟨g, 0, none⟩) n n) (m) k wr) (fun _ _ _ i _ => n - (intOf i).toNat)
      case atStart => exact ⟨0, by omega, rfl, rfl, HIn.out⟩
      case round =>
        clear HIn
        obtain ⟨k, hk, rfl, rfl, hin⟩ := hrel
        by_cases hlt : k < n
        · obtain ⟨b, o, rfl, _, hc⟩ := (HS.out.below (hin.2.mono hB)).int HN.out hlt
          have hkl : k < l.length := by have := HN.out; omega
          have E2 := Lib.hid (ct_take (m) l k hkl)
          have EL := Lib.hid (len_eq HOK.out k hkl)
          rw [EL.out] at hc
          obtain ⟨x, hx⟩ : ∃ x, len l k = x := ⟨_, rfl⟩
          rw [hx] at hc
          have HX := Lib.hid hx; clear hx
          by_cases hxm : x = m
          · obtain rfl : m = x := hxm.symm
            have dm2 : m ≠ 0 := by omega
            obtain ⟨hck, hfk, _⟩ := own_cell hin.1 (i := k) (u := .string (tx [])) (by
              unfold trow; rw [mr_get _ _ _ hlt, if_neg (by rw [HX.out]; omega)])
            have HIn := Lib.hid hin; clear hin
            have hMo := Lib.hid (more_any (m) (by omega) (fst l (m) + ct (m) (l.take k)))
            have EW : Hid (tx (hi (m) (fst l (m) + ct (m) (l.take k))) = tx (wb l k)) := Lib.hid (by unfold wb wv; rw [HX.out])
            obtain ⟨S1, hS1⟩ : ∃ S1, tx (hi (m) (fst l (m) + ct (m) (l.take k))) = S1 := ⟨_, rfl⟩
            have HS1 := Lib.hid hS1
            rw [hS1] at EW ⊢
            clear hS1
            go_wp2_with (go_at_call 87; rw [← HS1.out]; refine (hMo.out _).mono ?_; rintro e w1 ⟨rfl, rfl⟩)
            go_roundw
            case rel =>
              refine ⟨k + 1, by omega, by go_num, ?_, ?_, HIn.out.2.setCell (by show w.heap.size ≤ g; have := HG.out; omega) _⟩
              · rw [E2.out, EL.out, HX.out, if_pos ⟨rfl, by omega⟩]; rfl
              · have h1 := own_put HIn.out.1 k (.string S1)
                have e : (trow l n (m) k).set k (.string S1) = trow l n (m) (k + 1) := by
                  unfold trow
                  rw [mr_set]
                  exact mr_ext _ _ _ fun i hi => by
                    by_cases h : i = k
                    · subst h; rw [if_pos rfl, if_pos (by rw [HX.out]; omega), EW.out]
                    · rw [if_neg h]
                      congr 1
                      have : (len l i < m ∨ len l i = m ∧ i < k) ↔ (len l i < m ∨ len l i = m ∧ i < k + 1) := by omega
                      simp only [this]
                rw [e] at h1
                rw [HS1.out]; exact h1
            case measure => simp [intOf]; omega
          · have HIn := Lib.hid hin; clear hin
            have dx : ((x : Int) == ((m : Nat) : Int)) = false := by simp; omega
            have dx2 : (x == m) = false := by simp; omega
            obtain ⟨S1, hS1⟩ : ∃ S1, tx (hi (m) (fst l (m) + ct (m) (l.take k))) = S1 := ⟨_, rfl⟩
            have HS1 := Lib.hid hS1
            rw [hS1]
            clear hS1
            go_wp2
            go_roundw
            case rel =>
              refine ⟨k + 1, by omega, by go_num, ?_, ?_, HIn.out.2⟩
              · rw [E2.out, EL.out, HX.out, if_neg (by omega), ← HS1.out]; rfl
              · have e : trow l n (m) (k + 1) = trow l n (m) k := mr_ext _ _ _ fun i hi => by
                  congr 1
                  have : (len l i < m ∨ len l i = m ∧ i < k + 1) ↔ (len l i < m ∨ len l i = m ∧ i < k) := by
                    by_cases h : i = k
                    · subst h; rw [HX.out]; omega
                    · omega
                  simp only [this]
                rw [e]; exact HIn.out.1
            case measure => simp [intOf]; omega
        · obtain rfl : k = n := by omega
          have HIn := Lib.hid hin; clear hin
          rw [List.take_of_length_le (by have := HN.out; omega)]
          go_wp2
          go_roundw
          case rel =>
            refine ⟨m + 1, by omega, by omega, by go_num, rfl, ?_, HIn.out.2⟩
            have e : trow l k (m + 1) 0 = trow l k (m) k := mr_ext _ _ _ fun i hi => by
              congr 1
              have : (len l i < m + 1 ∨ len l i = m + 1 ∧ i < 0) ↔ (len l i < m ∨ len l i = m ∧ i < k) := by omega
              simp only [this]
            rw [e]; exact HIn.out.1
          case measure => simp [intOf]; omega
    · have HIn := Lib.hid hin; clear hin
      obtain ⟨S1, hS1⟩ : ∃ S1, tx (hi (m - 1) (upTo l (m - 1))) = S1 := ⟨_, rfl⟩
      rw [hS1]
      clear hS1
      go_wp2
      go_ret2
      refine ⟨_, rfl, ?_, HIn.out.2⟩
      have e : trow l n m 0 = twords l n := mr_ext _ _ _ fun i hi => by
        have := len_le HOK.out i
        rw [if_pos (by omega)]
      rw [← e]
      exact HIn.out.1
theorem tx_inj {x y : List Bool} (h : tx x = tx y) : x = y := by
  have h1 := congrArg (fun s : ByteArray => s.data.toList) h
  simp only [tx] at h1
  clear h
  induction x generalizing y with
  | nil => cases y with
    | nil => rfl
    | cons b y => simp at h1
  | cons a x ih => cases y with
    | nil => simp at h1
    | cons b y =>
      simp only [List.map_cons, List.cons.injEq] at h1
      rw [ih h1.2]
      have := h1.1
      cases a <;> cases b <;> simp_all
theorem tx_beq (x y : List Bool) : ((tx x).toList == (tx y).toList) = decide (x = y) := by
  rw [tx_toList, tx_toList]
  by_cases h : x = y
  · subst h; simp
  · rw [decide_eq_false h]
    rw [← Bool.not_eq_true, beq_iff_eq]
    intro h2
    apply h
    apply tx_inj
    apply ByteArray.ext
    simp only [tx, h2]
theorem tx_extract (x : List Bool) (k : Nat) : (tx x).extract 0 k = tx (x.take k) := by
  apply ByteArray.ext
  rw [ByteArray.data_extract]
  simp [tx]
def RefGetRes (w : World) (l : List Int) (Br gr : Nat) (sv : Value) (L : List Bool) (a : Nat) (e : Ending) (w' : World) : Prop :=
  ∃ j er m, CodeGot l (L.drop a) j er m ∧ e = .returned (.tuple #[.int .i64 (j : Nat), .int .i64 (er : Nat)]) ∧ RefAt w' Br gr sv L (a + m) ∧ Only (fun k => k = gr) w w'
/-- k bits have been looked at: they are no word yet, or just one. -/
def RefGetIn (l : List Int) (bits : List Bool) (k v : Nat) : Prop :=
  hi k v = bits.take k ∧ k ≤ bits.length ∧ ((k ≤ 15 ∧ v < 2 ^ k ∧ upTo l k ≤ v ∧ lookup l bits = look l bits (16 - k) k v) ∨ (lookup l bits = .found k v ∧ k ≤ 15))
/-- Some word ahead of j is longer, and begins with the first k bits. -/
def someUp (l : List Int) (bits : List Bool) (k : Nat) : Nat → Bool
  | 0 => false
  | j + 1 => someUp l bits k j || decide (k < len l j ∧ (wb l j).take k = bits.take k)
theorem someUp_iff (l : List Int) (bits : List Bool) (k : Nat) : ∀ j, someUp l bits k j = true ↔ ∃ q, q < j ∧ k < len l q ∧ (wb l q).take k = bits.take k
  | 0 => by simp [someUp]
  | j + 1 => by
    simp only [someUp, Bool.or_eq_true, someUp_iff l bits k j, decide_eq_true_eq]
    constructor
    · rintro (⟨q, h1, h2⟩ | h)
      · exact ⟨q, by omega, h2⟩
      · exact ⟨j, by omega, h⟩
    · rintro ⟨q, h1, h2⟩
      rcases Nat.lt_or_ge q j with h | h
      · exact .inl ⟨q, h, h2⟩
      · obtain rfl : q = j := by omega
        exact .inr h2
/-- No word ahead of j is the first k bits. -/
def NoUp (l : List Int) (bits : List Bool) (k j : Nat) : Prop := ∀ q, q < j → len l q ≠ 0 → wb l q ≠ bits.take k
def InUp (l : List Int) (bits : List Bool) (k n : Nat) (so i : Value) : Prop := ∃ j : Nat, j ≤ n ∧ i = .int .i64 j ∧ so = .bool (someUp l bits k j) ∧ NoUp l bits k j
/-- A word that is the first k bits. -/
theorem up_match {l : List Int} {bits : List Bool} {k v j : Nat} (hr : kindOf l ≠ 0) (h : RefGetIn l bits k v) (hj : j < l.length) (h0 : len l j ≠ 0) (hm : wb l j = bits.take k) : len l j = k ∧ wv l j = v ∧ lookup l bits = .found k v := by
  obtain ⟨h1, h2, h3⟩ := h
  have e : len l j = k := by
    have := congrArg List.length hm
    rw [wb_length, List.length_take] at this
    omega
  have hw := (wv_small hr j hj).resolve_right h0
  have hv : v < 2 ^ k := by
    rcases h3 with ⟨_, h, _⟩ | ⟨h, hk⟩
    · exact h
    · have := (lookup_found h).2.2.1
      have := upTo_le hr k hk
      omega
  have ev : wv l j = v := by
    rw [← h1] at hm
    unfold wb at hm
    rw [e] at hm hw
    exact hi_inj k _ _ hm hw hv
  refine ⟨e, ev, ?_⟩
  rcases h3 with ⟨_, _, h4, _⟩ | ⟨h, hk⟩
  · have := wv_lt hr j hj h0
    rw [e, ev] at this
    omega
  · exact h
/-- No word is the first k bits. -/
theorem up_none {l : List Int} {bits : List Bool} {k v : Nat} (hr : kindOf l ≠ 0) (h : RefGetIn l bits k v) (hn : NoUp l bits k l.length) : k ≤ 15 ∧ v < 2 ^ k ∧ upTo l k ≤ v ∧ lookup l bits = look l bits (16 - k) k v := by
  obtain ⟨h1, h2, h3⟩ := h
  rcases h3 with h3 | ⟨h, hk⟩
  · exact h3
  · exfalso
    have h4 := lookup_found h
    obtain ⟨j, j1, j2, j3, j4, _⟩ := sign_of hr k v h4.2.1 h4.2.2.1
    exact hn j j1 (by omega) (by unfold wb; rw [j2, j4, h1])
set_option maxHeartbeats 1000000 in
set_option maxRecDepth 100000 in
theorem codeRefGet_any (A : Option Addr) (c B : Nat) (l : List Int) (n : Nat) (hn : l.length = n) (hl : n ≤ 1000) (hr : kindOf l ≠ 0) (Br gr : Nat) (sv : Value) (L : List Bool) (a : Nat) (w : World) (hs : Seen w B 1 A n c (twords l n)) (hB : B ≤ w.heap.size) (hR : RefAt w Br gr sv L a)
    (hb : L.length ≤ 8000000) (ha : a ≤ L.length) :
    Calls Tryz.prog 88 #[.slice A n c, .pointer (some ⟨gr, 0, none⟩)] w (RefGetRes w l Br gr sv L a) := by
  have HS := Lib.hid hs; clear hs
  have HN := Lib.hid hn; clear hn
  have HOK := Lib.hid (right_ok hr)
  have HR := Lib.hid hr; clear hr
  have r0 : w.cell? ⟨gr, 0, none⟩ = some sv := hR.2.1.cell 0
  have r1 : w.cell? ⟨gr, 1, none⟩ = some (.int .i64 a) := hR.2.1.cell 1
  have z1 := hR.2.1.frozen 1
  obtain ⟨As, cs, rfl, _⟩ := own_form hR.2.2
  have HRd := Lib.hid hR; clear hR
  have hln : ∀ k, k ≤ (L.drop a).length → a + k ≤ L.length := by intro k hk; simp at hk; omega
  have HLN := Lib.hid hln; clear hln
  go_enter Tryz.func88, Tryz.ntmps88
  go_wp2_with fail
  go_loopg [6, 7, 8, 9, 10] 17 (fun q s at_ _ _ _ wr => ∃ k v : Nat, k ≤ 16 ∧ q = 17 - k ∧ s = .string (tx ((L.drop a).take k)) ∧ at_ = .int .i64 (a + k : Nat) ∧ RefGetIn l (L.drop a) k v ∧ wr = w)
  case atStart => exact ⟨0, 0, by omega, rfl, rfl, rfl, ⟨by rw [hi_zero]; rfl, by omega, .inl ⟨by omega, by simp, by rw [upTo_zero]; exact Nat.le_refl _, rfl⟩⟩, rfl⟩
  case round =>
    obtain ⟨k, v, hk, rfl, rfl, rfl, hin, rfl⟩ := hrel
    have hak := HLN.out k hin.2.1
    have hk15 : k ≤ 15 := by rcases hin.2.2 with h | h; exact h.1; exact h.2
    have hS : ((L.drop a).take k).length = k := by rw [List.length_take]; have := hin.2.1; omega
    have HIn := Lib.hid hin; clear hin
    have HSL := Lib.hid hS; clear hS
    have hSz : (tx ((L.drop a).take k)).size = k := by rw [tx_size, HSL.out]
    obtain ⟨S, hST⟩ : ∃ S, tx ((L.drop a).take k) = S := ⟨_, rfl⟩
    rw [hST] at hSz ⊢
    have HST := Lib.hid hST; clear hST
    have HSZ := Lib.hid hSz; clear hSz
    obtain ⟨T, hT⟩ : ∃ T, a + k = T := ⟨_, rfl⟩
    rw [hT] at hak ⊢
    have HT := Lib.hid hT; clear hT
    go_wp2_with fail
    go_loop [8, 9, 10, 19] (fun so _ _ i => InUp l (L.drop a) k n so i) (fun _ _ _ i => n - (intOf i).toNat)
    case atStart => exact ⟨0, by omega, rfl, rfl, fun q hq => absurd hq (Nat.not_lt_zero _)⟩
    case round =>
      obtain ⟨j, hj, rfl, rfl, hno⟩ := hrel
      have HNO := Lib.hid hno; clear hno
      obtain ⟨so, hso⟩ : ∃ so, someUp l (L.drop a) k j = so := ⟨_, rfl⟩
      rw [hso]
      have HSO := Lib.hid hso; clear hso
      by_cases hlt : j < n
      · obtain ⟨b, o, u, rfl, _, q3, q4⟩ := HS.out.at hlt
        have hu : u = .string (tx (wb l j)) := by
          unfold twords at q3
          rw [mr_get _ _ _ hlt] at q3
          injection q3 with q3; exact q3.symm
        subst hu
        have hWz : (tx (wb l j)).size = len l j := by rw [tx_size, wb_length]
        have hl15 := len_le HOK.out j
        have HWZ := Lib.hid hWz; clear hWz q3
        have HBQ := Lib.hid (tx_beq (wb l j) ((L.drop a).take k))
        have HBQ2 := Lib.hid (tx_beq ((wb l j).take k) ((L.drop a).take k))
        have HEX := Lib.hid (tx_extract (wb l j) k)
        have HEM := Lib.hid (tx_some (wb l j))
        obtain ⟨W, hW⟩ : ∃ W, tx (wb l j) = W := ⟨_, rfl⟩
        rw [hW] at q4 HWZ HBQ HEX HEM
        rw [← HEX.out, HST.out] at HBQ2
        rw [HST.out] at HBQ
        clear HEX
        have HW := Lib.hid hW; clear hW
        have hWS : W.size ≤ 15 := by rw [HWZ.out]; exact hl15
        have hSS : S.size ≤ 15 := by rw [HSZ.out]; exact hk15
        -- the next round
        have STEP : Hid (∀ so' : Bool, so' = (so || decide (k < len l j ∧ (wb l j).take k = (L.drop a).take k)) → (len l j ≠ 0 → wb l j ≠ (L.drop a).take k) → InUp l (L.drop a) k n (.bool so') (.int .i64 ((j : Int) + 1))) := Lib.hid (by
          intro so' h1 h2
          refine ⟨j + 1, by omega, by go_num, by rw [h1, ← HSO.out]; rfl, ?_⟩
          intro q hq
          rcases Nat.lt_or_ge q j with h | h
          · exact HNO.out q h
          · obtain rfl : q = j := by omega
            exact h2)
        have hEmp : W.toList = [] → len l j = 0 := by
          intro h
          by_cases hw : wb l j = []
          · rw [← wb_length, hw]; rfl
          · have := (HEM.out hw).1; rw [h] at this; cases this
        have HEmp := Lib.hid hEmp; clear hEmp
        have hNe : ¬ W.toList = [] → ((!W.toList.isEmpty) = false ∨ (W.toList == S.toList) = false) → (len l j ≠ 0 → wb l j ≠ (L.drop a).take k) := by
          intro h h2 _ h3
          rcases h2 with h2 | h2
          · apply h
            simpa using h2
          · rw [HBQ.out, decide_eq_true h3] at h2; cases h2
        have HNe := Lib.hid hNe; clear hNe
        have hSo1 : ¬ so = true → S.size < W.size → ((W.extract 0 S.size).toList == S.toList) = (so || decide (k < len l j ∧ (wb l j).take k = (L.drop a).take k)) := by
          intro h h2
          rw [HSZ.out, HWZ.out] at h2
          rw [HSZ.out, HBQ2.out]
          cases so with
          | true => exact absurd rfl h
          | false => simp [h2]
        have HSo1 := Lib.hid hSo1; clear hSo1
        have hSo2 : ¬ so = true → ¬ S.size < W.size → false = (so || decide (k < len l j ∧ (wb l j).take k = (L.drop a).take k)) := by
          intro h h2
          rw [HSZ.out, HWZ.out] at h2
          cases so with
          | true => exact absurd rfl h
          | false => simp [h2]
        have HSo2 := Lib.hid hSo2; clear hSo2
        go_wp2_with fail
        · next h1 h2 => exact ⟨STEP.out _ (by rw [h2]; rfl) (fun h => absurd (HEmp.out h1) h), by simp [intOf]; omega⟩
        · next h1 h2 h3 => exact ⟨STEP.out _ (HSo1.out h2 h3) (fun h => absurd (HEmp.out h1) h), by simp [intOf]; omega⟩
        · next h1 h2 h3 => exact ⟨STEP.out _ (HSo2.out h2 h3) (fun h => absurd (HEmp.out h1) h), by simp [intOf]; omega⟩
        · next h1 h2 _ =>
          go_ret2
          have hm : wb l j = (L.drop a).take k := by
            have := HBQ.out
            rw [h2.2] at this
            exact of_decide_eq_true this.symm
          have h0 : len l j ≠ 0 := by
            intro h0
            apply h1
            have : wb l j = [] := List.eq_nil_of_length_eq_zero (by rw [wb_length]; exact h0)
            rw [← HW.out, this, tx_toList]; rfl
          obtain ⟨u1, u2, u3⟩ := up_match HR.out HIn.out (by rw [HN.out]; exact hlt) h0 hm
          refine ⟨j, 0, k, by unfold CodeGot; rw [u3]; exact ⟨by rw [HN.out]; exact hlt, u1, u2, rfl, rfl⟩, rfl, ?_, ?_⟩
          · rw [HT.out]; exact (HRd.out.set T).1
          · exact (HRd.out.set T).2
        · next h1 h2 h3 => exact ⟨STEP.out _ (by rw [h3]; rfl) (HNe.out h1 h2), by simp [intOf]; omega⟩
        · next h1 h2 h3 h4 => exact ⟨STEP.out _ (HSo1.out h3 h4) (HNe.out h1 h2), by simp [intOf]; omega⟩
        · next h1 h2 h3 h4 => exact ⟨STEP.out _ (HSo2.out h3 h4) (HNe.out h1 h2), by simp [intOf]; omega⟩
      · obtain rfl : j = n := by omega
        obtain ⟨a1, a2, a3, a4⟩ := up_none HR.out HIn.out (by rw [HN.out]; exact HNO.out)
        have HA := Lib.hid a4
        have hLT := HIn.out.2.1
        by_cases hw : words l ≤ bas l (k + 1)
        · have : so = false := by
            cases so with
            | false => rfl
            | true =>
              obtain ⟨q, q1, q2, q3⟩ := (someUp_iff l (L.drop a) k j).1 HSO.out
              have := longer HOK.out k q (by rw [HN.out]; exact q1) q2
              omega
          subst this
          have hLk : lookup l (L.drop a) = .code := by rw [a4, show 16 - k = (15 - k) + 1 by omega, look_code hw]
          have HLk := Lib.hid hLk
          clear hLk a1 a2 a3 a4 hLT hw
          go_wp2_with fail
          go_ret2
          exact ⟨0, 12, 0, by unfold CodeGot; rw [HLk.out]; exact ⟨rfl, rfl, rfl⟩, rfl, HRd.out, Only.refl _ _⟩
        · obtain ⟨q, q1, q2, q3⟩ := cover HR.out k v a1 a2 a3 (by omega)
          have : so = true := by
            rw [← HSO.out, someUp_iff]
            exact ⟨q, by rw [← HN.out]; exact q1, q2, by rw [q3]; exact HIn.out.1⟩
          subst this
          by_cases hend : T = L.length
          · have hLk : lookup l (L.drop a) = .fin := by rw [a4, show 16 - k = (15 - k) + 1 by omega, look_fin hw (by rw [List.length_drop]; have := HT.out; omega)]
            have HLk := Lib.hid hLk
            have hd : ((T : Int) == L.length) = true := by simp; omega
            clear hLk a1 a2 a3 a4 hLT hw q1 q2 q3
            have HE := Lib.hid hend; clear hend
            have hd2 : (T == L.length) = true := by simp; exact HE.out
            go_wp2_with fail
            go_ret2
            exact ⟨0, 6, 0, by unfold CodeGot; rw [HLk.out]; exact ⟨rfl, rfl, rfl⟩, rfl, HRd.out, Only.refl _ _⟩
          · have hd : ((T : Int) == L.length) = false := by simp; omega
            have hd2 : (T == L.length) = false := by simp; exact hend
            have hkb : k < (L.drop a).length := by rw [List.length_drop]; have := HT.out; omega
            obtain ⟨bit, hbit⟩ : ∃ bit, (L.drop a)[k] = bit := ⟨_, rfl⟩
            have hstep := look_step (f := 16 - (k + 1)) (v := v) hw hkb
            rw [hbit, show 16 - (k + 1) + 1 = 16 - k by omega, ← a4] at hstep
            have hTL : T < L.length := by omega
            have hLb : L[T] = bit := by
              rw [← hbit, List.getElem_drop]
              congr 1
              exact HT.out.symm
            have hIn2 : RefGetIn l (L.drop a) (k + 1) (2 * v + bit.toNat) := by
              have hk14 : k < 15 := by
                rcases Nat.lt_or_ge k 15 with h | h
                · exact h
                · exfalso
                  apply hw
                  rw [show k = 15 by omega, bas_words l HOK.out]
                  exact Nat.le_refl _
              refine ⟨by rw [hi_bit, HIn.out.1, ← hbit, take_snoc _ k hkb], by omega, ?_⟩
              by_cases h2 : 2 * v + bit.toNat < upTo l (k + 1)
              · rw [if_pos h2] at hstep
                exact .inr ⟨hstep, by omega⟩
              · rw [if_neg h2] at hstep
                refine .inl ⟨by omega, ?_, by omega, hstep⟩
                rw [Nat.pow_succ]
                have : bit.toNat ≤ 1 := by cases bit <;> simp
                omega
            have HIn2 := Lib.hid hIn2; clear hIn2
            have hsn : (L.drop a).take (k + 1) = (L.drop a).take k ++ [bit] := by rw [← hbit, take_snoc _ k hkb]
            have HSN := Lib.hid hsn; clear hsn
            obtain ⟨b2, o2, u, hA, _, q4, q5⟩ := (Seen.of_own HRd.out.2.2).at (k := T) hTL
            subst hA
            have hu : u = .bool bit := by
              rw [List.getElem?_map, List.getElem?_eq_getElem hTL, hLb] at q4
              simpa using q4.symm
            subst hu
            have hSS : S.size ≤ 15 := by rw [HSZ.out]; exact hk15
            have HK := Lib.hid hk15
            clear hbit hstep hLb q1 q2 q3 a1 a2 a3 a4 hw hkb hLT q4 hk15
            cases bit with
            | true =>
              have E := Lib.hid (tx_one ((L.drop a).take k))
              rw [HST.out, ← HSN.out] at E
              go_wp2_with fail
              go_roundg (17 - (k + 1))
              case measure => have := HK.out; omega
              case rel => exact ⟨k + 1, 2 * v + true.toNat, by have := HK.out; omega, rfl, by rw [← E.out], by rw [← HT.out]; go_num, HIn2.out, rfl⟩
            | false =>
              have E := Lib.hid (tx_zero ((L.drop a).take k))
              rw [HST.out, ← HSN.out] at E
              go_wp2_with fail
              go_roundg (17 - (k + 1))
              case measure => have := HK.out; omega
              case rel => exact ⟨k + 1, 2 * v + false.toNat, by have := HK.out; omega, rfl, by rw [← E.out], by rw [← HT.out]; go_num, HIn2.out, rfl⟩
end Go.Proofs.YtkjhefjjacokjaaGreat
