/-
  The document's bits: Of, Bytes, its reader. Conditions: each theorem names the range of its arguments.
-/
import Derived.Test.YtobchlakjgeadaaD
import Derived.Deep.LoopGhost
namespace Go.Proofs.Ytobchlakjgeadaa
open Go.RowKit
set_option maxRecDepth 100000


theorem unpack_snoc (l : List Nat) (x : Nat) : unpack (l ++ [x]) = unpack l ++ bitsOf x 8 := by simp [unpack]

theorem refOf_any (A : Option Addr) (c B : Nat) (bs : List Nat) (n : Nat) (hn : bs.length = n) (w : World) (hs : Seen w B 1 A n c (bs.map fun x : Nat => Value.int .u8 x)) (hB : B ≤ w.heap.size) (hl : n ≤ 100000) (h256 : ∀ x ∈ bs, x < 256) :
    Calls Try.prog 21 #[.slice A n c] w (GivesRow w 4 1 (8 * n) ((unpack bs).map .bool)) := by
  obtain ⟨i0, hi0, hz0, hz1, hz2⟩ := info_parts bool_info
  have HS := Lib.hid hs; clear hs
  have HN := Lib.hid hn; clear hn
  have H256 := Lib.hid h256; clear h256
  go_enter Try.func21, Try.ntmps21
  go_wp2
  go_loopw [3, 8] (fun s i wr => ∃ k : Nat, k ≤ n ∧ i = .int .i64 k ∧ wr.ownsRow w.heap.size 4 1 s (8 * k) ((unpack (bs.take k)).map .bool) ∧ Below w.heap.size w wr) (fun _ i _ => n - (intOf i).toNat)
  case atStart => exact ⟨0, Nat.zero_le _, rfl, World.ownsRow_nil _ _ _ _, Below.refl _ _⟩
  case round =>
    obtain ⟨k, hk, rfl, hown, hbel⟩ := hrel
    by_cases hlt : k < n
    · have hkl : k < bs.length := by rw [HN.out]; exact hlt
      obtain ⟨b, o, u, rfl, hb, hu, hcell⟩ := (HS.out.below (hbel.mono hB)).at (k := k) hlt
      have hu' : u = .int .u8 (bs[k] : Nat) := by simpa [hkl] using hu.symm
      subst hu'
      have hx := H256.out _ (List.getElem_mem hkl)
      have hsn : Hid (unpack (bs.take (k + 1)) = unpack (bs.take k) ++ bitsOf bs[k] 8) := by
        show _ = _
        rw [List.take_succ_eq_append_getElem hkl, unpack_snoc]
      clear hu
      generalize bs[k] = x at *
      have wx : IntKind.u32.wrap (x : Int) = x := IntWalk.u32_in _ (by omega)
      have HOwn := Lib.hid hown; clear hown
      have HBel := Lib.hid hbel; clear hbel
      go_wp2_with fail
      refine (bits_any x 8 (by omega) (by omega) _).mono ?_; rintro e w1 ⟨v1, rfl, ho1, hb1⟩
      obtain ⟨A1, c1, rfl, hc1, hs1⟩ := own_seen ho1
      have HS1 := Lib.hid hs1
      have HB1 := Lib.hid (HBel.out.trans (hb1.mono HBel.out.size))
      have HO1 := Lib.hid (own_only HOwn.out (Only.of_below hb1 Nob) (fun _ _ h => h))
      have HLT := Lib.hid HOwn.out.lt
      have hsz := HB1.out.size
      clear ho1 hs1 hb1
      go_wp2_with (at_builtin; refine wpList_append_seen _ rfl (.tmp 12) (.tmp 15) _ rfl w.heap.size 4 i0 _ 1 1 Try.underlying29 hi0 hz0 hz1 hz2 rfl (by omega) u3 (8 * k) _ rfl HO1.out _ A1 8 c1 _ rfl HS1.out (by intro u hu; obtain ⟨_, _, rfl⟩ := List.mem_map.1 hu; rfl) (by simp only [maxLen]; omega) (by omega) hsz ?_; intro v2 w2 hown2 hg2 hat2)
      go_roundw
      case rel =>
        refine ⟨k + 1, by omega, by go_num, ?_, HB1.out.grown hg2 hsz (fun i hi => (HLT.out i hi).1)⟩
        rw [hsn.out, List.map_append, show 8 * (k + 1) = 8 * k + 8 by omega]
        exact hown2
      case measure => simp [intOf]; omega
    · obtain rfl : n = k := by omega
      rw [List.take_of_length_le (by rw [HN.out]; exact Nat.le_refl _)] at hown
      go_wp2_with fail
      go_ret
      exact ⟨_, rfl, hown, hbel⟩



/-- The document's bytes of bits. -/
theorem refBytes_any (A : Option Addr) (n c B : Nat) (l : List Bool) (hl : l.length = n) (hn : n ≤ 1000000) (w : World) (hs : Seen w B 1 A n c (l.map .bool)) (hB : B ≤ w.heap.size) :
    Calls Try.prog 11 #[.slice A n c] w (GivesRow w 5 1 ((n + 7) / 8) ((pack l).map fun x : Nat => Value.int .u8 x)) := by
  obtain ⟨i0, hi0, hz0, hz1, hz2⟩ := info_parts byte_info
  have hnc := hs.2.1
  have HS := Lib.hid hs; clear hs
  have HL := Lib.hid hl; clear hl
  go_enter Try.func11, Try.ntmps11
  go_wp2
  go_loopw [3, 4] (fun s i wr => ∃ k : Nat, 8 * k ≤ n + 7 ∧ i = .int .i64 (8 * k : Nat) ∧ wr.ownsRow w.heap.size 5 1 s k (((pack l).take k).map fun x : Nat => Value.int .u8 x) ∧ Below w.heap.size w wr) (fun _ i _ => n + 8 - (intOf i).toNat)
  case atStart => exact ⟨0, by omega, rfl, World.ownsRow_nil _ _ _ _, Below.refl _ _⟩
  case round =>
    obtain ⟨k, hk, rfl, hown, hbel⟩ := hrel
    obtain ⟨a, ha⟩ : ∃ a, 8 * k = a := ⟨_, rfl⟩
    rw [ha]
    have HA := Lib.hid ha; clear ha
    have hsz := hbel.size
    have hlt1 := hown.lt
    have HLT := Lib.hid hlt1; clear hlt1
    by_cases hlt : a < n
    · have hca : (c = a) = False := by simp; omega
      have hS2 := HS.out.below (hbel.mono hB)
      have hk2 : k < (l.length + 7) / 8 := by have := HA.out; have := HL.out; omega
      have hk3 : k ≤ 1000000 := by omega
      have htake0 : (pack l).take (k + 1) = (pack l).take k ++ [num ((l.drop a).take 8)] := by
        have h1 := pack_get l k hk2
        rw [HA.out] at h1
        rw [List.getElem?_eq_getElem (by simpa using hk2)] at h1
        rw [List.take_succ_eq_append_getElem (by simpa using hk2), Option.some.inj h1]
      have hnum : num ((l.drop a).take 8) < 256 := by
        have h1 := num_lt ((l.drop a).take 8)
        have h2 : ((l.drop a).take 8).length ≤ 8 := by simp; omega
        have := Nat.pow_le_pow_right (n := 2) (by omega) h2
        omega
      have htake := Lib.hid htake0; clear htake0
      by_cases hm : n < a + 8
      · have hch : num ((l.drop a).take (n - a)) = num ((l.drop a).take 8) := by
          rw [List.take_of_length_le (by simp [HL.out]), List.take_of_length_le (by simp [HL.out]; omega)]
        generalize num ((l.drop a).take 8) = N at *
        go_wp2_with fail
        refine (number_any _ (n - a) _ ((l.drop a).take (n - a)) (by rw [List.length_take, List.length_drop, HL.out]; omega) (by omega) _ _ (by have h3 := hS2.cut (q := a) (n := (n - a)) (by omega); rw [List.map_take, List.map_drop]; exact h3)).mono ?_; rintro e w' ⟨rfl, rfl⟩
        rw [hch]
        go_wp2_with (at_builtin; refine wpList_append_seen _ rfl (.tmp 11) (.tmp 22) _ rfl w.heap.size 5 i0 _ 1 1 Try.underlying22 hi0 hz0 hz1 hz2 rfl (by omega) u3 k _ rfl (hown.alloc _) _ _ 1 1 _ rfl (seen_one _ _ _) (by simp [Value.oneCell']) (by simp only [maxLen]; omega) (by omega) (by simp only [World.size_alloc]; omega) ?_; intro v1 w1 hown1 hg1 hat1)
        go_roundw
        case rel =>
          refine ⟨k + 1, by have := HA.out; omega, by have := HA.out; go_num, ?_, (hbel.alloc hsz _).grown hg1 (by simp; omega) (fun i hi => (HLT.out i hi).1)⟩
          rw [htake.out, List.map_append]
          exact hown1
        case measure => simp [intOf]; omega
      · generalize hN : num ((l.drop a).take 8) = N at *
        go_wp2_with fail
        refine (number_any _ 8 _ ((l.drop a).take 8) (by rw [List.length_take, List.length_drop, HL.out]; omega) (by omega) _ _ (by have h3 := hS2.cut (q := a) (n := 8) (by omega); rw [List.map_take, List.map_drop]; exact h3)).mono ?_; rintro e w' ⟨rfl, rfl⟩
        rw [hN]
        go_wp2_with (at_builtin; refine wpList_append_seen _ rfl (.tmp 11) (.tmp 22) _ rfl w.heap.size 5 i0 _ 1 1 Try.underlying22 hi0 hz0 hz1 hz2 rfl (by omega) u3 k _ rfl (hown.alloc _) _ _ 1 1 _ rfl (seen_one _ _ _) (by simp [Value.oneCell']) (by simp only [maxLen]; omega) (by omega) (by simp only [World.size_alloc]; omega) ?_; intro v1 w1 hown1 hg1 hat1)
        go_roundw
        case rel =>
          refine ⟨k + 1, by have := HA.out; omega, by have := HA.out; go_num, ?_, (hbel.alloc hsz _).grown hg1 (by simp; omega) (fun i hi => (HLT.out i hi).1)⟩
          rw [htake.out, List.map_append]
          exact hown1
        case measure => simp [intOf]; omega
    · go_wp2_with fail
      go_ret
      have hkk : k = (n + 7) / 8 := by have := HA.out; omega
      subst hkk
      rw [List.take_of_length_le (by simp [HL.out])] at hown
      exact ⟨_, rfl, hown, hbel⟩

/-- The document's reader stands at block g: these bits, so many read. -/
def RefAt (w : World) (B g : Nat) (sv : Value) (l : List Bool) (a : Nat) : Prop :=
  B ≤ g ∧ Whole w g 59 #[sv, .int .i64 a] ∧ w.ownsRow B 4 1 sv l.length (l.map .bool)

theorem RefAt.set {w : World} {B g : Nat} {sv : Value} {l : List Bool} {a : Nat} (h : RefAt w B g sv l a) (a' : Nat) : RefAt (w.setCell ⟨g, 1, none⟩ (.int .i64 a')) B g sv l a' ∧ Only (fun k => k = g) w (w.setCell ⟨g, 1, none⟩ (.int .i64 a')) := by
  have hO := (Only.refl (fun k => k = g) w).setCell (p := ⟨g, 1, none⟩) (.inl rfl) (.int .i64 a')
  exact ⟨⟨h.1, by simpa using h.2.1.put 1 (.int .i64 a'), own_only h.2.2 hO (fun k hk => own_ne_whole h.2.2 h.2.1 (by decide) k hk)⟩, hO⟩
theorem RefAt.c0 {w : World} {B g : Nat} {sv : Value} {l : List Bool} {a : Nat} (h : RefAt w B g sv l a) : w.cell? ⟨g, 0, none⟩ = some sv := by simpa using h.2.1.cell 0
theorem RefAt.c1 {w : World} {B g : Nat} {sv : Value} {l : List Bool} {a : Nat} (h : RefAt w B g sv l a) : w.cell? ⟨g, 1, none⟩ = some (.int .i64 a) := by simpa using h.2.1.cell 1

theorem refGet_end (B g : Nat) (sv : Value) (l : List Bool) (a : Nat) (n : Int) (w : World) (h : RefAt w B g sv l a) (ha : a ≤ l.length) (hn : n ≤ 32) (hl : (l.length : Int) - a < n) :
    Calls Try.prog 39 #[.pointer (some ⟨g, 0, none⟩), .int .i64 n] w fun e w' => e = .returned (.tuple #[.int .u32 0, .int .i64 6]) ∧ w' = w.drew := by
  have c0 := h.c0
  have c1 := h.c1
  obtain ⟨A, c, rfl, _⟩ := own_form h.2.2
  clear h
  have wl : IntKind.i64.wrap ((l.length : Int) - a) = (l.length : Int) - a := IntWalk.i64_in _ (by omega)
  have h0 : 0 ≤ n := by omega
  have hd : decide ((l.length : Int) - a < n) = true := by simp; omega
  go_enter Try.func39, Try.ntmps39
  go_wp2
  go_still (by kernel_rfl)
  go_wp2
  go_ret2
  exact ⟨rfl, rfl⟩

set_option maxHeartbeats 1000000 in
theorem refGet_yes (B g : Nat) (sv : Value) (l : List Bool) (a n : Nat) (w : World) (h : RefAt w B g sv l a) (hb : l.length ≤ 8000000) (hn : n ≤ 32) (hl : a + n ≤ l.length) :
    Calls Try.prog 39 #[.pointer (some ⟨g, 0, none⟩), .int .i64 n] w fun e w' => e = .returned (.tuple #[.int .u32 (num ((l.drop a).take n)), .int .i64 0]) ∧ RefAt w' B g sv l (a + n) ∧ Only (fun k => k = g) w w' := by
  have c0 := h.c0
  have c1 := h.c1
  have f1 := h.2.1.frozen 1
  obtain ⟨A, c, rfl, hcm⟩ := own_form h.2.2
  have hlc : l.length ≤ c := (Seen.of_own h.2.2).2.1
  have wl : IntKind.i64.wrap ((l.length : Int) - a) = (l.length : Int) - a := IntWalk.i64_in _ (by omega)
  have hd : decide ((l.length : Int) - a < n) = false := by simp; omega
  have hd0 : decide ((n : Int) < 0) = false := by simp
  have hd1 : decide ((32 : Int) < n) = false := by simp; omega
  have HS := Lib.hid (h.set (a + n))
  have H := Lib.hid h; clear h
  unfold maxLen at hcm
  by_cases hca : c = a
  · subst hca
    obtain rfl : n = 0 := by omega
    go_enter Try.func39, Try.ntmps39
    go_wp2
    go_still (by kernel_rfl)
    go_wp2
    have hC : RefAt (w.setCell ⟨g, 1, none⟩ (.int .i64 ((c : Int)))).drew B g (.slice A l.length c) l (c + 0) := HS.out.1
    have hO : Only (fun k => k = g) w (w.setCell ⟨g, 1, none⟩ (.int .i64 ((c : Int)))).drew := HS.out.2.drew
    generalize (w.setCell ⟨g, 1, none⟩ (.int .i64 ((c : Int)))).drew = W at *
    have d0 := hC.c0
    have d1 := hC.c1
    have hsn := Lib.hid (show Seen W W.heap.size 1 A 0 0 (([] : List Bool).map Value.bool) from (Seen.of_own hC.2.2).empty)
    obtain ⟨s, hs⟩ : ∃ s, c + 0 = s := ⟨_, rfl⟩
    rw [hs] at d1
    have es : (s : Int) - 0 = c := by omega
    have ws : IntKind.i64.wrap (c : Int) = c := IntWalk.i64_in _ (by omega)
    have hs0 : (0 : Int) ≤ c := by omega
    have hs1 : (c : Int) ≤ s := by omega
    have hs2 : (s : Int) ≤ c := by omega
    have hs3 : (s : Int) - c = 0 := by omega
    have hs4 : c ≤ s := by omega
    have hs5 : s ≤ c := by omega
    have hs6 : s - c = 0 := by omega
    clear c0 c1
    refine wp_region_still_lit (by kernel_rfl) (by kernel_rfl) ?_
    repeat still_step
    still_call (flip (number_any A 0 0 [] (by simp; try omega) (by omega) _ _ (by exact hsn.out)))
    repeat still_step
    refine wpStill_nil ?_
    go_wp2_with fail
    go_ret2
    exact ⟨by simp [num], hC, hO.drew⟩
  · have hca1 : (c = a) = False := by simp [hca]
    go_enter Try.func39, Try.ntmps39
    go_wp2
    go_still (by kernel_rfl)
    go_wp2
    have hC : RefAt (w.setCell ⟨g, 1, none⟩ (.int .i64 ((a : Int) + n))).drew B g (.slice A l.length c) l (a + n) := HS.out.1
    have hO : Only (fun k => k = g) w (w.setCell ⟨g, 1, none⟩ (.int .i64 ((a : Int) + n))).drew := HS.out.2.drew
    generalize (w.setCell ⟨g, 1, none⟩ (.int .i64 ((a : Int) + n))).drew = W at *
    have d0 := hC.c0
    have d1 := hC.c1
    have hsn := Lib.hid (show Seen W W.heap.size 1 (Option.map (fun x => x.add a) A) n (c - a) (((l.drop a).take n).map Value.bool) by rw [List.map_take, List.map_drop]; exact (Seen.of_own hC.2.2).cut hl)
    obtain ⟨s, hs⟩ : ∃ s, a + n = s := ⟨_, rfl⟩
    rw [hs] at d1
    have es : (s : Int) - n = a := by omega
    have ws : IntKind.i64.wrap (a : Int) = a := IntWalk.i64_in _ (by omega)
    have hs0 : (0 : Int) ≤ a := by omega
    have hs1 : (a : Int) ≤ s := by omega
    have hs2 : (s : Int) ≤ c := by omega
    have hs3 : (s : Int) - a = n := by omega
    have hs4 : a ≤ s := by omega
    have hs5 : s ≤ c := by omega
    have hs6 : s - a = n := by omega
    clear c0 c1
    refine wp_region_still_lit (by kernel_rfl) (by kernel_rfl) ?_
    repeat still_step
    still_call (flip (number_any (Option.map (fun x => x.add a) A) n (c - a) ((l.drop a).take n) (by simp; try omega) (by omega) _ _ (by exact hsn.out)))
    repeat still_step
    refine wpStill_nil ?_
    go_wp2_with fail
    go_ret2
    exact ⟨rfl, hC, hO.drew⟩

theorem refAlign_any (B g : Nat) (sv : Value) (l : List Bool) (a : Nat) (w : World) (h : RefAt w B g sv l a) (ha : a ≤ 8000000) :
    Calls Try.prog 40 #[.pointer (some ⟨g, 0, none⟩)] w fun e w' => e = .returned (.tuple #[]) ∧ RefAt w' B g sv l ((a + 7) / 8 * 8) ∧ Only (fun k => k = g) w w' := by
  have H := Lib.hid h; clear h
  obtain ⟨T, hT⟩ : ∃ T, (a + 7) / 8 * 8 = T := ⟨_, rfl⟩
  rw [hT]
  have hT1 : a ≤ T := by omega
  have hT2 : T ≤ a + 7 := by omega
  have HT := Lib.hid (show T % 8 = 0 by omega)
  clear hT
  go_enter Try.func40, Try.ntmps40
  go_wp2
  go_loopg [2] (T - a) (fun k _ wr => ∃ b : Nat, a ≤ b ∧ b ≤ T ∧ k = T - b ∧ RefAt wr B g sv l b ∧ Only (fun k => k = g) w wr)
  case atStart => exact ⟨a, Nat.le_refl _, hT1, rfl, H.out, Only.refl _ _⟩
  case round =>
    obtain ⟨b, hb1, hb2, rfl, hR, hO⟩ := hrel
    have c1 := hR.c1
    have f1 := hR.2.1.frozen 1
    have HR := Lib.hid (hR.set (b + 1))
    have HO := Lib.hid hO; clear hO
    by_cases hz : b % 8 = 0
    · have hzz : (((b : Int) % 8) != 0) = false := by simp; omega
      have HZ := Lib.hid hz; clear hz
      go_wp2
      go_end0
      have := HZ.out
      have := HT.out
      obtain rfl : b = T := by omega
      exact ⟨rfl, hR, HO.out⟩
    · have hzz : (((b : Int) % 8) != 0) = true := by simp; omega
      have HZ := Lib.hid hz; clear hz
      clear hR
      go_wp2
      go_roundg (T - (b + 1))
      case measure => have := HZ.out; have := HT.out; omega
      case rel =>
        refine ⟨b + 1, by omega, by have := HZ.out; have := HT.out; omega, rfl, HR.out.1, HO.out.trans HR.out.2⟩

theorem refTake_end (B g : Nat) (sv : Value) (l : List Bool) (a : Nat) (n : Int) (w : World) (h : RefAt w B g sv l a) (hb : l.length ≤ 8000000) (ha : (a + 7) / 8 * 8 ≤ l.length) (hn : 0 ≤ n) (hl : ((l.length : Int) - ((a + 7) / 8 * 8 : Nat)) / 8 < n) :
    Calls Try.prog 41 #[.pointer (some ⟨g, 0, none⟩), .int .i64 n] w fun e w' => e = .returned (.tuple #[.slice none 0 0, .int .i64 6]) ∧ RefAt w' B g sv l ((a + 7) / 8 * 8) ∧ Only (fun k => k = g) w w' := by
  obtain ⟨T, hT⟩ : ∃ T, (a + 7) / 8 * 8 = T := ⟨_, rfl⟩
  have hA := refAlign_any B g sv l a w h (by omega)
  rw [hT] at hl ha hA ⊢
  have HA := Lib.hid hA; clear hA
  clear hT
  obtain ⟨A, c, rfl, _⟩ := own_form h.2.2
  clear h
  have wl : IntKind.i64.wrap ((l.length : Int) - T) = (l.length : Int) - T := IntWalk.i64_in _ (by omega)
  have wd : IntKind.i64.wrap (((l.length : Int) - T) / 8) = ((l.length : Int) - T) / 8 := IntWalk.i64_in _ (by omega)
  have wt : ((l.length : Int) - T).tdiv 8 = ((l.length : Int) - T) / 8 := Int.tdiv_eq_ediv_of_nonneg (by omega)
  have hd : decide (((l.length : Int) - T) / 8 < n) = true := by simp; omega
  go_enter Try.func41, Try.ntmps41
  go_wp2_with (go_at_call 40; refine HA.out.mono ?_; rintro e w1 ⟨rfl, hR, hO⟩; have c0 := hR.c0; have c1 := hR.c1)
  go_still (by kernel_rfl)
  go_wp2
  go_ret2
  exact ⟨rfl, hR, hO.drew⟩

theorem below_undrew {w w' : World} (h : Below w.drew.heap.size w.drew w') : Below w.heap.size w w' := ⟨h.os, h.tape, h.output, h.size, h.block⟩

def RefTakePost (w : World) (B g : Nat) (sv : Value) (l : List Bool) (a n : Nat) (xs : List Nat) (e : Ending) (w' : World) : Prop :=
  ∃ v, e = .returned (.tuple #[v, .int .i64 0]) ∧ w'.ownsRow w.heap.size 5 1 v n (xs.map fun x : Nat => Value.int .u8 x) ∧ RefAt w' B g sv l a ∧ Only (fun k => k = g) w w'

set_option maxHeartbeats 1000000 in
theorem refTake_yes (B g : Nat) (sv : Value) (l : List Bool) (a n : Nat) (w : World) (h : RefAt w B g sv l a) (hb : l.length ≤ 800000) (hl : (a + 7) / 8 * 8 + 8 * n ≤ l.length) :
    Calls Try.prog 41 #[.pointer (some ⟨g, 0, none⟩), .int .i64 n] w (RefTakePost w B g sv l ((a + 7) / 8 * 8 + 8 * n) n (pack ((l.drop ((a + 7) / 8 * 8)).take (8 * n)))) := by
  obtain ⟨T, hT⟩ : ∃ T, (a + 7) / 8 * 8 = T := ⟨_, rfl⟩
  have hA := refAlign_any B g sv l a w h (by omega)
  rw [hT] at hl hA ⊢
  clear hT
  obtain ⟨A, c, rfl, hcm⟩ := own_form h.2.2
  have hlc : l.length ≤ c := (Seen.of_own h.2.2).2.1
  have HA := Lib.hid hA; clear hA
  clear h
  unfold maxLen at hcm
  have wl : IntKind.i64.wrap ((l.length : Int) - T) = (l.length : Int) - T := IntWalk.i64_in _ (by omega)
  have wd : IntKind.i64.wrap (((l.length : Int) - T) / 8) = ((l.length : Int) - T) / 8 := IntWalk.i64_in _ (by omega)
  have wt : ((l.length : Int) - T).tdiv 8 = ((l.length : Int) - T) / 8 := Int.tdiv_eq_ediv_of_nonneg (by omega)
  have hd : decide (((l.length : Int) - T) / 8 < n) = false := by simp; omega
  have hd0 : decide ((n : Int) < 0) = false := by simp
  by_cases hca : c = T
  · obtain rfl : n = 0 := by omega
    subst hca
    go_enter Try.func41, Try.ntmps41
    go_wp2_with (go_at_call 40; refine HA.out.mono ?_; rintro e w1 ⟨rfl, hR, hO⟩; have c0 := hR.c0; have c1 := hR.c1; have f1 := hR.2.1.frozen 1)
    go_still (by kernel_rfl)
    go_wp2
    have HS := hR.set (c + 8 * 0)
    have hC : RefAt (w1.setCell ⟨g, 1, none⟩ (.int .i64 ((c : Int)))).drew B g (.slice A l.length c) l (c + 8 * 0) := by
      have h9 := HS.1
      rw [show ((c + 8 * 0 : Nat) : Int) = (c : Int) by simp] at h9
      exact h9
    have hO2 : Only (fun k => k = g) w (w1.setCell ⟨g, 1, none⟩ (.int .i64 ((c : Int)))).drew := by
      have h9 := hO.trans HS.2
      have h8 := h9.drew
      simpa using h8
    clear HS hR hO c0 c1 f1
    generalize (w1.setCell ⟨g, 1, none⟩ (.int .i64 ((c : Int)))).drew = W at *
    have d0 := hC.c0
    have d1 := hC.c1
    have hsn := Lib.hid (show Seen W W.heap.size 1 A 0 0 (([] : List Bool).map Value.bool) from (Seen.of_own hC.2.2).empty)
    have d2 : W.cell? ⟨g, 1, none⟩ = some (.int .i64 (c : Int)) := by simpa using d1
    clear d1
    have w0 : IntKind.i64.wrap 0 = 0 := IntWalk.i64_in _ (by omega)
    have ws : IntKind.i64.wrap (c : Int) = c := IntWalk.i64_in _ (by omega)
    have hs0 : (0 : Int) ≤ c := by omega
    refine wp_region_still_tail 16 (by kernel_rfl) (by kernel_rfl) ?_
    simp only [List.take_succ_cons, List.take_zero, List.drop_succ_cons, List.drop_zero]
    repeat still_step
    refine wpStill_nil ?_
    go_wp2_with fail
    refine (refBytes_any A 0 0 W.heap.size [] rfl (by omega) W.drew hsn.out (Nat.le_refl _)).mono ?_; rintro e w2 ⟨v2, rfl, ho2, hb2⟩
    go_wp2_with fail
    go_ret2
    have hb3 := below_undrew hb2
    rw [show (0 + 7) / 8 = 0 from rfl] at ho2
    exact ⟨v2, rfl, by simpa using own_base ho2 hO2.size, ⟨hC.1, hC.2.1.only (Only.of_below hb3 Nob) (fun h => h), own_only hC.2.2 (Only.of_below hb3 Nob) (fun _ _ h => h)⟩, hO2.trans (Only.of_below hb3 _)⟩
  · have hca1 : (c = T) = False := by simp [hca]
    go_enter Try.func41, Try.ntmps41
    go_wp2_with (go_at_call 40; refine HA.out.mono ?_; rintro e w1 ⟨rfl, hR, hO⟩; have c0 := hR.c0; have c1 := hR.c1; have f1 := hR.2.1.frozen 1)
    go_still (by kernel_rfl)
    go_wp2
    have HS := hR.set (T + 8 * n)
    have hC : RefAt (w1.setCell ⟨g, 1, none⟩ (.int .i64 ((T : Int) + 8 * n))).drew B g (.slice A l.length c) l (T + 8 * n) := by
      have h9 := HS.1
      rw [show ((T + 8 * n : Nat) : Int) = (T : Int) + 8 * n by simp] at h9
      exact h9
    have hO2 : Only (fun k => k = g) w (w1.setCell ⟨g, 1, none⟩ (.int .i64 ((T : Int) + 8 * n))).drew := by
      have h9 := hO.trans HS.2
      have h8 := h9.drew
      simpa using h8
    clear HS hR hO c0 c1 f1
    generalize (w1.setCell ⟨g, 1, none⟩ (.int .i64 ((T : Int) + 8 * n))).drew = W at *
    have d0 := hC.c0
    have d1 := hC.c1
    have hsn := Lib.hid (show Seen W W.heap.size 1 (Option.map (fun x => x.add T) A) (8 * n) (c - T) (((l.drop T).take (8 * n)).map Value.bool) by rw [List.map_take, List.map_drop]; exact (Seen.of_own hC.2.2).cut hl)
    obtain ⟨s, hs⟩ : ∃ s, T + 8 * n = s := ⟨_, rfl⟩
    rw [hs] at d1
    have wn : IntKind.i64.wrap (8 * (n : Int)) = 8 * n := IntWalk.i64_in _ (by omega)
    have es : (s : Int) - 8 * n = T := by omega
    have ws : IntKind.i64.wrap (T : Int) = T := IntWalk.i64_in _ (by omega)
    have hs0 : (0 : Int) ≤ T := by omega
    have hs1 : (T : Int) ≤ s := by omega
    have hs2 : (s : Int) ≤ c := by omega
    have hs4 : T ≤ s := by omega
    have hs5 : s ≤ c := by omega
    have hs6 : s - T = 8 * n := by omega
    refine wp_region_still_tail 16 (by kernel_rfl) (by kernel_rfl) ?_
    simp only [List.take_succ_cons, List.take_zero, List.drop_succ_cons, List.drop_zero]
    repeat still_step
    refine wpStill_nil ?_
    go_wp2_with fail
    refine (refBytes_any (Option.map (fun x => x.add T) A) (8 * n) (c - T) W.heap.size ((l.drop T).take (8 * n)) (by simp; omega) (by omega) W.drew hsn.out (Nat.le_refl _)).mono ?_; rintro e w2 ⟨v2, rfl, ho2, hb2⟩
    go_wp2_with fail
    go_ret2
    have hb3 := below_undrew hb2
    rw [show (8 * n + 7) / 8 = n by omega] at ho2
    exact ⟨v2, rfl, own_base ho2 hO2.size, ⟨hC.1, hC.2.1.only (Only.of_below hb3 Nob) (fun h => h), own_only hC.2.2 (Only.of_below hb3 Nob) (fun _ _ h => h)⟩, hO2.trans (Only.of_below hb3 _)⟩

end Go.Proofs.Ytobchlakjgeadaa
