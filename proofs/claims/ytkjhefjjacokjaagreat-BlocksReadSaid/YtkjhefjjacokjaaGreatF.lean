/-
  The contract of Put, for a number of 0 to 32 bits. Conditions: the writer stands as told (WriterAt), and holds at most a million bits.
  Plain mathematics of bits: what is written is read. Conditions: none. Nothing of the program stands here.
  Texts of bytes; rows that are read. Conditions: each theorem names the range of its arguments.
-/
import Derived.Test.YtkjhefjjacokjaaGreatV
import Derived.Test.YtkjhefjjacokjaaGreatZ4
namespace Go.Proofs.YtkjhefjjacokjaaGreat
open Go.RowKit
/-- Put leaves a writer with these bits; only its own blocks have changed. -/
def PutPost (w : World) (B g : Nat) (sv : Value) (l : List Bool) (w' : World) : Prop :=
  ∃ sv', WriterAt w' B g sv' l ∧ Only (Foot g sv) w w' ∧ ∀ k, sv'.ownBlock = some k → sv.ownBlock = some k ∨ w.heap.size ≤ k
theorem own_last {w : World} {B r q cap : Nat} {pre : List Nat} {last : Nat} (hq : pre.length = q) (h : w.ownsRow B 5 1 (.slice (some ⟨r, 0, none⟩) (q + 1) cap) (q + 1) ((pre ++ [last]).map fun x : Nat => Value.int .u8 x)) :
    w.cell? ⟨r, q, none⟩ = some (.int .u8 last) := by
  rw [h.cellAt q (by omega), List.map_append, List.getElem?_append_right (by rw [List.length_map, hq]; exact Nat.le_refl _), List.length_map, hq, Nat.sub_self]
  rfl
/-- The last byte with some bits more. -/
theorem or_last (last x p us : Nat) (h1 : last < 2 ^ us) (h2 : us + p ≤ 8) :
    bits BinOp.or IntKind.u8 (last : Int) ((x : Int) % 2 ^ p * 2 ^ us % 256) = ((last + 2 ^ us * (x % 2 ^ p) : Nat) : Int) := by
  have hp : x % 2 ^ p < 2 ^ p := Nat.mod_lt _ (Nat.two_pow_pos p)
  have h3 : x % 2 ^ p * 2 ^ us < 256 := by
    have h4 : x % 2 ^ p * 2 ^ us < 2 ^ p * 2 ^ us := (Nat.mul_lt_mul_right (Nat.two_pow_pos us)).2 hp
    rw [← Nat.pow_add] at h4
    have := Nat.pow_le_pow_right (n := 2) (by omega) (show p + us ≤ 8 by omega)
    omega
  have h5 : 2 ^ us ≤ 256 := by
    have := Nat.pow_le_pow_right (n := 2) (by omega) (show us ≤ 8 by omega)
    simpa using this
  have e : ((x : Int) % 2 ^ p * 2 ^ us % 256) = ((x % 2 ^ p * 2 ^ us : Nat) : Int) := by
    have e1 : ((x : Int) % 2 ^ p * 2 ^ us) = ((x % 2 ^ p * 2 ^ us : Nat) : Int) := by simp
    rw [e1]; omega
  rw [e, u8_or_nat _ _ (by omega) h3, Nat.or_comm, nat_join us _ _ (Nat.mul_mod_left _ _) h1]
  congr 1
  rw [Nat.add_comm, Nat.mul_comm]
theorem put_done {w W : World} {B g r q cap us p x last : Nat} {sv : Value} {L : List Bool} (hq : L.length / 8 = q) (hus : L.length % 8 = us) (hp : 0 < p) (h8 : us + p ≤ 8)
    (hlast : num (L.drop (8 * q)) = last) (hBg : B ≤ g) (hWh : Whole W g 47 #[.slice (some ⟨r, 0, none⟩) (q + 1) cap, .int .i64 L.length])
    (hown : W.ownsRow B 5 1 (.slice (some ⟨r, 0, none⟩) (q + 1) cap) (q + 1) (((pack L).take q ++ [last]).map fun x : Nat => Value.int .u8 x))
    (hO : Only (Foot g sv) w W) (hr : sv.ownBlock = some r ∨ w.heap.size ≤ r) :
    PutPost w B g sv (L ++ bitsOf x p) ((W.setCell ⟨r, q, none⟩ (.int .u8 ((last + 2 ^ us * (x % 2 ^ p) : Nat) : Int))).drew.setCell ⟨g, 1, none⟩ (.int .i64 ((L.length : Int) + p))) := by
  have hne : r ≠ g := own_ne_whole hown hWh (by decide) r rfl
  have hlen : (L ++ bitsOf x p).length = L.length + p := by simp
  have hpl : (List.take q (pack L)).length = q := by simp; omega
  refine ⟨.slice (some ⟨r, 0, none⟩) (q + 1) cap, ⟨hBg, ?_, ?_⟩, ?_, ?_⟩
  · have h1 := ((hWh.far (p := ⟨r, q, none⟩) (Ne.symm hne) (.int .u8 ((last + 2 ^ us * (x % 2 ^ p) : Nat) : Int))).drew).put 1 (.int .i64 ((L.length : Int) + p))
    rw [hlen]
    simpa using h1
  · have h1 := (hown.stored q (.int .u8 ((last + 2 ^ us * (x % 2 ^ p) : Nat) : Int))).1
    rw [hlen, show (L.length + p + 7) / 8 = q + 1 by omega, pack_more L (bitsOf x p) (by simpa using hp) (by simp; omega), num_bitsOf, hq, hus, hlast]
    have h2 : (((pack L).take q ++ [last]).map fun x : Nat => Value.int .u8 x).set q (.int .u8 ((last + 2 ^ us * (x % 2 ^ p) : Nat) : Int)) = (((pack L).take q ++ [last + 2 ^ us * (x % 2 ^ p)]).map fun x : Nat => Value.int .u8 x) := by
      rw [List.map_append, List.map_append, List.set_append_right _ _ (by rw [List.length_map, hpl]; exact Nat.le_refl _), List.length_map, hpl, Nat.sub_self]
      rfl
    rw [h2] at h1
    exact own_only h1.drew (((Only.refl (fun k => k = g) _).setCell (p := ⟨g, 1, none⟩) (.inl rfl) _)) (fun k hk => by simp [Value.ownBlock] at hk; omega)
  · refine ((hO.setCell (p := ⟨r, q, none⟩) ?_ _).drew).setCell (p := ⟨g, 1, none⟩) (.inl (.inl rfl)) _
    rcases hr with h | h
    · exact .inl (.inr h)
    · exact .inr h
  · intro k hk
    obtain rfl : r = k := by simpa [Value.ownBlock] using hk
    exact hr
set_option maxRecDepth 20000 in
set_option maxHeartbeats 1000000 in
theorem put_yes (v n B g : Nat) (sv : Value) (l : List Bool) (hv : v < 4294967296) (h : n ≤ 32) (w : World) (hw : WriterAt w B g sv l) (hl : l.length ≤ 1000000) :
    Calls Tryz.prog 23 #[.pointer (some ⟨g, 0, none⟩), .int .u32 v, .int .i64 n] w fun e w' => e = .returned (.tuple #[]) ∧ PutPost w B g sv (l ++ bitsOf v n) w' := by
  obtain ⟨i0, hi0, hz0, hz1, hz2⟩ := info_parts byte_info
  have HW := Lib.hid hw; clear hw
  go_enter Tryz.func23, Tryz.ntmps23
  go_wp2_with (go_at_call 47; refine (isWidth_yes n (by omega) (by omega) _).mono ?_; rintro e w' ⟨rfl, rfl⟩)
  go_loopw [1, 2] (fun x m wr => ∃ j : Nat, j ≤ n ∧ x = .int .u32 (v / 2 ^ j : Nat) ∧ m = .int .i64 (n - j : Nat) ∧ PutPost w B g sv (l ++ bitsOf v j) wr) (fun _ m _ => (intOf m).toNat)
  case atStart => exact ⟨0, Nat.zero_le _, by simp, rfl, sv, by simpa [bitsOf] using HW.out, Only.refl _ _, fun k hk => .inl hk⟩
  case round =>
    obtain ⟨j, hj, rfl, rfl, sv1, hW1, hO1, hB1⟩ := hrel
    by_cases hlt : j < n
    · have hx1 : v / 2 ^ j < 4294967296 := Nat.lt_of_le_of_lt (Nat.div_le_self _ _) hv
      have hadd : Hid (∀ p, l ++ bitsOf v (j + p) = l ++ bitsOf v j ++ bitsOf (v / 2 ^ j) p) := by
        intro p; rw [bitsOf_add, List.append_assoc]
      have hdiv : Hid (∀ p, v / 2 ^ (j + p) = v / 2 ^ j / 2 ^ p) := by
        intro p; rw [Nat.pow_add, Nat.div_div_eq_div_mul]
      have hL : (l ++ bitsOf v j).length ≤ 1000040 := by simp; omega
      generalize hLe : l ++ bitsOf v j = L at *
      clear hLe
      generalize v / 2 ^ j = x at *
      obtain ⟨m, hm⟩ : ∃ m, n - j = m := ⟨_, rfl⟩
      have hm0 : 0 < m := by omega
      have hm1 : m ≤ 32 := by omega
      rw [hm]
      have HM := Lib.hid hm; clear hm
      obtain ⟨hBg, hWh, hown⟩ := hW1
      obtain ⟨q, hq⟩ : ∃ q, L.length / 8 = q := ⟨_, rfl⟩
      obtain ⟨us, hus⟩ : ∃ us, L.length % 8 = us := ⟨_, rfl⟩
      obtain ⟨p, hp⟩ : ∃ p, 8 - us = p := ⟨_, rfl⟩
      have hq2 : q ≤ 1000040 := by omega
      have hus2 : us ≤ 7 := by omega
      have hp2 : 0 < p := by omega
      have hp3 : p ≤ 8 := by omega
      have eu : (L.length : Int) % 8 = us := by omega
      have e8 : 8 - (us : Int) = p := by omega
      have HQ := Lib.hid hq; clear hq
      have HU := Lib.hid hus; clear hus
      have HP := Lib.hid hp; clear hp
      have hlast : num (L.drop (8 * q)) < 2 ^ us := by
        have h1 := num_lt (L.drop (8 * q))
        rwa [show (L.drop (8 * q)).length = us by have := HQ.out; have := HU.out; simp; omega] at h1
      obtain ⟨last, hla⟩ : ∃ last, num (L.drop (8 * q)) = last := ⟨_, rfl⟩
      rw [hla] at hlast
      have HLA := Lib.hid hla; clear hla
      have hpl : (List.take q (pack L)).length = q := by have := HQ.out; simp; omega
      have HPL := Lib.hid hpl; clear hpl
      have wq : IntKind.i64.wrap (q : Int) = q := IntWalk.i64_in _ (by omega)
      have hq0 : (0 : Int) ≤ q := by omega
      have hq1 : (q : Int) < q + 1 := by omega
      have c1 : wr.cell? ⟨g, 1, none⟩ = some (.int .i64 L.length) := by simpa using hWh.cell 1
      have c0 : wr.cell? ⟨g, 0, none⟩ = some sv1 := by simpa using hWh.cell 0
      have f0 := hWh.frozen 0
      have f1 := hWh.frozen 1
      by_cases hu : us = 0
      · have hu1 : ((us : Int) == 0) = true := by simp; omega
        have HL0 : Hid (last = 0) := by
          have h1 := HLA.out
          rw [List.drop_of_length_le (by have := HQ.out; have := HU.out; omega)] at h1
          exact h1.symm
        have hfull := pack_full L
        rw [if_pos (by rw [HU.out]; exact hu), HQ.out, List.append_nil] at hfull
        rw [← hfull, show (L.length + 7) / 8 = q by have := HQ.out; have := HU.out; omega] at hown
        clear hfull
        have HU0 := Lib.hid hu; clear hu
        have hsz := hO1.size
        have hBs : B ≤ wr.heap.size := by have := hWh.lt; omega
        by_cases hmp : m < p
        · have eo := or_last last x m us hlast (by have := HP.out; omega)
          go_wp2_with (at_builtin; refine wpList_append_seen _ rfl (.tmp 28) (.tmp 29) _ rfl B 5 i0 _ 1 1 Tryz.underlying23 hi0 hz0 hz1 hz2 rfl (by omega) sv1 q _ rfl (hown.alloc _) _ _ 1 1 _ rfl (seen_one _ _ _) (by simp [Value.oneCell']) (by simp only [maxLen]; omega) (by omega) (by simp only [World.size_alloc]; omega) ?_; intro v1 w1 hown1 hg1 hat1; have hWh1 := (hWh.alloc _).grown hg1 (fun e => own_ne_whole hown hWh (by decide) g e.symm rfl); obtain ⟨r, cap, rfl, hcap, hcapm⟩ := own_pos hown1 (by omega); have d0 : w1.cell? ⟨g, 0, none⟩ = some sv1 := (by simpa using hWh1.cell 0); have d1 : w1.cell? ⟨g, 1, none⟩ = some (.int .i64 L.length) := (by simpa using hWh1.cell 1); have e0 := hWh1.frozen 0)
          have hne : r ≠ g := own_ne_whole hown1 hWh1 (by decide) r rfl
          have hne' : g ≠ r := Ne.symm hne
          have hW2 : Whole (w1.setCell ⟨g, 0, none⟩ (.slice (some ⟨r, 0, none⟩) (q + 1) cap)) g 47 #[.slice (some ⟨r, 0, none⟩) (q + 1) cap, .int .i64 L.length] := by simpa using hWh1.put 0 (.slice (some ⟨r, 0, none⟩) (q + 1) cap)
          have hown2 := own_only hown1 ((Only.refl (fun k => k = g) _).setCell (p := ⟨g, 0, none⟩) (.inl rfl) (.slice (some ⟨r, 0, none⟩) (q + 1) cap)) (fun k hk => by simp [Value.ownBlock] at hk; omega)
          have hO2 : Only (Foot g sv) w (w1.setCell ⟨g, 0, none⟩ (.slice (some ⟨r, 0, none⟩) (q + 1) cap)) := by
            refine ((hO1.alloc _).grown hg1 (fun k hk hk2 => ?_)).setCell (.inl (.inl rfl)) _
            rcases hB1 k hk with h | h
            · exact .inr h
            · omega
          have HR : Hid (sv.ownBlock = some r ∨ w.heap.size ≤ r) := by
            rcases hat1 with h | h
            · exact hB1 r (h.symm.trans rfl)
            · have h3 := hO1.size
              simp [Value.ownBlock] at h
              exact .inr (by omega)
          clear hWh1 hat1 hg1 hO1 hB1 hWh hown d0 d1 e0 c0 c1 f0 f1
          clear hown1
          rw [show (List.map (fun x : Nat => Value.int IntKind.u8 x) (List.take q (pack L)) ++ [Value.int IntKind.u8 0]) = ((List.take q (pack L) ++ [last]).map fun x : Nat => Value.int .u8 x) by rw [List.map_append, HL0.out]; rfl] at hown2
          generalize w1.setCell ⟨g, 0, none⟩ (.slice (some ⟨r, 0, none⟩) (q + 1) cap) = W at *
          have c1 : W.cell? ⟨g, 1, none⟩ = some (.int .i64 L.length) := by simpa using hW2.cell 1
          have c0 : W.cell? ⟨g, 0, none⟩ = some (.slice (some ⟨r, 0, none⟩) (q + 1) cap) := by simpa using hW2.cell 0
          have f1 := hW2.frozen 1
          have cq := own_last HPL.out hown2
          have fq := hown2.frozenAt q
          refine wp_region_still_tail 20 (by kernel_rfl) (by kernel_rfl) ?_
          simp only [List.take_succ_cons, List.take_zero, List.drop_succ_cons, List.drop_zero]
          repeat still_step
          still_call (flip (lowest_any x m hx1 (by omega) _))
          repeat still_step
          refine wpStill_nil ?_
          go_wp2
          go_roundw
          case rel => exact ⟨j + m, by have := HM.out; omega, by rw [hdiv.out]; simp, by have := HM.out; rw [show n - (j + m) = 0 by omega]; rfl, by rw [hadd.out]; exact put_done HQ.out HU.out hm0 (by have := HP.out; omega) HLA.out hBg hW2 hown2 hO2 HR.out⟩
          case measure => simp [intOf]; omega
        · have eo := or_last last x p us hlast (by have := HP.out; omega)
          go_wp2_with (at_builtin; refine wpList_append_seen _ rfl (.tmp 28) (.tmp 29) _ rfl B 5 i0 _ 1 1 Tryz.underlying23 hi0 hz0 hz1 hz2 rfl (by omega) sv1 q _ rfl (hown.alloc _) _ _ 1 1 _ rfl (seen_one _ _ _) (by simp [Value.oneCell']) (by simp only [maxLen]; omega) (by omega) (by simp only [World.size_alloc]; omega) ?_; intro v1 w1 hown1 hg1 hat1; have hWh1 := (hWh.alloc _).grown hg1 (fun e => own_ne_whole hown hWh (by decide) g e.symm rfl); obtain ⟨r, cap, rfl, hcap, hcapm⟩ := own_pos hown1 (by omega); have d0 : w1.cell? ⟨g, 0, none⟩ = some sv1 := (by simpa using hWh1.cell 0); have d1 : w1.cell? ⟨g, 1, none⟩ = some (.int .i64 L.length) := (by simpa using hWh1.cell 1); have e0 := hWh1.frozen 0)
          have hne : r ≠ g := own_ne_whole hown1 hWh1 (by decide) r rfl
          have hne' : g ≠ r := Ne.symm hne
          have hW2 : Whole (w1.setCell ⟨g, 0, none⟩ (.slice (some ⟨r, 0, none⟩) (q + 1) cap)) g 47 #[.slice (some ⟨r, 0, none⟩) (q + 1) cap, .int .i64 L.length] := by simpa using hWh1.put 0 (.slice (some ⟨r, 0, none⟩) (q + 1) cap)
          have hown2 := own_only hown1 ((Only.refl (fun k => k = g) _).setCell (p := ⟨g, 0, none⟩) (.inl rfl) (.slice (some ⟨r, 0, none⟩) (q + 1) cap)) (fun k hk => by simp [Value.ownBlock] at hk; omega)
          have hO2 : Only (Foot g sv) w (w1.setCell ⟨g, 0, none⟩ (.slice (some ⟨r, 0, none⟩) (q + 1) cap)) := by
            refine ((hO1.alloc _).grown hg1 (fun k hk hk2 => ?_)).setCell (.inl (.inl rfl)) _
            rcases hB1 k hk with h | h
            · exact .inr h
            · omega
          have HR : Hid (sv.ownBlock = some r ∨ w.heap.size ≤ r) := by
            rcases hat1 with h | h
            · exact hB1 r (h.symm.trans rfl)
            · have h3 := hO1.size
              simp [Value.ownBlock] at h
              exact .inr (by omega)
          clear hWh1 hat1 hg1 hO1 hB1 hWh hown d0 d1 e0 c0 c1 f0 f1
          clear hown1
          rw [show (List.map (fun x : Nat => Value.int IntKind.u8 x) (List.take q (pack L)) ++ [Value.int IntKind.u8 0]) = ((List.take q (pack L) ++ [last]).map fun x : Nat => Value.int .u8 x) by rw [List.map_append, HL0.out]; rfl] at hown2
          generalize w1.setCell ⟨g, 0, none⟩ (.slice (some ⟨r, 0, none⟩) (q + 1) cap) = W at *
          have c1 : W.cell? ⟨g, 1, none⟩ = some (.int .i64 L.length) := by simpa using hW2.cell 1
          have c0 : W.cell? ⟨g, 0, none⟩ = some (.slice (some ⟨r, 0, none⟩) (q + 1) cap) := by simpa using hW2.cell 0
          have f1 := hW2.frozen 1
          have cq := own_last HPL.out hown2
          have fq := hown2.frozenAt q
          refine wp_region_still_tail 20 (by kernel_rfl) (by kernel_rfl) ?_
          simp only [List.take_succ_cons, List.take_zero, List.drop_succ_cons, List.drop_zero]
          repeat still_step
          still_call (flip (lowest_any x p hx1 (by omega) _))
          repeat still_step
          refine wpStill_nil ?_
          go_wp2
          go_roundw
          case rel => exact ⟨j + p, by have := HM.out; omega, by rw [hdiv.out]; simp, by have := HM.out; congr 1; omega, by rw [hadd.out]; exact put_done HQ.out HU.out hp2 (by have := HP.out; omega) HLA.out hBg hW2 hown2 hO2 HR.out⟩
          case measure => simp [intOf]; omega
      · have hu1 : ((us : Int) == 0) = false := by simp; omega
        have hfull := pack_full L
        rw [if_neg (by rw [HU.out]; exact hu), HQ.out, HLA.out] at hfull
        rw [← hfull, show (L.length + 7) / 8 = q + 1 by have := HQ.out; have := HU.out; omega] at hown
        clear hfull
        obtain ⟨r, cap, rfl, hcap, hcapm⟩ := own_pos hown (by omega)
        have hne : r ≠ g := own_ne_whole hown hWh (by decide) r rfl
        have hne' : g ≠ r := Ne.symm hne
        have cq := own_last HPL.out hown
        have fq := hown.frozenAt q
        have hr : sv.ownBlock = some r ∨ w.heap.size ≤ r := hB1 r rfl
        have HR := Lib.hid hr; clear hr hB1
        by_cases hmp : m < p
        · have eo := or_last last x m us hlast (by have := HP.out; omega)
          go_wp2
          refine wp_region_still_tail 20 (by kernel_rfl) (by kernel_rfl) ?_
          simp only [List.take_succ_cons, List.take_zero, List.drop_succ_cons, List.drop_zero]
          repeat still_step
          still_call (flip (lowest_any x m hx1 hm1 _))
          repeat still_step
          refine wpStill_nil ?_
          go_wp2
          go_roundw
          case rel => exact ⟨j + m, by have := HM.out; omega, by rw [hdiv.out]; simp, by have := HM.out; rw [show n - (j + m) = 0 by omega]; rfl, by rw [hadd.out]; exact put_done HQ.out HU.out hm0 (by have := HP.out; omega) HLA.out hBg hWh hown hO1 HR.out⟩
          case measure => simp [intOf]; omega
        · have eo := or_last last x p us hlast (by have := HP.out; omega)
          go_wp2
          refine wp_region_still_tail 20 (by kernel_rfl) (by kernel_rfl) ?_
          simp only [List.take_succ_cons, List.take_zero, List.drop_succ_cons, List.drop_zero]
          repeat still_step
          still_call (flip (lowest_any x p hx1 (by omega) _))
          repeat still_step
          refine wpStill_nil ?_
          go_wp2
          go_roundw
          case rel => exact ⟨j + p, by have := HM.out; omega, by rw [hdiv.out]; simp, by have := HM.out; congr 1; omega, by rw [hadd.out]; exact put_done HQ.out HU.out hp2 (by have := HP.out; omega) HLA.out hBg hWh hown hO1 HR.out⟩
          case measure => simp [intOf]; omega
    · obtain rfl : j = n := by omega
      rw [Nat.sub_self]
      go_wp2
      go_end0
      exact ⟨rfl, sv1, hW1, hO1, hB1⟩
end Go.Proofs.YtkjhefjjacokjaaGreat

namespace Go.Proofs.YtkjhefjjacokjaaGreat

end Go.Proofs.YtkjhefjjacokjaaGreat

namespace Go.Proofs.YtkjhefjjacokjaaGreat
open Go.RowKit
/-- The text of bytes. -/
def strOf (bs : List Nat) : ByteArray := ⟨(bs.map fun n => UInt8.ofNat n).toArray⟩
theorem conv_seen {w : World} {B : Nat} {A : Option Addr} {n c : Nat} {bs : List Nat} (h : Seen w B 1 A n c (bs.map fun x : Nat => Value.int .u8 x)) :
    (convert 23 9 (.slice A n c)).run Tryz.prog w = .ok (.string (strOf bs)) w := by
  obtain ⟨h1, h2, h3⟩ := h
  rcases h3 with ⟨rfl, rfl⟩ | ⟨a, rfl, h3⟩
  · obtain rfl : bs = [] := List.eq_nil_of_length_eq_zero (by simp at h1; omega)
    exact run_convert_bytes_nil w 23 5 Tryz.underlying23 Tryz.underlying5 n 0 9 Tryz.underlying9
  · by_cases hb : bs = []
    · subst hb
      obtain rfl : n = 0 := by simpa using h1.symm
      rw [run_convert_bytes_string w 23 9 5 _ 0 c Tryz.underlying23 Tryz.underlying5 Tryz.underlying9, run_bytesToString w _ 0 c [] (by simpa using run_loadCells_list (P := Tryz.prog) w a [] (by simp))]
      rfl
    · obtain ⟨g1, g2, g3⟩ := h3 (by simpa using hb)
      obtain ⟨b, o, s⟩ := a
      simp only at g1 g2 g3
      subst g1
      have hl : bs.length = n := by simpa using h1
      have := run_convert_bytes_arg (P := Tryz.prog) w 23 5 Tryz.underlying23 Tryz.underlying5 b o n c (bs.map fun x : Nat => (x : Int)) (by simpa using hl) (fun i hi => by
        have hi' : i < bs.length := by omega
        rw [g3 i (.int .u8 (bs[i] : Int)) (by simp [hi'])]
        simp [List.getD, hi']) 9 Tryz.underlying9
      rw [this]
      simp only [strOfNums, strOf, List.map_map]
      rfl
theorem own_seen {w : World} {base : Nat} {e : TypeId} {size n : Nat} {v : Value} {xs : List Value} (h : w.ownsRow base e size v n xs) : ∃ A c, v = .slice A n c ∧ c ≤ maxLen ∧ Seen w w.heap.size size A n c xs := by
  obtain ⟨A, c, rfl, hc⟩ := own_form h
  exact ⟨A, c, rfl, hc, Seen.of_own h⟩
theorem Seen.cut {w : World} {B : Nat} {A : Option Addr} {len c q n : Nat} {xs : List Value} (h : Seen w B 1 A len c xs) (hq : q + n ≤ len) : Seen w B 1 (Option.map (fun x => x.add q) A) n (c - q) ((xs.drop q).take n) := by
  obtain ⟨h1, h2, h3⟩ := h
  refine ⟨by simp; omega, by omega, ?_⟩
  rcases h3 with ⟨rfl, rfl⟩ | ⟨⟨b, o, s⟩, rfl, h3⟩
  · exact .inl ⟨rfl, by omega⟩
  · refine .inr ⟨_, rfl, fun hx => ?_⟩
    obtain ⟨g1, g2, g3⟩ := h3 (by rintro rfl; simp at hx)
    simp only at g1 g2 g3
    subst g1
    simp only [Addr.add_lit]
    refine ⟨trivial, g2, fun j u hu => ?_⟩
    rw [Nat.add_assoc]
    refine g3 _ u ?_
    rw [List.getElem?_take] at hu
    split at hu
    · rw [← hu, List.getElem?_drop]
    · cases hu
theorem Seen.empty {w : World} {B : Nat} {A : Option Addr} {len c : Nat} {xs : List Value} (h : Seen w B 1 A len c xs) : Seen w B 1 A 0 0 [] := by
  obtain ⟨h1, h2, h3⟩ := h
  refine ⟨rfl, Nat.le_refl _, ?_⟩
  rcases h3 with ⟨rfl, _⟩ | ⟨a, rfl, h3⟩
  · exact .inl ⟨rfl, rfl⟩
  · exact .inr ⟨a, rfl, fun hx => absurd rfl hx⟩
end Go.Proofs.YtkjhefjjacokjaaGreat
