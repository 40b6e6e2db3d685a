/-
  Contract of appended. Conditions: each theorem names its own.
  The contract of Of. Conditions: the slice is read as told (Seen), it has at most a thousand lengths.
-/
import Derived.Test.YtkjhefjjacokjaaGreatRH
namespace Go.Proofs.YtkjhefjjacokjaaGreat
open Go.RowKit
set_option maxRecDepth 100000
theorem rvs_one (l : List Rn) : ∀ u ∈ rvs l, u.oneCell' = true := by
  intro u hu
  simp only [rvs, List.mem_flatMap, rc] at hu
  obtain ⟨p, _, hp⟩ := hu
  simp at hp
  rcases hp with rfl | rfl <;> rfl
theorem seen_rn (w : World) (a b : Int) : Seen (w.alloc (.cells #[.int .i64 a, .int .i64 b] 118)) (w.heap.size + 1) 2 (some ⟨w.heap.size, 0, none⟩) 1 1 (rvs [⟨a, b⟩]) := by
  have hW := Whole.new w 118 #[.int .i64 a, .int .i64 b]
  refine ⟨rfl, Nat.le_refl _, .inr ⟨_, rfl, fun _ => ⟨rfl, Nat.lt_succ_self _, fun j u hu => ?_⟩⟩⟩
  show _ = some u
  simp only [Nat.zero_add]
  rw [hW.cell j]
  have e : rvs [⟨a, b⟩] = [.int .i64 a, .int .i64 b] := rfl
  rw [e] at hu
  rw [← hu]
  simp
/-- What appended leaves. -/
def AppRes (base : Nat) (rs : List Rn) (o : List Int) (x : Int) (t : Nat) (w : World) (e : Ending) (w' : World) : Prop :=
  ∃ (v' : Value) (rs' : List Rn), e = .returned v' ∧ w'.ownsRow base 118 2 v' rs'.length (rvs rs') ∧ expR rs' [] = (0, o ++ List.replicate t x) ∧ rs'.length ≤ rs.length + t ∧ Below base w w' ∧ rs' = appR x t rs
theorem bits_room (s : Int) (w : World) (z : Int) (hz : roomR s = z) : Calls Tryz.prog 81 #[.int .i64 s] w fun e w' => ∃ b : Int, e = .returned (.int .i64 b) ∧ w = w' ∧ ((b = 0 ∧ z = 1) ∨ (b = 2 ∧ z = 4) ∨ (b = 3 ∧ z = 8) ∨ (b = 7 ∧ z = 128)) := by
  refine (bits_any s w).mono ?_
  rintro e w' ⟨rfl, rfl⟩
  refine ⟨_, rfl, rfl, ?_⟩
  rw [← hz]
  unfold bitsR roomR
  repeat (first | omega | split)
set_option maxHeartbeats 4000000 in
theorem appended_any (base : Nat) (v : Value) (rs : List Rn) (o : List Int) (x : Int) (t : Nat) (hx : 0 ≤ x) (hx2 : x ≤ 15) (h1 : 1 ≤ t) (ho : o.length + t ≤ 320) (hrs : rs.length ≤ 320) (w : World) (hown : w.ownsRow base 118 2 v rs.length (rvs rs)) (hexp : expR rs [] = (0, o)) (hb : base ≤ w.heap.size) :
    Calls Tryz.prog 98 #[v, .int .i64 x, .int .i64 t] w (AppRes base rs o x t w) := by
  obtain ⟨i0, hi0, hz0, hz1, hz2⟩ := info_parts run_info
  obtain ⟨A, c, rfl, _⟩ := own_form hown
  have hkk : ∀ k, (Value.slice A rs.length c).ownBlock = some k → base ≤ k := fun k hk => (own_whole hown hk).1
  have HKK := Lib.hid hkk
  have HO := Lib.hid hown
  have HE := Lib.hid hexp
  obtain ⟨n, hn⟩ : ∃ n, rs.length = n := ⟨_, rfl⟩
  rw [hn] at HO HKK hrs
  have HN := Lib.hid hn
  clear hown hexp hkk
  by_cases h0 : 0 < x
  · have d0 : decide (0 < x) = true := decide_eq_true h0
    rw [hn]
    have HS5 : Hid (Seen (w.alloc (.cells #[.int .i64 x, .int .i64 0] 118)) (w.heap.size + 1) 2 (some ⟨w.heap.size, 0, none⟩) 1 1 (rvs [⟨x, 0⟩])) := Lib.hid (seen_rn w x 0)
    have hB5 : Below w.heap.size w (w.alloc (.cells #[.int .i64 x, .int .i64 0] 118)) := (Below.refl _ _).alloc (Nat.le_refl _) _
    have HO5 := Lib.hid (own_only HO.out (Only.of_below hB5 Nob) (fun _ _ h => h))
    have HB5 := Lib.hid (hB5.mono hb)
    have HSI := Lib.hid (single_step rs o x hx hx2 (by omega) HE.out)
    clear hB5
    go_enter Tryz.func98, Tryz.ntmps98
    go_wp2_with (at_builtin; (refine wpList_append_seen _ rfl (.tmp 11) (.tmp 14) _ rfl base 118 i0 _ 2 16 Tryz.underlying112 hi0 hz0 hz1 hz2 rfl (by omega) (.slice A n c) n (rvs rs) rfl HO5.out _ _ 1 1 (rvs [⟨x, 0⟩]) rfl HS5.out (rvs_one _) (by simp only [maxLen]; omega) (by omega) (by simp; omega) ?_); intro v1 w1 hown1 hg1 hat1)
    have HF1 := Lib.hid (And.intro hown1 (HB5.out.grown hg1 (by simp; omega) (fun k hk => HKK.out k hk)))
    clear hown1 hg1 hat1
    go_loopw [0, 2, 7, 8] (fun s i p q wr => ∃ (d : Nat) (rs' : List Rn), d ≤ t ∧ i = .int .i64 ((t - d : Nat) : Int) ∧ Hid (wr.ownsRow base 118 2 s rs'.length (rvs rs') ∧ expR rs' [] = (0, o ++ List.replicate d x) ∧ rs'.length ≤ n + d ∧ (0 < x → 0 < d) ∧ Below base w wr ∧ runG x t (t - d) (d, rs') = appR x t rs)) (fun _ i _ _ _ => (intOf i).toNat)
    case atStart => exact ⟨1, rs ++ [⟨x, 0⟩], h1, by rw [show ((t - 1 : Nat) : Int) = t - 1 by omega], Lib.hid ⟨by rw [rvs_append, List.length_append, HN.out]; exact HF1.out.1, HSI.out, by rw [List.length_append, HN.out]; exact Nat.le_refl _, fun _ => by omega, HF1.out.2, by unfold appR; rw [if_pos h0]⟩⟩
    case round =>
      obtain ⟨d, rs', hd, rfl, h⟩ := hrel
      obtain ⟨U, hU⟩ : ∃ U, t - d = U := ⟨_, rfl⟩
      rw [hU]
      obtain ⟨own4, exp4, len4, pos4, bel4, gst4⟩ := h.out
      obtain ⟨A4, c4, rfl, _⟩ := own_form own4
      have HKK4 := Lib.hid (fun k (hk : (Value.slice A4 rs'.length c4).ownBlock = some k) => (own_whole own4 hk).1)
      have hsz4 := bel4.size
      by_cases hlt : 0 < U
      · have dU : decide ((0 : Int) < U) = true := decide_eq_true (by omega)
        have CG := Lib.hid (fun W => great_any x U W)
        obtain ⟨g, hg⟩ : ∃ g, greatR x U = g := ⟨_, rfl⟩
        have hgn := great_nums x U hx hx2 (by omega) (by omega)
        rw [hg] at CG hgn
        have CL := Lib.hid (fun W => least_any g W)
        obtain ⟨L, hL⟩ : ∃ L, leastR g = L := ⟨_, rfl⟩
        rw [hL] at CL hgn
        obtain ⟨z, hz⟩ : ∃ z, roomR g = z := ⟨_, rfl⟩
        have CB := Lib.hid (fun W => bits_room g W z hz)
        rw [hz] at hgn
        obtain ⟨g1, g2, g3, g4, g5, g6, g7⟩ := hgn
        obtain ⟨M, hM⟩ : ∃ M, L + z - 1 = M := ⟨_, rfl⟩
        obtain ⟨C, hC⟩ : ∃ C, min (U : Int) M = C := ⟨_, rfl⟩
        have em : (if M < (U : Int) then M else (U : Int)) = C := by rw [← hC]; split <;> omega
        have hUd : ((t : Int) - d) = U := by omega
        have hst := great_step rs' o x d t hx hx2 (by omega) ho pos4 exp4 g C (by rw [hUd]; exact hg) (by rw [hUd, hL, hz, hM]; exact hC.symm)
        rw [hL, hUd] at hst
        have hgs := runG_step x t d rs' hx hx2 (by omega) (by omega) g C (by rw [hUd]; exact hg) (by rw [hUd, hL, hz, hM]; exact hC.symm)
        rw [hL] at hgs
        have GS := Lib.hid (hgs.symm.trans gst4)
        obtain ⟨st1, st2, st3⟩ := hst
        have ST := Lib.hid st1
        have hCL : L ≤ C := by omega
        have HO4 := Lib.hid own4
        have HB4 := Lib.hid bel4
        have HL4 := Lib.hid len4
        obtain ⟨m4, hm4⟩ : ∃ m, rs'.length = m := ⟨_, rfl⟩
        rw [hm4] at HO4 HKK4 HL4 len4 ⊢
        have HM4 := Lib.hid hm4
        have ht320 : t ≤ 320 := by omega
        clear h own4 exp4 len4 bel4 pos4 st1 hg hL hz hm4 hgs gst4
        go_wp2_with fail
        refine (CG.out _).mono ?_; rintro e w2 ⟨rfl, rfl⟩
        go_wp2_with fail
        refine (CL.out _).mono ?_; rintro e w2 ⟨rfl, rfl⟩
        go_wp2_with fail
        refine (CB.out _).mono ?_; rintro e w2 ⟨b, rfl, rfl, hbz⟩
        have HC := Lib.hid hC
        clear hUd hx hx2 h1 ho CB CG hC
        rcases hbz with ⟨rfl, rfl⟩ | ⟨rfl, rfl⟩ | ⟨rfl, rfl⟩ | ⟨rfl, rfl⟩
        all_goals (
          go_wp2_with fail
          refine (CL.out _).mono ?_; rintro e w2 ⟨rfl, rfl⟩
          have HS5 : Hid (Seen (wr.alloc (.cells #[.int .i64 g, .int .i64 (C - L)] 118)) (wr.heap.size + 1) 2 (some ⟨wr.heap.size, 0, none⟩) 1 1 (rvs [⟨g, C - L⟩])) := Lib.hid (seen_rn wr g (C - L))
          have hB5 : Below wr.heap.size wr (wr.alloc (.cells #[.int .i64 g, .int .i64 (C - L)] 118)) := (Below.refl _ _).alloc (Nat.le_refl _) _
          have HO5 := Lib.hid (own_only HO4.out (Only.of_below hB5 Nob) (fun _ _ h => h))
          clear hB5
          have hm4s : m4 ≤ 640 := by have := HL4.out; omega
          go_wp2_with (at_builtin; (refine wpList_append_seen _ rfl (.tmp 32) (.tmp 39) _ rfl base 118 i0 _ 2 16 Tryz.underlying112 hi0 hz0 hz1 hz2 rfl (by omega) (.slice A4 m4 c4) m4 (rvs rs') rfl HO5.out _ _ 1 1 (rvs [⟨g, C - L⟩]) rfl HS5.out (rvs_one _) (by simp only [maxLen]; omega) (by omega) (by simp; omega) ?_); intro v2 w3 hown2 hg2 hat2)
          have hb2 := (HB4.out.alloc (Nat.le_trans hb hsz4) (.cells #[.int .i64 g, .int .i64 (C - L)] 118)).grown hg2 (by simp; omega) (fun k hk => HKK4.out k hk)
          have HF := Lib.hid (And.intro hown2 hb2)
          clear hown2 hg2 hat2 hb2
          go_roundw
          case rel => exact ⟨d + C.toNat, rs' ++ [⟨g, C - L⟩], by omega, by rw [show ((t - (d + C.toNat) : Nat) : Int) = U - C by omega], Lib.hid ⟨by rw [rvs_append, List.length_append, HM4.out]; exact HF.out.1, ST.out, by rw [List.length_append, HM4.out]; have := HL4.out; simp; omega, fun _ => by omega, HF.out.2, GS.out⟩⟩
          case measure => simp [intOf]; omega)
      · obtain rfl : U = 0 := by omega
        obtain rfl : d = t := by omega
        clear own4 exp4 len4 bel4 pos4 gst4
        go_wp2_with fail
        go_ret
        exact ⟨_, rs', rfl, h.out.1, h.out.2.1, by rw [HN.out]; exact h.out.2.2.1, h.out.2.2.2.2.1, by have := h.out.2.2.2.2.2; rw [Nat.sub_self] at this; exact this⟩
  · have d0 : decide (0 < x) = false := decide_eq_false h0
    rw [hn]
    have H0 := Lib.hid h0; clear h0
    go_enter Tryz.func98, Tryz.ntmps98
    go_wp2_with fail
    go_loopw [0, 2, 7, 8] (fun s i p q wr => ∃ (d : Nat) (rs' : List Rn), d ≤ t ∧ i = .int .i64 ((t - d : Nat) : Int) ∧ Hid (wr.ownsRow base 118 2 s rs'.length (rvs rs') ∧ expR rs' [] = (0, o ++ List.replicate d x) ∧ rs'.length ≤ n + d ∧ (0 < x → 0 < d) ∧ Below base w wr ∧ runG x t (t - d) (d, rs') = appR x t rs)) (fun _ i _ _ _ => (intOf i).toNat)
    case atStart => exact ⟨0, rs, Nat.zero_le _, rfl, Lib.hid ⟨by rw [HN.out]; exact HO.out, by simpa using HE.out, by rw [HN.out]; exact Nat.le_refl _, fun h => by have := H0.out; omega, Below.refl _ _, by unfold appR; rw [if_neg (by have := H0.out; omega)]; rfl⟩⟩
    case round =>
      obtain ⟨d, rs', hd, rfl, h⟩ := hrel
      obtain ⟨U, hU⟩ : ∃ U, t - d = U := ⟨_, rfl⟩
      rw [hU]
      obtain ⟨own4, exp4, len4, pos4, bel4, gst4⟩ := h.out
      obtain ⟨A4, c4, rfl, _⟩ := own_form own4
      have HKK4 := Lib.hid (fun k (hk : (Value.slice A4 rs'.length c4).ownBlock = some k) => (own_whole own4 hk).1)
      have hsz4 := bel4.size
      by_cases hlt : 0 < U
      · have dU : decide ((0 : Int) < U) = true := decide_eq_true (by omega)
        have CG := Lib.hid (fun W => great_any x U W)
        obtain ⟨g, hg⟩ : ∃ g, greatR x U = g := ⟨_, rfl⟩
        have hgn := great_nums x U hx hx2 (by omega) (by omega)
        rw [hg] at CG hgn
        have CL := Lib.hid (fun W => least_any g W)
        obtain ⟨L, hL⟩ : ∃ L, leastR g = L := ⟨_, rfl⟩
        rw [hL] at CL hgn
        obtain ⟨z, hz⟩ : ∃ z, roomR g = z := ⟨_, rfl⟩
        have CB := Lib.hid (fun W => bits_room g W z hz)
        rw [hz] at hgn
        obtain ⟨g1, g2, g3, g4, g5, g6, g7⟩ := hgn
        obtain ⟨M, hM⟩ : ∃ M, L + z - 1 = M := ⟨_, rfl⟩
        obtain ⟨C, hC⟩ : ∃ C, min (U : Int) M = C := ⟨_, rfl⟩
        have em : (if M < (U : Int) then M else (U : Int)) = C := by rw [← hC]; split <;> omega
        have hUd : ((t : Int) - d) = U := by omega
        have hst := great_step rs' o x d t hx hx2 (by omega) ho pos4 exp4 g C (by rw [hUd]; exact hg) (by rw [hUd, hL, hz, hM]; exact hC.symm)
        rw [hL, hUd] at hst
        have hgs := runG_step x t d rs' hx hx2 (by omega) (by omega) g C (by rw [hUd]; exact hg) (by rw [hUd, hL, hz, hM]; exact hC.symm)
        rw [hL] at hgs
        have GS := Lib.hid (hgs.symm.trans gst4)
        obtain ⟨st1, st2, st3⟩ := hst
        have ST := Lib.hid st1
        have hCL : L ≤ C := by omega
        have HO4 := Lib.hid own4
        have HB4 := Lib.hid bel4
        have HL4 := Lib.hid len4
        obtain ⟨m4, hm4⟩ : ∃ m, rs'.length = m := ⟨_, rfl⟩
        rw [hm4] at HO4 HKK4 HL4 len4 ⊢
        have HM4 := Lib.hid hm4
        have ht320 : t ≤ 320 := by omega
        clear h own4 exp4 len4 bel4 pos4 st1 hg hL hz hm4 hgs gst4
        go_wp2_with fail
        refine (CG.out _).mono ?_; rintro e w2 ⟨rfl, rfl⟩
        go_wp2_with fail
        refine (CL.out _).mono ?_; rintro e w2 ⟨rfl, rfl⟩
        go_wp2_with fail
        refine (CB.out _).mono ?_; rintro e w2 ⟨b, rfl, rfl, hbz⟩
        have HC := Lib.hid hC
        clear hUd hx hx2 h1 ho CB CG hC
        rcases hbz with ⟨rfl, rfl⟩ | ⟨rfl, rfl⟩ | ⟨rfl, rfl⟩ | ⟨rfl, rfl⟩
        all_goals (
          go_wp2_with fail
          refine (CL.out _).mono ?_; rintro e w2 ⟨rfl, rfl⟩
          have HS5 : Hid (Seen (wr.alloc (.cells #[.int .i64 g, .int .i64 (C - L)] 118)) (wr.heap.size + 1) 2 (some ⟨wr.heap.size, 0, none⟩) 1 1 (rvs [⟨g, C - L⟩])) := Lib.hid (seen_rn wr g (C - L))
          have hB5 : Below wr.heap.size wr (wr.alloc (.cells #[.int .i64 g, .int .i64 (C - L)] 118)) := (Below.refl _ _).alloc (Nat.le_refl _) _
          have HO5 := Lib.hid (own_only HO4.out (Only.of_below hB5 Nob) (fun _ _ h => h))
          clear hB5
          have hm4s : m4 ≤ 640 := by have := HL4.out; omega
          go_wp2_with (at_builtin; (refine wpList_append_seen _ rfl (.tmp 32) (.tmp 39) _ rfl base 118 i0 _ 2 16 Tryz.underlying112 hi0 hz0 hz1 hz2 rfl (by omega) (.slice A4 m4 c4) m4 (rvs rs') rfl HO5.out _ _ 1 1 (rvs [⟨g, C - L⟩]) rfl HS5.out (rvs_one _) (by simp only [maxLen]; omega) (by omega) (by simp; omega) ?_); intro v2 w3 hown2 hg2 hat2)
          have hb2 := (HB4.out.alloc (Nat.le_trans hb hsz4) (.cells #[.int .i64 g, .int .i64 (C - L)] 118)).grown hg2 (by simp; omega) (fun k hk => HKK4.out k hk)
          have HF := Lib.hid (And.intro hown2 hb2)
          clear hown2 hg2 hat2 hb2
          go_roundw
          case rel => exact ⟨d + C.toNat, rs' ++ [⟨g, C - L⟩], by omega, by rw [show ((t - (d + C.toNat) : Nat) : Int) = U - C by omega], Lib.hid ⟨by rw [rvs_append, List.length_append, HM4.out]; exact HF.out.1, ST.out, by rw [List.length_append, HM4.out]; have := HL4.out; simp; omega, fun _ => by omega, HF.out.2, GS.out⟩⟩
          case measure => simp [intOf]; omega)
      · obtain rfl : U = 0 := by omega
        obtain rfl : d = t := by omega
        clear own4 exp4 len4 bel4 pos4 gst4
        go_wp2_with fail
        go_ret
        exact ⟨_, rs', rfl, h.out.1, h.out.2.1, by rw [HN.out]; exact h.out.2.2.1, h.out.2.2.2.2.1, by have := h.out.2.2.2.2.2; rw [Nat.sub_self] at this; exact this⟩
end Go.Proofs.YtkjhefjjacokjaaGreat

namespace Go.Proofs.YtkjhefjjacokjaaGreat
open Go.RowKit
set_option maxRecDepth 100000
/-- What Of answers. -/
def OfRes (l : List Int) (w : World) (e : Ending) (w' : World) : Prop :=
  (beyondR l = true ∧ e = .returned (.tuple #[.slice none 0 0, .int .i64 5]) ∧ Below w.heap.size w w') ∨
  (beyondR l = false ∧ 320 < l.length ∧ e = .returned (.tuple #[.slice none 0 0, .int .i64 4]) ∧ Below w.heap.size w w') ∨
  (beyondR l = false ∧ l.length ≤ 320 ∧ ∃ (rs : List Rn) (v : Value), e = .returned (.tuple #[v, .int .i64 0]) ∧ w'.ownsRow w.heap.size 118 2 v rs.length (rvs rs) ∧ expR rs [] = (0, l) ∧ rs.length ≤ l.length ∧ Below w.heap.size w w' ∧ rs = ofL l)
theorem beyond_not {l : List Int} (h : beyondR l = false) {y : Int} (hy : y ∈ l) : 0 ≤ y ∧ y ≤ 15 := by
  have := List.any_eq_false.1 h y hy
  simp at this
  omega
set_option maxHeartbeats 2000000 in
theorem of_any (A : Option Addr) (n c B : Nat) (l : List Int) (hn : l.length = n) (h2 : n ≤ 1000) (w : World) (hs : Seen w B 1 A n c (iv l)) (hB : B ≤ w.heap.size) :
    Calls Tryz.prog 77 #[.slice A n c] w (OfRes l w) := by
  have CC := Lib.hid (containsR_any A n c B l hn h2 w hs)
  obtain ⟨q, hq⟩ : ∃ q, beyondR l = q := ⟨_, rfl⟩
  rw [hq] at CC
  have HQ := Lib.hid hq
  have HN := Lib.hid hn
  have HS := Lib.hid hs
  clear hq hs
  cases q with
  | true =>
    clear hn
    go_enter Tryz.func77, Tryz.ntmps77
    go_wp2_with fail
    refine CC.out.mono ?_; rintro e w2 ⟨rfl, rfl⟩
    go_wp2_with fail
    go_ret2
    exact .inl ⟨HQ.out, rfl, Below.refl _ _⟩
  | false =>
    by_cases hm : 320 < n
    · have dm : decide ((320 : Int) < n) = true := decide_eq_true (by omega)
      clear hn
      go_enter Tryz.func77, Tryz.ntmps77
      go_wp2_with fail
      refine CC.out.mono ?_; rintro e w2 ⟨rfl, rfl⟩
      go_wp2_with fail
      go_ret2
      exact .inr (.inl ⟨HQ.out, by rw [HN.out]; exact hm, rfl, Below.refl _ _⟩)
    · have dm : decide ((320 : Int) < n) = false := decide_eq_false (by omega)
      have HO0 : Hid ((w.alloc (.cells #[] 118)).ownsRow w.heap.size 118 2 (.slice (some ⟨w.heap.size, 0, none⟩) 0 0) ([] : List Rn).length (rvs [])) := Lib.hid (World.ownsRow_made w #[] 0 (Nat.le_refl _) (by simp [maxLen]) rfl)
      have HB0 : Hid (Below w.heap.size w (w.alloc (.cells #[] 118))) := Lib.hid ((Below.refl _ _).alloc (Nat.le_refl _) _)
      clear hn
      go_enter Tryz.func77, Tryz.ntmps77
      go_wp2_with fail
      refine CC.out.mono ?_; rintro e w2 ⟨rfl, rfl⟩
      go_wp2_with fail
      go_loopw [0, 4, 5] (fun s v x wr => ∃ (d : Nat) (A' : Option Addr) (c' : Nat) (rs : List Rn), d ≤ n ∧ s = .slice A' (n - d) c' ∧ Hid (Seen wr B 1 A' (n - d) c' (iv (l.drop d)) ∧ wr.ownsRow w.heap.size 118 2 v rs.length (rvs rs) ∧ expR rs [] = (0, l.take d) ∧ rs.length ≤ d ∧ Below w.heap.size w wr ∧ ofG l (l.length - d) d rs = ofL l)) (fun s _ _ _ => match s with | .slice _ m _ => m | _ => 0)
      case atStart => exact ⟨0, A, c, [], Nat.zero_le _, rfl, Lib.hid ⟨HS.out.below (HB0.out.mono hB), HO0.out, rfl, Nat.le_refl _, HB0.out, rfl⟩⟩
      case round =>
        obtain ⟨d, A', c', rs, hd, rfl, h⟩ := hrel
        by_cases hlt : d < n
        · obtain ⟨sn, own, exp, len, bel, gst⟩ := h.out
          have hdl : (l.drop d).length = n - d := by rw [List.length_drop, HN.out]
          obtain ⟨m, hm'⟩ : ∃ m, n - d = m := ⟨_, rfl⟩
          rw [hm'] at sn hdl ⊢
          obtain ⟨b, o, rfl, hbB, c0⟩ := sn.int hdl (k := 0) (by omega)
          obtain ⟨x, hx⟩ : ∃ x, (l.drop d)[0]'(by omega) = x := ⟨_, rfl⟩
          rw [hx, Nat.add_zero] at c0
          have hxm : x ∈ l := List.mem_of_mem_drop (by rw [← hx]; exact List.getElem_mem _)
          have hxx := beyond_not HQ.out hxm
          have hgd : (l.drop d).getD 0 0 = x := by
            have hdl0 : 0 < (l.drop d).length := by omega
            rw [← hx]; simp only [List.getD]; rw [List.getElem?_eq_getElem hdl0]; rfl
          have hbel := bel.size
          have CL := Lib.hid (like_any (some ⟨b, o, none⟩) m c' B (l.drop d) hdl (by omega) (by omega) wr sn)
          rw [hgd] at CL
          have SN := Lib.hid sn
          have hmc := sn.2.1
          have CA := Lib.hid (fun (t : Nat) (h1 : 1 ≤ t) (h3 : t ≤ m) => appended_any w.heap.size _ rs (l.take d) x t hxx.1 hxx.2 h1 (by rw [List.length_take, HN.out]; omega) (by omega) wr own exp hbel)
          have BEL := Lib.hid bel
          have LEN := Lib.hid len
          obtain ⟨As, cs, rfl, _⟩ := own_form own
          have GST := Lib.hid gst
          have HGD := Lib.hid hgd
          clear sn own exp len bel h hx hxm hgd hdl gst
          have hm0 : 0 < m := by omega
          have dm0 : decide ((0 : Int) < m) = true := decide_eq_true (by omega)
          go_wp2_with fail
          refine CL.out.mono ?_
          rintro e w3 ⟨rfl, k, rfl, hk1, hkm, hk, hlk⟩
          have HK := Lib.hid hk; have HLK := Lib.hid hlk; clear hk hlk
          go_wp2_with fail
          refine (CA.out k hk1 hkm).mono ?_
          rintro e w4 ⟨v', rs', rfl, own', exp', len', bel', eq'⟩
          have HF := Lib.hid (And.intro own' (And.intro exp' (And.intro len' bel')))
          have EQ' := Lib.hid eq'
          clear own' exp' len' bel' eq'
          have hk0 : (0 : Int) ≤ k := by omega
          have hkc : k ≤ c' := by omega
          go_wp2_with fail
          go_roundw
          case rel =>
            have hex : expR rs' [] = (0, l.take (d + k)) := by rw [HF.out.2.1, List.take_add, HK.out]
            have hle : rs'.length ≤ d + k := by have := HF.out.2.2.1; have := LEN.out; omega
            have hmk : n - (d + k) = m - k := by omega
            have hgs : ofG l (l.length - (d + k)) (d + k) rs' = ofL l := by rw [← GST.out, EQ'.out]; exact (ofG_step l d k x rs (by rw [HN.out]; exact hlt) HGD.out HLK.out).symm
            by_cases hck : c' = k
            · refine ⟨d + k, some ⟨b, o, none⟩, c' - k, rs', by omega, by rw [if_pos hck, hmk], Lib.hid ⟨?_, HF.out.1, hex, hle, BEL.out.trans HF.out.2.2.2, hgs⟩⟩
              have e0 : l.drop (d + k) = [] := List.drop_eq_nil_of_le (by rw [HN.out]; omega)
              rw [hmk, e0, show m - k = 0 by omega]
              exact ⟨rfl, Nat.zero_le _, .inr ⟨_, rfl, fun hx => absurd rfl hx⟩⟩
            · refine ⟨d + k, some ⟨b, o + k, none⟩, c' - k, rs', by omega, by rw [if_neg hck, hmk], Lib.hid ⟨?_, HF.out.1, hex, hle, BEL.out.trans HF.out.2.2.2, hgs⟩⟩
              have h3 := SN.out.cut (q := k) (n := m - k) (by omega)
              have e : ((iv (l.drop d)).drop k).take (m - k) = iv (l.drop (d + k)) := by
                unfold iv
                rw [← List.map_drop, ← List.map_take, List.drop_drop, List.take_of_length_le (by rw [List.length_drop, HN.out]; omega)]
              rw [e] at h3
              simp only [Option.map_some, Addr.add_lit] at h3
              rw [hmk]
              exact h3.below (HF.out.2.2.2.mono hB)
          case measure => simp; omega
        · obtain rfl : d = n := by omega
          have hz : d - d = 0 := by omega
          rw [hz]
          have HL : Hid (l.take d = l) := Lib.hid (List.take_of_length_le (by rw [HN.out]; exact Nat.le_refl _))
          go_wp2_with fail
          go_ret2
          exact .inr (.inr ⟨HQ.out, by rw [HN.out]; omega, rs, _, rfl, h.out.2.1, by rw [← HL.out]; rw [HL.out]; have := h.out.2.2.1; rw [HL.out] at this; exact this, by rw [HN.out]; exact h.out.2.2.2.1, h.out.2.2.2.2.1, by have := h.out.2.2.2.2.2; rw [HN.out, Nat.sub_self] at this; exact this⟩)
end Go.Proofs.YtkjhefjjacokjaaGreat
