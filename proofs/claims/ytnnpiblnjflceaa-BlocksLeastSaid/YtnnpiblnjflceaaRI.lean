/-
  Contract of appended. Conditions: each theorem names its own.
-/
import Derived.Test.YtnnpiblnjflceaaRH
namespace Go.Proofs.Ytnnpiblnjflceaa
open Go.RowKit
set_option maxRecDepth 100000


theorem rvs_one (l : List Rn) : ∀ u ∈ rvs l, u.oneCell' = true := by
  intro u hu
  simp only [rvs, List.mem_flatMap, rc] at hu
  obtain ⟨p, _, hp⟩ := hu
  simp at hp
  rcases hp with rfl | rfl <;> rfl

theorem seen_rn (w : World) (a b : Int) : Seen (w.alloc (.cells #[.int .i64 a, .int .i64 b] 97)) (w.heap.size + 1) 2 (some ⟨w.heap.size, 0, none⟩) 1 1 (rvs [⟨a, b⟩]) := by
  have hW := Whole.new w 97 #[.int .i64 a, .int .i64 b]
  refine ⟨rfl, Nat.le_refl _, .inr ⟨_, rfl, fun _ => ⟨rfl, Nat.lt_succ_self _, fun j u hu => ?_⟩⟩⟩
  show _ = some u
  simp only [Nat.zero_add]
  rw [hW.cell j]
  have e : rvs [⟨a, b⟩] = [.int .i64 a, .int .i64 b] := rfl
  rw [e] at hu
  rw [← hu]
  simp

/-- What appended leaves. -/
def AppRes (base : Nat) (rs : List Rn) (o : List Int) (x : Int) (t : Nat) (w : World) (e : Ending) (w' : World) : Prop :=
  ∃ (v' : Value) (rs' : List Rn), e = .returned v' ∧ w'.ownsRow base 97 2 v' rs'.length (rvs rs') ∧ expR rs' [] = (0, o ++ List.replicate t x) ∧ rs'.length ≤ rs.length + t ∧ Below base w w' ∧ rs' = appR x t rs

theorem bits_room (s : Int) (w : World) (z : Int) (hz : roomR s = z) : Calls Try.prog 65 #[.int .i64 s] w fun e w' => ∃ b : Int, e = .returned (.int .i64 b) ∧ w = w' ∧ ((b = 0 ∧ z = 1) ∨ (b = 2 ∧ z = 4) ∨ (b = 3 ∧ z = 8) ∨ (b = 7 ∧ z = 128)) := by
  refine (bits_any s w).mono ?_
  rintro e w' ⟨rfl, rfl⟩
  refine ⟨_, rfl, rfl, ?_⟩
  rw [← hz]
  unfold bitsR roomR
  repeat (first | omega | split)

set_option maxHeartbeats 4000000 in
theorem appended_any (base : Nat) (v : Value) (rs : List Rn) (o : List Int) (x : Int) (t : Nat) (hx : 0 ≤ x) (hx2 : x ≤ 15) (h1 : 1 ≤ t) (ho : o.length + t ≤ 320) (hrs : rs.length ≤ 320) (w : World) (hown : w.ownsRow base 97 2 v rs.length (rvs rs)) (hexp : expR rs [] = (0, o)) (hb : base ≤ w.heap.size) :
    Calls Try.prog 77 #[v, .int .i64 x, .int .i64 t] w (AppRes base rs o x t w) := by
  obtain ⟨i0, hi0, hz0, hz1, hz2⟩ := info_parts run_info
  obtain ⟨A, c, rfl, _⟩ := own_form hown
  have hkk : ∀ k, (Value.slice A rs.length c).ownBlock = some k → base ≤ k := fun k hk => (own_whole hown hk).1
  have HKK := Lib.hid hkk
  have HO := Lib.hid hown
  have HE := Lib.hid hexp
  obtain ⟨n, hn⟩ : ∃ n, rs.length = n := ⟨_, rfl⟩
  rw [hn] at HO HKK hrs
  have HN := Lib.hid hn
  clear hown hexp hkk
  by_cases h0 : 0 < x
  · have d0 : decide (0 < x) = true := decide_eq_true h0
    rw [hn]
    have HS5 : Hid (Seen (w.alloc (.cells #[.int .i64 x, .int .i64 0] 97)) (w.heap.size + 1) 2 (some ⟨w.heap.size, 0, none⟩) 1 1 (rvs [⟨x, 0⟩])) := Lib.hid (seen_rn w x 0)
    have hB5 : Below w.heap.size w (w.alloc (.cells #[.int .i64 x, .int .i64 0] 97)) := (Below.refl _ _).alloc (Nat.le_refl _) _
    have HO5 := Lib.hid (own_only HO.out (Only.of_below hB5 Nob) (fun _ _ h => h))
    have HB5 := Lib.hid (hB5.mono hb)
    have HSI := Lib.hid (single_step rs o x hx hx2 (by omega) HE.out)
    clear hB5
    go_enter Try.func77, Try.ntmps77
    go_wp2_with (at_builtin; (refine wpList_append_seen _ rfl (.tmp 11) (.tmp 14) _ rfl base 97 i0 _ 2 16 Try.underlying91 hi0 hz0 hz1 hz2 rfl (by omega) (.slice A n c) n (rvs rs) rfl HO5.out _ _ 1 1 (rvs [⟨x, 0⟩]) rfl HS5.out (rvs_one _) (by simp only [maxLen]; omega) (by omega) (by simp; omega) ?_); intro v1 w1 hown1 hg1 hat1)
    have HF1 := Lib.hid (And.intro hown1 (HB5.out.grown hg1 (by simp; omega) (fun k hk => HKK.out k hk)))
    clear hown1 hg1 hat1
    go_loopw [0, 2, 7, 8] (fun s i p q wr => ∃ (d : Nat) (rs' : List Rn), d ≤ t ∧ i = .int .i64 ((t - d : Nat) : Int) ∧ Hid (wr.ownsRow base 97 2 s rs'.length (rvs rs') ∧ expR rs' [] = (0, o ++ List.replicate d x) ∧ rs'.length ≤ n + d ∧ (0 < x → 0 < d) ∧ Below base w wr ∧ runG x t (t - d) (d, rs') = appR x t rs)) (fun _ i _ _ _ => (intOf i).toNat)
    case atStart => exact ⟨1, rs ++ [⟨x, 0⟩], h1, by rw [show ((t - 1 : Nat) : Int) = t - 1 by omega], Lib.hid ⟨by rw [rvs_append, List.length_append, HN.out]; exact HF1.out.1, HSI.out, by rw [List.length_append, HN.out]; exact Nat.le_refl _, fun _ => by omega, HF1.out.2, by unfold appR; rw [if_pos h0]⟩⟩
    case round =>
      obtain ⟨d, rs', hd, rfl, h⟩ := hrel
      obtain ⟨U, hU⟩ : ∃ U, t - d = U := ⟨_, rfl⟩
      rw [hU]
      obtain ⟨own4, exp4, len4, pos4, bel4, gst4⟩ := h.out
      obtain ⟨A4, c4, rfl, _⟩ := own_form own4
      have HKK4 := Lib.hid (fun k (hk : (Value.slice A4 rs'.length c4).ownBlock = some k) => (own_whole own4 hk).1)
      have hsz4 := bel4.size
      by_cases hlt : 0 < U
      · have dU : decide ((0 : Int) < U) = true := decide_eq_true (by omega)
        have CG := Lib.hid (fun W => great_any x U W)
        obtain ⟨g, hg⟩ : ∃ g, greatR x U = g := ⟨_, rfl⟩
        have hgn := great_nums x U hx hx2 (by omega) (by omega)
        rw [hg] at CG hgn
        have CL := Lib.hid (fun W => least_any g W)
        obtain ⟨L, hL⟩ : ∃ L, leastR g = L := ⟨_, rfl⟩
        rw [hL] at CL hgn
        obtain ⟨z, hz⟩ : ∃ z, roomR g = z := ⟨_, rfl⟩
        have CB := Lib.hid (fun W => bits_room g W z hz)
        rw [hz] at hgn
        obtain ⟨g1, g2, g3, g4, g5, g6, g7⟩ := hgn
        obtain ⟨M, hM⟩ : ∃ M, L + z - 1 = M := ⟨_, rfl⟩
        obtain ⟨C, hC⟩ : ∃ C, min (U : Int) M = C := ⟨_, rfl⟩
        have em : (if M < (U : Int) then M else (U : Int)) = C := by rw [← hC]; split <;> omega
        have hUd : ((t : Int) - d) = U := by omega
        have hst := great_step rs' o x d t hx hx2 (by omega) ho pos4 exp4 g C (by rw [hUd]; exact hg) (by rw [hUd, hL, hz, hM]; exact hC.symm)
        rw [hL, hUd] at hst
        have hgs := runG_step x t d rs' hx hx2 (by omega) (by omega) g C (by rw [hUd]; exact hg) (by rw [hUd, hL, hz, hM]; exact hC.symm)
        rw [hL] at hgs
        have GS := Lib.hid (hgs.symm.trans gst4)
        obtain ⟨st1, st2, st3⟩ := hst
        have ST := Lib.hid st1
        have hCL : L ≤ C := by omega
        have HO4 := Lib.hid own4
        have HB4 := Lib.hid bel4
        have HL4 := Lib.hid len4
        obtain ⟨m4, hm4⟩ : ∃ m, rs'.length = m := ⟨_, rfl⟩
        rw [hm4] at HO4 HKK4 HL4 len4 ⊢
        have HM4 := Lib.hid hm4
        have ht320 : t ≤ 320 := by omega
        clear h own4 exp4 len4 bel4 pos4 st1 hg hL hz hm4 hgs gst4
        go_wp2_with fail
        refine (CG.out _).mono ?_; rintro e w2 ⟨rfl, rfl⟩
        go_wp2_with fail
        refine (CL.out _).mono ?_; rintro e w2 ⟨rfl, rfl⟩
        go_wp2_with fail
        refine (CB.out _).mono ?_; rintro e w2 ⟨b, rfl, rfl, hbz⟩
        have HC := Lib.hid hC
        clear hUd hx hx2 h1 ho CB CG hC
        rcases hbz with ⟨rfl, rfl⟩ | ⟨rfl, rfl⟩ | ⟨rfl, rfl⟩ | ⟨rfl, rfl⟩
        all_goals (
          go_wp2_with fail
          refine (CL.out _).mono ?_; rintro e w2 ⟨rfl, rfl⟩
          have HS5 : Hid (Seen (wr.alloc (.cells #[.int .i64 g, .int .i64 (C - L)] 97)) (wr.heap.size + 1) 2 (some ⟨wr.heap.size, 0, none⟩) 1 1 (rvs [⟨g, C - L⟩])) := Lib.hid (seen_rn wr g (C - L))
          have hB5 : Below wr.heap.size wr (wr.alloc (.cells #[.int .i64 g, .int .i64 (C - L)] 97)) := (Below.refl _ _).alloc (Nat.le_refl _) _
          have HO5 := Lib.hid (own_only HO4.out (Only.of_below hB5 Nob) (fun _ _ h => h))
          clear hB5
          have hm4s : m4 ≤ 640 := by have := HL4.out; omega
          go_wp2_with (at_builtin; (refine wpList_append_seen _ rfl (.tmp 32) (.tmp 39) _ rfl base 97 i0 _ 2 16 Try.underlying91 hi0 hz0 hz1 hz2 rfl (by omega) (.slice A4 m4 c4) m4 (rvs rs') rfl HO5.out _ _ 1 1 (rvs [⟨g, C - L⟩]) rfl HS5.out (rvs_one _) (by simp only [maxLen]; omega) (by omega) (by simp; omega) ?_); intro v2 w3 hown2 hg2 hat2)
          have hb2 := (HB4.out.alloc (Nat.le_trans hb hsz4) (.cells #[.int .i64 g, .int .i64 (C - L)] 97)).grown hg2 (by simp; omega) (fun k hk => HKK4.out k hk)
          have HF := Lib.hid (And.intro hown2 hb2)
          clear hown2 hg2 hat2 hb2
          go_roundw
          case rel => exact ⟨d + C.toNat, rs' ++ [⟨g, C - L⟩], by omega, by rw [show ((t - (d + C.toNat) : Nat) : Int) = U - C by omega], Lib.hid ⟨by rw [rvs_append, List.length_append, HM4.out]; exact HF.out.1, ST.out, by rw [List.length_append, HM4.out]; have := HL4.out; simp; omega, fun _ => by omega, HF.out.2, GS.out⟩⟩
          case measure => simp [intOf]; omega)
      · obtain rfl : U = 0 := by omega
        obtain rfl : d = t := by omega
        clear own4 exp4 len4 bel4 pos4 gst4
        go_wp2_with fail
        go_ret
        exact ⟨_, rs', rfl, h.out.1, h.out.2.1, by rw [HN.out]; exact h.out.2.2.1, h.out.2.2.2.2.1, by have := h.out.2.2.2.2.2; rw [Nat.sub_self] at this; exact this⟩
  · have d0 : decide (0 < x) = false := decide_eq_false h0
    rw [hn]
    have H0 := Lib.hid h0; clear h0
    go_enter Try.func77, Try.ntmps77
    go_wp2_with fail
    go_loopw [0, 2, 7, 8] (fun s i p q wr => ∃ (d : Nat) (rs' : List Rn), d ≤ t ∧ i = .int .i64 ((t - d : Nat) : Int) ∧ Hid (wr.ownsRow base 97 2 s rs'.length (rvs rs') ∧ expR rs' [] = (0, o ++ List.replicate d x) ∧ rs'.length ≤ n + d ∧ (0 < x → 0 < d) ∧ Below base w wr ∧ runG x t (t - d) (d, rs') = appR x t rs)) (fun _ i _ _ _ => (intOf i).toNat)
    case atStart => exact ⟨0, rs, Nat.zero_le _, rfl, Lib.hid ⟨by rw [HN.out]; exact HO.out, by simpa using HE.out, by rw [HN.out]; exact Nat.le_refl _, fun h => by have := H0.out; omega, Below.refl _ _, by unfold appR; rw [if_neg (by have := H0.out; omega)]; rfl⟩⟩
    case round =>
      obtain ⟨d, rs', hd, rfl, h⟩ := hrel
      obtain ⟨U, hU⟩ : ∃ U, t - d = U := ⟨_, rfl⟩
      rw [hU]
      obtain ⟨own4, exp4, len4, pos4, bel4, gst4⟩ := h.out
      obtain ⟨A4, c4, rfl, _⟩ := own_form own4
      have HKK4 := Lib.hid (fun k (hk : (Value.slice A4 rs'.length c4).ownBlock = some k) => (own_whole own4 hk).1)
      have hsz4 := bel4.size
      by_cases hlt : 0 < U
      · have dU : decide ((0 : Int) < U) = true := decide_eq_true (by omega)
        have CG := Lib.hid (fun W => great_any x U W)
        obtain ⟨g, hg⟩ : ∃ g, greatR x U = g := ⟨_, rfl⟩
        have hgn := great_nums x U hx hx2 (by omega) (by omega)
        rw [hg] at CG hgn
        have CL := Lib.hid (fun W => least_any g W)
        obtain ⟨L, hL⟩ : ∃ L, leastR g = L := ⟨_, rfl⟩
        rw [hL] at CL hgn
        obtain ⟨z, hz⟩ : ∃ z, roomR g = z := ⟨_, rfl⟩
        have CB := Lib.hid (fun W => bits_room g W z hz)
        rw [hz] at hgn
        obtain ⟨g1, g2, g3, g4, g5, g6, g7⟩ := hgn
        obtain ⟨M, hM⟩ : ∃ M, L + z - 1 = M := ⟨_, rfl⟩
        obtain ⟨C, hC⟩ : ∃ C, min (U : Int) M = C := ⟨_, rfl⟩
        have em : (if M < (U : Int) then M else (U : Int)) = C := by rw [← hC]; split <;> omega
        have hUd : ((t : Int) - d) = U := by omega
        have hst := great_step rs' o x d t hx hx2 (by omega) ho pos4 exp4 g C (by rw [hUd]; exact hg) (by rw [hUd, hL, hz, hM]; exact hC.symm)
        rw [hL, hUd] at hst
        have hgs := runG_step x t d rs' hx hx2 (by omega) (by omega) g C (by rw [hUd]; exact hg) (by rw [hUd, hL, hz, hM]; exact hC.symm)
        rw [hL] at hgs
        have GS := Lib.hid (hgs.symm.trans gst4)
        obtain ⟨st1, st2, st3⟩ := hst
        have ST := Lib.hid st1
        have hCL : L ≤ C := by omega
        have HO4 := Lib.hid own4
        have HB4 := Lib.hid bel4
        have HL4 := Lib.hid len4
        obtain ⟨m4, hm4⟩ : ∃ m, rs'.length = m := ⟨_, rfl⟩
        rw [hm4] at HO4 HKK4 HL4 len4 ⊢
        have HM4 := Lib.hid hm4
        have ht320 : t ≤ 320 := by omega
        clear h own4 exp4 len4 bel4 pos4 st1 hg hL hz hm4 hgs gst4
        go_wp2_with fail
        refine (CG.out _).mono ?_; rintro e w2 ⟨rfl, rfl⟩
        go_wp2_with fail
        refine (CL.out _).mono ?_; rintro e w2 ⟨rfl, rfl⟩
        go_wp2_with fail
        refine (CB.out _).mono ?_; rintro e w2 ⟨b, rfl, rfl, hbz⟩
        have HC := Lib.hid hC
        clear hUd hx hx2 h1 ho CB CG hC
        rcases hbz with ⟨rfl, rfl⟩ | ⟨rfl, rfl⟩ | ⟨rfl, rfl⟩ | ⟨rfl, rfl⟩
        all_goals (
          go_wp2_with fail
          refine (CL.out _).mono ?_; rintro e w2 ⟨rfl, rfl⟩
          have HS5 : Hid (Seen (wr.alloc (.cells #[.int .i64 g, .int .i64 (C - L)] 97)) (wr.heap.size + 1) 2 (some ⟨wr.heap.size, 0, none⟩) 1 1 (rvs [⟨g, C - L⟩])) := Lib.hid (seen_rn wr g (C - L))
          have hB5 : Below wr.heap.size wr (wr.alloc (.cells #[.int .i64 g, .int .i64 (C - L)] 97)) := (Below.refl _ _).alloc (Nat.le_refl _) _
          have HO5 := Lib.hid (own_only HO4.out (Only.of_below hB5 Nob) (fun _ _ h => h))
          clear hB5
          have hm4s : m4 ≤ 640 := by have := HL4.out; omega
          go_wp2_with (at_builtin; (refine wpList_append_seen _ rfl (.tmp 32) (.tmp 39) _ rfl base 97 i0 _ 2 16 Try.underlying91 hi0 hz0 hz1 hz2 rfl (by omega) (.slice A4 m4 c4) m4 (rvs rs') rfl HO5.out _ _ 1 1 (rvs [⟨g, C - L⟩]) rfl HS5.out (rvs_one _) (by simp only [maxLen]; omega) (by omega) (by simp; omega) ?_); intro v2 w3 hown2 hg2 hat2)
          have hb2 := (HB4.out.alloc (Nat.le_trans hb hsz4) (.cells #[.int .i64 g, .int .i64 (C - L)] 97)).grown hg2 (by simp; omega) (fun k hk => HKK4.out k hk)
          have HF := Lib.hid (And.intro hown2 hb2)
          clear hown2 hg2 hat2 hb2
          go_roundw
          case rel => exact ⟨d + C.toNat, rs' ++ [⟨g, C - L⟩], by omega, by rw [show ((t - (d + C.toNat) : Nat) : Int) = U - C by omega], Lib.hid ⟨by rw [rvs_append, List.length_append, HM4.out]; exact HF.out.1, ST.out, by rw [List.length_append, HM4.out]; have := HL4.out; simp; omega, fun _ => by omega, HF.out.2, GS.out⟩⟩
          case measure => simp [intOf]; omega)
      · obtain rfl : U = 0 := by omega
        obtain rfl : d = t := by omega
        clear own4 exp4 len4 bel4 pos4 gst4
        go_wp2_with fail
        go_ret
        exact ⟨_, rs', rfl, h.out.1, h.out.2.1, by rw [HN.out]; exact h.out.2.2.1, h.out.2.2.2.2.1, by have := h.out.2.2.2.2.2; rw [Nat.sub_self] at this; exact this⟩

end Go.Proofs.Ytnnpiblnjflceaa
