/-
  The document: Sum, by long division. Conditions: at most 1000 bytes.
-/
import Derived.Test.YtdpdfnekokmgoaaD1
import Derived.Deep.LoopGhost
namespace Go.Proofs.Ytdpdfnekokmgoaa
open Go.RowKit

theorem int_info3 : Try.prog.underlying 3 = some (.int .i64) := Try.underlying3

def FlipIn (w : World) (v : Value) (N : Nat) (m : List Bool) (k : Nat) (wr : World) : Prop := wr.ownsRow w.heap.size 4 1 v N ((flipTo m k).map .bool) ∧ Below w.heap.size w wr
/-- Two rows: what is divided, and the divisor. -/
def RowsIn (w : World) (v : Value) (N : Nat) (l : List Bool) (B2 : Nat) (vd : Value) (wr : World) : Prop := wr.ownsRow w.heap.size 4 1 v N (l.map .bool) ∧ wr.ownsRow B2 4 1 vd 33 (divs.map .bool) ∧ (∀ k, v.ownBlock = some k → k < B2) ∧ Below w.heap.size w wr
def LongIn (w : World) (v : Value) (N : Nat) (m : List Bool) (k : Nat) (B2 : Nat) (vd : Value) (wr : World) : Prop := ∃ l, DivAt m l k ∧ RowsIn w v N l B2 vd wr

set_option maxHeartbeats 2000000 in
theorem refSum_any (A : Option Addr) (n c B : Nat) (bs : List Nat) (hn : bs.length = n) (h256 : ∀ x ∈ bs, x < 256) (hl : n ≤ 1000) (w : World) (hs : Seen w B 1 A n c (bv bs)) (hB : B ≤ w.heap.size) :
    Calls Try.prog 10 #[.slice A n c] w (GivesNum w .u32 (crc bs)) := by
  obtain ⟨i0, hi0, hz0, hz1, hz2⟩ := info_parts bool_info
  have HS := Lib.hid hs; clear hs
  have HN := Lib.hid hn; clear hn
  have H256 := Lib.hid h256; clear h256
  obtain ⟨m, hm⟩ : ∃ m, unpack bs ++ List.replicate 32 false = m := ⟨_, rfl⟩
  obtain ⟨N, hN⟩ : ∃ N, 8 * n + 32 = N := ⟨_, rfl⟩
  have HM := Lib.hid hm
  have HL : Hid (m.length = N) := Lib.hid (by rw [← hm, ← hN]; simp [HN.out])
  go_enter Try.func10, Try.ntmps10
  go_wp2_with fail
  refine (refOf_any A c B bs n HN.out w HS.out hB hl H256.out).mono ?_; rintro e w1 ⟨v1, rfl, ho1, hb1⟩
  have HO1 := Lib.hid ho1; clear ho1
  have HB1 := Lib.hid hb1; clear hb1
  have HN2 := Lib.hid hN
  clear hm hN
  go_wp2_with (at_builtin; refine wpList_append_noughts _ rfl (.tmp 13) _ 41 3 rfl w.heap.size 4 i0 (.bool false) Try.underlying41 Try.underlying3 hi0 hz0 hz1 hz2 rfl rfl v1 (8 * n) _ rfl HO1.out 32 rfl (by omega) (by simp only [maxLen]; omega) (by omega) HB1.out.size ?_; intro v2 w2 hown2 hg2 hat2)
  have H2 : Hid (FlipIn w v2 N m 0 w2) := Lib.hid ⟨by
      have e : List.map Value.bool (unpack bs) ++ List.replicate 32 (Value.bool false) = (flipTo m 0).map Value.bool := by
        unfold flipTo
        rw [← HM.out]
        simp
      rw [← e, ← HN2.out]
      exact hown2, HB1.out.grown hg2 HB1.out.size (fun k hk => (own_whole HO1.out hk).1)⟩
  obtain ⟨g, cap, rfl, hNc, hcap⟩ := own_pos hown2 (by omega)
  rw [HN2.out] at hNc ⊢
  have hN32 : 32 ≤ N := by have := HN2.out; omega
  have hN9 : N ≤ 9000 := by have := HN2.out; omega
  rw [HN2.out] at H2
  clear hown2 hg2 hat2 HO1 HB1
  go_loopw [4] (fun i wr => ∃ k : Nat, k ≤ 32 ∧ i = .int .i64 k ∧ FlipIn w (.slice (some ⟨g, 0, none⟩) N cap) N m k wr) (fun i _ => 32 - (intOf i).toNat)
  case atStart => exact ⟨0, Nat.zero_le _, rfl, H2.out⟩
  case round =>
    obtain ⟨k, hk, rfl, hin⟩ := hrel
    by_cases hlt : k < 32
    · have hkm : k < m.length := by rw [HL.out]; omega
      obtain ⟨f1, f2⟩ := flipTo_step m k hkm
      obtain ⟨y, hy⟩ : ∃ y, m[k] = y := ⟨_, rfl⟩
      rw [hy] at f1 f2
      obtain ⟨hc, hf, hg⟩ := own_cell hin.1 (i := k) (u := .bool y) (by rw [List.getElem?_map, f1]; rfl)
      have F2 := Lib.hid f2; clear f1 f2 hy hkm
      have HIn := Lib.hid hin; clear hin
      have hkN : k < N := by omega
      have hk0 : (0 : Int) ≤ k := by omega
      go_wp2
      go_roundw
      case rel =>
        refine ⟨k + 1, by omega, by go_num, ?_, HIn.out.2.setCell hg _⟩
        rw [← F2.out, List.map_set]
        exact own_put HIn.out.1 k _
      case measure => simp [intOf]; omega
    · have hk32 : k = 32 := by omega
      have HIn : Hid (FlipIn w (.slice (some ⟨g, 0, none⟩) N cap) N m 32 wr) := by rw [hk32] at hin; exact Lib.hid hin
      clear hin hk32
      go_wp2_with fail
      refine (divisor_any wr).mono ?_; rintro e w3 ⟨vd, rfl, hod, hbd⟩
      obtain ⟨gd, capd, rfl, _, _⟩ := own_pos hod (by omega)
      have H3 : Hid (LongIn w (.slice (some ⟨g, 0, none⟩) N cap) N m 0 wr.heap.size (.slice (some ⟨gd, 0, none⟩) 33 capd) w3) :=
        Lib.hid ⟨flipTo m 32, div_start m (by rw [HL.out]; omega), own_only HIn.out.1 (Only.of_below hbd Nob) (fun _ _ h => h), hod, fun k hk => (own_whole HIn.out.1 hk).2.choose_spec.lt, HIn.out.2.trans (hbd.mono HIn.out.2.size)⟩
      clear hod hbd HIn H2
      generalize wr.heap.size = B2 at *
      go_wp2_with fail
      go_loopw [6] (fun i wq => ∃ k : Nat, k + 32 ≤ N ∧ i = .int .i64 k ∧ LongIn w (.slice (some ⟨g, 0, none⟩) N cap) N m k B2 (.slice (some ⟨gd, 0, none⟩) 33 capd) wq) (fun i _ => N - (intOf i).toNat)
      case atStart => exact ⟨0, by omega, rfl, H3.out⟩
      case round =>
        obtain ⟨i, hi, rfl, hin⟩ := hrel
        by_cases hlt2 : i + 32 < N
        · obtain ⟨l, hD, hR⟩ := hin
          have hil : i < l.length := by rw [hD.1, HL.out]; omega
          have hlN : l.length = N := by rw [hD.1, HL.out]
          obtain ⟨y, hy⟩ : ∃ y, l[i]? = some y := ⟨_, List.getElem?_eq_getElem hil⟩
          obtain ⟨hc, hf, hg⟩ := own_cell hR.1 (i := i) (u := .bool y) (by rw [List.getElem?_map, hy]; rfl)
          have HLN := Lib.hid hlN; clear hlN hil
          have hi0 : (0 : Int) ≤ i := by omega
          have hiN : (i : Int) < N := by omega
          have HD := Lib.hid hD; clear hD
          have HR := Lib.hid hR; clear hR
          have HY := Lib.hid hy; clear hy
          cases y
          · go_wp2
            go_roundw
            case rel => exact ⟨i + 1, by omega, by go_num, l, div_no m l i HD.out (by rw [HL.out]; omega) HY.out, HR.out⟩
            case measure => simp [intOf]; omega
          · have H4 : Hid (RowsIn w (.slice (some ⟨g, 0, none⟩) N cap) N (xorTo l i divs 0) B2 (.slice (some ⟨gd, 0, none⟩) 33 capd) wr) := Lib.hid (by rw [xorTo_zero]; exact HR.out)
            go_wp2
            clear HR hc hf
            go_loopw [7, 42] (fun _ j wq => ∃ k : Nat, k ≤ 33 ∧ j = .int .i64 k ∧ RowsIn w (.slice (some ⟨g, 0, none⟩) N cap) N (xorTo l i divs k) B2 (.slice (some ⟨gd, 0, none⟩) 33 capd) wq) (fun _ j _ => 33 - (intOf j).toNat)
            case atStart => exact ⟨0, Nat.zero_le _, rfl, H4.out⟩
            case round =>
              obtain ⟨q, hq, rfl, hin⟩ := hrel
              by_cases hlt3 : q < 33
              · have hqd : q < divs.length := hlt3
                have hiq : i + q < l.length := by rw [HLN.out]; omega
                obtain ⟨x1, x2⟩ := xorTo_step l i divs q hiq hqd
                obtain ⟨y, hy⟩ : ∃ y, l[i + q] = y := ⟨_, rfl⟩
                obtain ⟨d, hd⟩ : ∃ d, divs[q] = d := ⟨_, rfl⟩
                rw [hy] at x1 x2
                rw [hd] at x2
                have hdq : divs[q]? = some d := by rw [List.getElem?_eq_getElem hqd, hd]
                obtain ⟨hc1, hf1, hg1⟩ := own_cell hin.1 (i := i + q) (u := .bool y) (by rw [List.getElem?_map, x1]; rfl)
                obtain ⟨hc2, _, hg2⟩ := own_cell hin.2.1 (i := q) (u := .bool d) (by rw [List.getElem?_map, hdq]; rfl)
                have hgd := hin.2.2.1 g rfl
                have hgd2 := (own_whole hin.2.1 (k := gd) rfl).1
                have X2 := Lib.hid x2
                clear x1 x2 hy hd hdq hqd hiq
                have HIn := Lib.hid hin; clear hin
                obtain ⟨r, hr⟩ : ∃ r, i + q = r := ⟨_, rfl⟩
                rw [hr] at hc1 hf1 X2
                have es : (i : Int) + q = r := by omega
                have wr' : IntKind.i64.wrap (r : Int) = r := IntWalk.i64_in _ (by omega)
                have hr0 : (0 : Int) ≤ r := by omega
                have hr1 : (r : Int) < N := by omega
                have hq0 : (0 : Int) ≤ q := by omega
                have hq1 : (q : Int) < 33 := by omega
                have HRR := Lib.hid hr; clear hr
                go_wp2
                go_region
                go_wp2
                go_roundw
                case rel =>
                  obtain ⟨i1, i2, i3, i4⟩ := HIn.out
                  refine ⟨q + 1, by omega, by go_num, ?_, ?_, i3, (i4.setCell hg1 _).drew⟩
                  · rw [← X2.out, List.map_set]
                    exact (own_put i1 r _).drew
                  · exact own_only i2 (((Only.refl (fun x => x = g) _).setCell (.inl rfl) _).drew) (fun x hx e => by have := (own_whole i2 hx).1; omega)
                case measure => simp [intOf]; omega
              · have hq33 : q = 33 := by omega
                have HIn : Hid (RowsIn w (.slice (some ⟨g, 0, none⟩) N cap) N (xorTo l i divs 33) B2 (.slice (some ⟨gd, 0, none⟩) 33 capd) wr) := by rw [hq33] at hin; exact Lib.hid hin
                clear hin hq33
                go_wp2
                go_roundw
                case rel => exact ⟨i + 1, by omega, by go_num, _, div_yes m l i HD.out (by rw [HL.out]; omega) HY.out, HIn.out⟩
                case measure => simp [intOf]; omega
        · obtain ⟨l, hD, hR⟩ := hin
          have hi8 : i = 8 * n := by have := HN2.out; omega
          rw [hi8] at hD
          have hlN : l.length = N := by rw [hD.1, HL.out]
          have HE : Hid (num ((l.drop (8 * n)).map (fun x => !x)) = crc bs) := by
            have h8 : DivAt (unpack bs ++ List.replicate 32 false) l (8 * bs.length) := by rw [HM.out, HN.out]; exact hD
            have h9 := div_end bs H256.out l h8
            rw [HN.out] at h9
            exact Lib.hid h9
          obtain ⟨i1, i2, i3, i4⟩ := hR
          have hS := (Seen.of_own i1).cut (q := 8 * n) (n := 32) (by have := HN2.out; omega)
          obtain ⟨rl, hrl⟩ : ∃ rl, l.drop (8 * n) = rl := ⟨_, rfl⟩
          have hrl32 : rl.length = 32 := by rw [← hrl]; have := HN2.out; simp; omega
          rw [hrl] at HE
          rw [List.map_drop.symm, hrl, List.take_of_length_le (by simp; omega)] at hS
          obtain ⟨M, hM⟩ : ∃ M, 8 * n = M := ⟨_, rfl⟩
          rw [hM] at hS
          have hNM : N = M + 32 := by have := HN2.out; omega
          have e1 : ((N : Int) - 32) = M := by omega
          have wM : IntKind.i64.wrap (M : Int) = M := IntWalk.i64_in _ (by omega)
          have hcm2 : (cap = M) = False := by simp; omega
          have h0 : (0 : Int) ≤ M := by omega
          have h1 : (M : Int) ≤ N := by omega
          have h2 : M ≤ N := by omega
          have h6 : N - M = 32 := by omega
          have hi9 : decide ((i : Int) + 32 < N) = false := by simp; omega
          have hadd : Option.map (fun x : Addr => x.add M) (some ⟨g, 0, none⟩) = some ⟨g, M, none⟩ := by simp [Addr.add_lit]
          rw [hadd] at hS
          have HSS := Lib.hid hS
          have HI4 := Lib.hid i4
          have HRL := Lib.hid hrl32
          clear hM hNM i1 i2 i3 i4 hS hrl hrl32 hD hlN hi8 hadd hlt2
          go_wp2_with fail
          rename World => wz
          have hwsz := HI4.out.size
          go_loopw [9, 69] (fun s j wq => ∃ k : Nat, k ≤ 32 ∧ j = .int .i64 k ∧ wq.ownsRow wz.heap.size 4 1 s k (((rl.take k).map (fun x => !x)).map .bool) ∧ Below wz.heap.size wz wq) (fun _ j _ => 32 - (intOf j).toNat)
          case atStart => exact ⟨0, Nat.zero_le _, rfl, World.ownsRow_nil _ _ _ _, Below.refl _ _⟩
          case round =>
            obtain ⟨k, hk, rfl, hown, hbel⟩ := hrel
            by_cases hlt4 : k < 32
            · have hkl : k < rl.length := by rw [HRL.out]; exact hlt4
              obtain ⟨b, o, u, hA, hbb, hu, hcell⟩ := (HSS.out.below hbel).at (k := k) hlt4
              injection hA with hA
              injection hA with hA1 hA2
              subst hA1 hA2
              have hu' : u = .bool rl[k] := by simpa [hkl] using hu.symm
              subst hu'
              have ht : Hid (((rl.take (k + 1)).map (fun x => !x)).map Value.bool = ((rl.take k).map (fun x => !x)).map Value.bool ++ [.bool (!rl[k])]) := Lib.hid (by rw [List.take_succ_eq_append_getElem hkl, List.map_append, List.map_append]; rfl)
              clear hu
              have hsz := hbel.size
              have HLT := Lib.hid hown.lt
              generalize rl[k] = y at *
              go_wp2_with (at_builtin; refine wpList_append_seen _ rfl (.tmp 73) (.tmp 76) _ rfl wz.heap.size 4 i0 _ 1 1 Try.underlying41 hi0 hz0 hz1 hz2 rfl (by omega) u9 k _ rfl (hown.alloc _) _ _ 1 1 _ rfl (seen_one _ _ _) (by simp [Value.oneCell']) (by simp only [maxLen]; omega) (by omega) (by simp only [World.size_alloc]; omega) ?_; intro v7 w7 hown7 hg7 hat7)
              go_roundw
              case rel =>
                refine ⟨k + 1, by omega, by go_num, ?_, (hbel.alloc hsz _).grown hg7 (by simp; omega) (fun j hj => (HLT.out j hj).1)⟩
                rw [ht.out]
                exact hown7
              case measure => simp [intOf]; omega
            · obtain ⟨A9, c9, rfl, hc9, hs9⟩ := own_seen hown
              have hk32 : k = 32 := by omega
              have HS9 : Hid (Seen wr wr.heap.size 1 A9 32 c9 ((rl.map (fun x => !x)).map .bool)) := Lib.hid (by rw [hk32, List.take_of_length_le (by rw [HRL.out]; omega)] at hs9; exact hs9)
              rw [hk32]
              have HBL := Lib.hid hbel
              clear hs9 hown hbel hk32 hlt4 hk
              have h32 : ((32 : Nat) : Int) = 32 := rfl
              go_wp2_with fail
              refine (number_any A9 32 c9 (rl.map (fun x => !x)) (by rw [List.length_map, HRL.out]) (by omega) _ _ HS9.out).mono ?_; rintro e w9 ⟨rfl, rfl⟩
              rw [HE.out]
              go_wp2_with fail
              go_ret
              exact ⟨rfl, HI4.out.trans (HBL.out.mono HI4.out.size)⟩
end Go.Proofs.Ytdpdfnekokmgoaa
