/-
  Contracts of the document: Burst. Conditions: each theorem names the range of its arguments.
-/
import Derived.Test.YtdpdfnekokmgoaaU1
import Derived.Test.YtdpdfnekokmgoaaX
namespace Go.Proofs.Ytdpdfnekokmgoaa
open Go.RowKit

theorem burstTo_off (l : List Bool) (at' : Int) (pat i : Nat) (h : pat.testBit i = false) : burstTo l at' pat (i + 1) = burstTo l at' pat i := by
  by_cases hr : at' + i < 0 ∨ (l.length : Int) ≤ at' + i
  · exact burstTo_out l at' pat i hr
  · obtain ⟨p, hp⟩ := Int.eq_ofNat_of_zero_le (show 0 ≤ at' + i by omega)
    obtain ⟨h1, h2⟩ := burstTo_in l at' pat i p hp.symm (by omega)
    rw [h2, h, Bool.bne_false]
    apply List.ext_getElem?
    intro j
    rw [List.getElem?_set]
    split
    · rename_i hj
      subst hj
      rw [if_pos (by simp; omega), h1]
    · rfl

def RefBurstIn (w : World) (B2 : Nat) (v vb : Value) (n : Nat) (bs : List Nat) (at' : Int) (pat i : Nat) (wr : World) : Prop :=
  wr.ownsRow w.heap.size 4 1 v (8 * n) ((burstTo (unpack bs) at' pat i).map .bool) ∧ wr.ownsRow B2 4 1 vb 32 ((bitsOf pat 32).map .bool) ∧ (∀ k, v.ownBlock = some k → k < B2) ∧ Below w.heap.size w wr

theorem bits_at (pat k : Nat) (hk : k < 32) : ((bitsOf pat 32).map Value.bool)[k]? = some (.bool (pat.testBit k)) := by
  rw [List.getElem?_map, bitsOf_get pat 32 k hk, bit_eq]; rfl
theorem RefBurstIn.skip {w : World} {B2 : Nat} {v vb : Value} {n : Nat} {bs : List Nat} {at' : Int} {pat i : Nat} {wr : World} (h : RefBurstIn w B2 v vb n bs at' pat i wr) (e : burstTo (unpack bs) at' pat (i + 1) = burstTo (unpack bs) at' pat i) : RefBurstIn w B2 v vb n bs at' pat (i + 1) wr := by
  obtain ⟨h1, h2, h3, h4⟩ := h
  exact ⟨by rw [e]; exact h1, h2, h3, h4⟩

set_option maxHeartbeats 1000000 in
theorem refBurst_any (A : Option Addr) (c B : Nat) (bs : List Nat) (n : Nat) (hn : bs.length = n) (h256 : ∀ x ∈ bs, x < 256) (hl : n ≤ 1000) (at' : Int) (h0 : -9223372036854775808 ≤ at') (h1 : at' ≤ 9223372036854775807) (pat : Nat) (hp : pat < 4294967296)
    (w : World) (hs : Seen w B 1 A n c (bv bs)) (hB : B ≤ w.heap.size) :
    Calls Try.prog 18 #[.slice A n c, .int .i64 at', .int .u32 pat] w (GivesRow w 5 1 n (bv (burst bs at' pat))) := by
  have HS := Lib.hid hs; clear hs
  have H256 := Lib.hid h256; clear h256
  have HN := Lib.hid hn; clear hn
  go_enter Try.func18, Try.ntmps18
  go_wp2_with fail
  refine (refOf_any A c B bs n HN.out w HS.out hB hl H256.out).mono ?_; rintro e w1 ⟨v, rfl, hown, hb1⟩
  have HO1 := Lib.hid hown
  have HB1 := Lib.hid hb1; clear hb1
  obtain ⟨A1, c1, rfl, hc1⟩ := own_form hown
  clear hown
  go_wp2_with fail
  refine (bits_any pat 32 hp (by omega) w1).mono ?_; rintro e w2 ⟨vb, rfl, hownb, hb2⟩
  have H2 : Hid (RefBurstIn w w1.heap.size (.slice A1 (8 * n) c1) vb n bs at' pat 0 w2) :=
    Lib.hid ⟨by rw [burstTo_zero]; exact own_only HO1.out (Only.of_below hb2 Nob) (fun _ _ h => h), hownb, fun k hk => (own_whole HO1.out hk).2.choose_spec.lt, HB1.out.trans (hb2.mono HB1.out.size)⟩
  obtain ⟨Ab, cb, rfl, hcb⟩ := own_form hownb
  clear hownb hb2 HO1 HB1
  go_wp2_with fail
  go_loopw [8, 9, 15] (fun _ _ i wr => ∃ k : Nat, k ≤ 32 ∧ i = .int .i64 k ∧ RefBurstIn w w1.heap.size (.slice A1 (8 * n) c1) (.slice Ab 32 cb) n bs at' pat k wr) (fun _ _ i _ => 32 - (intOf i).toNat)
  case atStart => exact ⟨0, Nat.zero_le _, rfl, H2.out⟩
  case round =>
    obtain ⟨k, hk, rfl, hin⟩ := hrel
    by_cases hlt : k < 32
    · obtain ⟨gb, capb, hvb, _, _⟩ := own_pos hin.2.1 (by omega)
      injection hvb with hv1 hv2 hv3
      subst hv1 hv3
      obtain ⟨hcb1, _, _⟩ := own_cell hin.2.1 (bits_at pat k hlt)
      have HIn := Lib.hid hin; clear hin
      have hk0 : (0 : Int) ≤ k := by omega
      cases hx : pat.testBit k with
      | false =>
        rw [hx] at hcb1
        have HX := Lib.hid (burstTo_off (unpack bs) at' pat k hx); clear hx
        go_wp2
        go_roundw
        case rel => exact ⟨k + 1, by omega, by go_num, HIn.out.skip HX.out⟩
        case measure => simp [intOf]; omega
      | true =>
        rw [hx] at hcb1
        have HX := Lib.hid hx; clear hx
        by_cases ha : -32 ≤ at'
        · by_cases hb : at' < 8 * n
          · by_cases hc : 0 ≤ at' + k
            · by_cases hd : at' + k < 8 * n
              · obtain ⟨p, es⟩ := Int.eq_ofNat_of_zero_le hc
                have hc' : (0 : Int) ≤ p := by omega
                have hd' : (p : Int) < 8 * n := by omega
                have hd2 : p < 8 * n := by omega
                obtain ⟨g1, cap1, hv1, hnc1, _⟩ := own_pos HIn.out.1 (by omega)
                injection hv1 with hv1 hv2 hv3
                subst hv1 hv3
                have hpu : p < (unpack bs).length := by have := HN.out; simp; omega
                obtain ⟨b1, b2⟩ := burstTo_in (unpack bs) at' pat k p es.symm hpu
                obtain ⟨y, hy⟩ : ∃ y, (unpack bs)[p] = y := ⟨_, rfl⟩
                rw [hy] at b1 b2
                rw [HX.out] at b2
                clear hy hpu
                obtain ⟨hc2, hf2, hg2⟩ := own_cell HIn.out.1 (i := p) (u := .bool y) (by rw [List.getElem?_map, b1]; rfl)
                clear hc hd b1
                have HB2 := Lib.hid b2; clear b2
                cases y
                all_goals
                  go_wp2
                  go_roundw
                  case rel =>
                    obtain ⟨i1, i2, i3, i4⟩ := HIn.out
                    refine ⟨k + 1, by omega, by go_num, ?_, ?_, i3, i4.setCell hg2 _⟩
                    · rw [HB2.out, List.map_set]
                      exact own_put i1 p _
                    · exact own_only i2 ((Only.refl (fun x => x = g1) _).setCell (.inl rfl) _) (fun x hx e => by have := (own_whole i2 hx).1; have := i3 g1 rfl; omega)
                  case measure => simp [intOf]; omega
              · go_wp2
                go_roundw
                case rel => exact ⟨k + 1, by omega, by go_num, HIn.out.skip (burstTo_out _ _ _ _ (by have := HN.out; simp; omega))⟩
                case measure => simp [intOf]; omega
            · go_wp2
              go_roundw
              case rel => exact ⟨k + 1, by omega, by go_num, HIn.out.skip (burstTo_out _ _ _ _ (by have := HN.out; simp; omega))⟩
              case measure => simp [intOf]; omega
          · go_wp2
            go_roundw
            case rel => exact ⟨k + 1, by omega, by go_num, HIn.out.skip (burstTo_out _ _ _ _ (by have := HN.out; simp; omega))⟩
            case measure => simp [intOf]; omega
        · go_wp2
          go_roundw
          case rel => exact ⟨k + 1, by omega, by go_num, HIn.out.skip (burstTo_out _ _ _ _ (by have := HN.out; simp; omega))⟩
          case measure => simp [intOf]; omega
    · have hk32 : k = 32 := by omega
      have HIn : Hid (RefBurstIn w w1.heap.size (.slice A1 (8 * n) c1) (.slice Ab 32 cb) n bs at' pat 32 wr) := by rw [hk32] at hin; exact Lib.hid hin
      clear hk32
      clear hin
      obtain ⟨i1, i2, i3, i4⟩ := HIn.out
      have HS5 := Lib.hid (Seen.of_own i1)
      clear i1 i2 i3
      have HI4 := Lib.hid i4; clear i4
      clear HIn
      go_wp2_with fail
      refine (refBytes_any A1 (8 * n) c1 _ (burstTo (unpack bs) at' pat 32) (by rw [burstTo_length, unpack_length, HN.out]) (by omega) wr HS5.out (Nat.le_refl _)).mono ?_; rintro e w5 ⟨v5, rfl, ho5, hb5⟩
      go_wp2_with fail
      go_ret
      rw [show (8 * n + 7) / 8 = n by omega] at ho5
      exact ⟨v5, rfl, own_base ho5 HI4.out.size, HI4.out.trans (hb5.mono HI4.out.size)⟩
end Go.Proofs.Ytdpdfnekokmgoaa
