/-
  The walk of BitioWrites: it answers true, and changes nothing that was there. Conditions: the slice of puts is read as told (PutsAt).
-/
import Derived.Test.YtgjpfmijijbjbaaX
import Derived.Deep.DeepCutAuto
import Derived.Deep.RegionWith
namespace Go.Proofs.Ytgjpfmijijbjbaa
open Go.RowKit

theorem writes_long (A : Option Addr) (n c : Nat) (hn : 200 < n) (hm : n ≤ 9223372036854775807) (w : World) : Calls Try.prog 3 #[.slice A n c] w (LawPost w) := by
  go_enter Try.func3, Try.ntmps3
  go_wp2_with (go_at_call 9; refine (fixed_yes _).mono ?_; rintro e w1 ⟨rfl, hb1⟩)
  go_ret
  exact ⟨rfl, hb1⟩

theorem own_other {w w' : World} {base : Nat} {e : TypeId} {size n : Nat} {v : Value} {xs : List Value} {S : Nat → Prop} (h : w.ownsRow base e size v n xs) (ho : Only S w w') (hS : ∀ k, S k → ∃ t cs, Whole w k t cs ∧ t ≠ e) : w'.ownsRow base e size v n xs :=
  own_only h ho fun k hk hs => by
    obtain ⟨_, cs, hw⟩ := own_whole h hk
    obtain ⟨t, cs', hw', hne⟩ := hS k hs
    exact hw'.ne hw hne rfl
theorem Whole.other {w w' : World} {g : Nat} {t : TypeId} {cs : Array Value} {S : Nat → Prop} (h : Whole w g t cs) (ho : Only S w w') (hS : ∀ k, S k → ∃ t' cs', Whole w k t' cs' ∧ t' ≠ t) : Whole w' g t cs :=
  h.only ho fun hs => by
    obtain ⟨t', cs', hw', hne⟩ := hS g hs
    exact hw'.ne h hne rfl
theorem WriterAt.other {w w' : World} {B g : Nat} {sv : Value} {l : List Bool} {S : Nat → Prop} (h : WriterAt w B g sv l) (ho : Only S w w') (hS : ∀ k, S k → ∃ t cs, Whole w k t cs ∧ t ≠ 72 ∧ t ≠ 5) : WriterAt w' B g sv l :=
  ⟨h.1, h.2.1.other ho fun k hk => by obtain ⟨t, cs, a, b, _⟩ := hS k hk; exact ⟨t, cs, a, b⟩, own_other h.2.2 ho fun k hk => by obtain ⟨t, cs, a, _, b⟩ := hS k hk; exact ⟨t, cs, a, b⟩⟩
theorem WriterAt.foot {w : World} {B g : Nat} {sv : Value} {l : List Bool} (h : WriterAt w B g sv l) : ∀ k, Foot g sv k → ∃ t cs, Whole w k t cs ∧ (t = 72 ∨ t = 5) := by
  intro k hk
  rcases hk with rfl | hk
  · exact ⟨_, _, h.2.1, .inl rfl⟩
  · obtain ⟨_, cs, hw⟩ := own_whole h.2.2 hk
    exact ⟨_, _, hw, .inr rfl⟩

theorem below_of_drew {w w' : World} (h : Below w.drew.heap.size w.drew w') : Below w.heap.size w w' := ⟨h.os, h.tape, h.output, h.size, h.block⟩

/-- How long a slice is: for a loop's measure. -/
def lenOf : Value → Nat
  | .slice _ n _ => n
  | _ => 0

/-- Filling up: so many bits of 0 have been appended. -/
def PState (w1 w3 : World) (u : Value) (l : List Bool) (s : Value) (wq : World) : Prop :=
  ∃ (j : Nat) (A : Option Addr) (c : Nat), s = .slice A (l.length + j) c ∧ j ≤ (8 - l.length % 8) % 8 ∧ wq.ownsRow w1.heap.size 4 1 s (l.length + j) ((l ++ List.replicate j false).map .bool) ∧
    Only (fun k => u.ownBlock = some k) w3 wq ∧ ∀ k, s.ownBlock = some k → u.ownBlock = some k ∨ w3.heap.size ≤ k

/-- In the midst of a round: the same, and the put that is at hand stands in a block of its own. -/
def WMid (w1 : World) (q v : Nat) (kk : Int) (al : Bool) (l : List Bool) (s : Value) (wr : World) : Prop :=
  (∃ sv, WriterAt wr w1.heap.size w1.heap.size sv l) ∧ wr.ownsRow w1.heap.size 4 1 s l.length (l.map .bool) ∧ Below w1.heap.size w1 wr ∧ Whole wr q 29 #[.int .u32 v, .int .i64 kk, .bool al]

/-- The state of BitioWrites behind some puts: a writer, and the document's bits, over a world that was. -/
def WState (w1 : World) (l : List Bool) (s : Value) (wr : World) : Prop :=
  (∃ sv, WriterAt wr w1.heap.size w1.heap.size sv l) ∧ wr.ownsRow w1.heap.size 4 1 s l.length (l.map .bool) ∧ Below w1.heap.size w1 wr

set_option maxHeartbeats 1000000 in
set_option maxRecDepth 100000 in
theorem writes_short (A : Option Addr) (n c : Nat) (hn : n ≤ 200) (V : Nat → Nat) (K : Nat → Int) (Al : Nat → Bool) (w : World) (hP : PutsAt w w.heap.size A n V K Al) : Calls Try.prog 3 #[.slice A n c] w (LawPost w) := by
  obtain ⟨i0, hi0, hz0, hz1, hz2⟩ := info_parts bool_info
  have HP := Lib.hid hP; clear hP
  have hd : decide ((200 : Int) < n) = false := by simp; omega
  go_enter Try.func3, Try.ntmps3
  go_wp2_with fail
  refine (fixed_yes _).mono ?_; rintro e w1 ⟨rfl, hb1⟩
  have HB1 := Lib.hid hb1; clear hb1
  go_wp2_with fail
  refine (newWriter_any _).mono ?_; rintro e w2 ⟨rfl, hW2, hb2⟩
  have HW2 := Lib.hid hW2; clear hW2
  have HB2 := Lib.hid hb2; clear hb2
  go_wp2_with fail
  go_loopw [4, 15] (fun s i wr => ∃ k : Nat, k ≤ n ∧ i = .int .i64 k ∧ WState w1 (wroteA V K Al k) s wr) (fun _ i _ => n - (intOf i).toNat)
  case atStart => exact ⟨0, Nat.zero_le _, rfl, ⟨_, HW2.out⟩, World.ownsRow_nil _ _ _ _, HB2.out⟩
  case round =>
    obtain ⟨k, hk, rfl, ⟨sv, hW⟩, hown, hbel⟩ := hrel
    have hlen := wroteA_length V K Al k
    by_cases hlt : k < n
    · obtain ⟨b, o, rfl, hb, c0, c1, c2, hv⟩ := (HP.out.below (HB1.out.trans (hbel.mono HB1.out.size))) k hlt
      have hb1 : b < w1.heap.size := Nat.lt_of_lt_of_le hb HB1.out.size
      have hbr : b < wr.heap.size := Nat.lt_of_lt_of_le hb1 hbel.size
      have hne : wr.heap.size ≠ b := by omega
      have hk0 : (0 : Int) ≤ k := by omega
      have hsz := hbel.size
      have HW := Lib.hid hW; clear hW
      have HO := Lib.hid hown; clear hown
      have HBel := Lib.hid hbel; clear hbel
      have hwk : Hid (wroteA V K Al (k + 1) = (if Al k then padTo (wroteA V K Al k) else wroteA V K Al k) ++ (if 0 ≤ K k ∧ K k ≤ 32 then bitsOf (V k) (K k).toNat else [])) := rfl
      go_upto_if 20 with (fail)
      go_cut [4] (fun s wx => WMid w1 wr.heap.size (V k) (K k) (Al k) (if Al k then padTo (wroteA V K Al k) else wroteA V K Al k) s wx)
      case first =>
        have HWa : Hid (WriterAt (wr.alloc (.cells #[.int .u32 (V k), .int .i64 (K k), .bool (Al k)] 29)) w1.heap.size w1.heap.size sv (wroteA V K Al k)) := HW.out.only ((Only.refl Nob _).alloc _) (fun _ _ h => h)
        have HOa := Lib.hid (HO.out.alloc (.cells #[.int .u32 (V k), .int .i64 (K k), .bool (Al k)] 29))
        have HBa := Lib.hid (HBel.out.alloc hsz (.cells #[.int .u32 (V k), .int .i64 (K k), .bool (Al k)] 29))
        have HQa := Lib.hid (Whole.new wr 29 #[.int .u32 (V k), .int .i64 (K k), .bool (Al k)])
        clear HW HO HBel
        generalize wr.alloc (.cells #[.int .u32 (V k), .int .i64 (K k), .bool (Al k)] 29) = W at *
        generalize wroteA V K Al k = l at *
        generalize Al k = al at *
        cases al
        · go_wp2_with fail
          go_meet
          case rel => exact ⟨⟨sv, HWa.out⟩, HOa.out, HBa.out, HQa.out⟩
        · go_wp2_with fail
          refine (writerAlign_any _ _ sv _ _ HWa.out (by omega)).mono ?_; rintro e w3 ⟨rfl, hW3, hO3⟩
          have HW3 := Lib.hid hW3; clear hW3
          have hS3 : ∀ i, i = w1.heap.size → ∃ t cs, Whole W i t cs ∧ t = 72 := by rintro i rfl; exact ⟨_, _, HWa.out.2.1, rfl⟩
          have HO3 := Lib.hid (own_other HOa.out hO3 (fun i hi => by obtain ⟨t, cs, a, b⟩ := hS3 i hi; exact ⟨t, cs, a, by subst b; decide⟩))
          have HQ3 := Lib.hid (HQa.out.other hO3 (fun i hi => by obtain ⟨t, cs, a, b⟩ := hS3 i hi; exact ⟨t, cs, a, by subst b; decide⟩))
          have HB3 : Hid (Below w1.heap.size w1 w3) := HBa.out.trans (hO3.below HBa.out.size (fun i hi => by omega))
          clear hS3 hO3 HWa HOa HBa HQa
          go_wp2_with fail
          go_loopw [4] (fun s wq => PState w1 w3 u4 l s wq) (fun s _ => 8 * ((l.length + 7) / 8) - lenOf s)
          case atStart =>
            obtain ⟨A0, c0, h0, _⟩ := own_form HO3.out
            exact ⟨0, A0, c0, h0, by omega, by simpa using HO3.out, Only.refl _ _, fun i hi => .inl hi⟩
          case round =>
            obtain ⟨j, A4, c4, rfl, hj, hown, hO, hB⟩ := hrel
            obtain ⟨m, hm⟩ : ∃ m, l.length + j = m := ⟨_, rfl⟩
            rw [hm] at hown hB
            rw [hm]
            have HM := Lib.hid hm
            have hl8 : l.length ≤ 8000 := by omega
            have hm2 : m ≤ 9000 := by omega
            have HH := Lib.hid hown; clear hown
            have HOO := Lib.hid hO; clear hO
            have HBB := Lib.hid hB; clear hB hm
            have hszz := HOO.out.size
            have hb3s := HB3.out.size
            by_cases hz : m % 8 = 0
            · have hzz : (((m : Int) % 8) != 0) = false := by simp; omega
              have HZ := Lib.hid hz; clear hz
              go_wp2_with fail
              go_meet
              case rel =>
                have hpe := pad_end l j (by have := HM.out; have := HZ.out; simp; omega) hj
                have hS : ∀ i, u4.ownBlock = some i → ∃ t cs, Whole w3 i t cs ∧ t = 4 := fun i hi => by obtain ⟨_, cs, h⟩ := own_whole HO3.out hi; exact ⟨4, cs, h, rfl⟩
                refine ⟨⟨sv, HW3.out.other HOO.out (fun i hi => by obtain ⟨t, cs, a, rfl⟩ := hS i hi; exact ⟨4, cs, a, by decide, by decide⟩)⟩, ?_, ?_, HQ3.out.other HOO.out (fun i hi => by obtain ⟨t, cs, a, rfl⟩ := hS i hi; exact ⟨4, cs, a, by decide⟩)⟩
                · have h5 := HH.out
                  rw [hpe] at h5
                  have hml : m = (padTo l).length := by rw [← hpe]; have := HM.out; simp; omega
                  simp only [if_true]
                  rw [hml] at h5 ⊢
                  exact h5
                · exact HB3.out.trans (HOO.out.below hb3s (fun i hi => (own_whole HO3.out hi).1))
            · have hzz : (((m : Int) % 8) != 0) = true := by simp; omega
              go_wp2_with (at_builtin; refine wpList_append_seen _ rfl (.tmp 27) (.tmp 28) _ rfl w1.heap.size 4 i0 _ 1 1 Try.underlying26 hi0 hz0 hz1 hz2 rfl (by omega) (.slice A4 m c4) m _ rfl (HH.out.alloc _) _ _ 1 1 _ rfl (seen_one _ _ _) (by simp [Value.oneCell']) (by simp only [maxLen]; omega) (by omega) (by simp only [World.size_alloc]; omega) ?_; intro v1 w4 hown1 hg1 hat1)
              go_roundw
              case rel =>
                obtain ⟨A5, c5, rfl, _⟩ := own_form hown1
                have hj2 := pad_step l j (by have := HM.out; simp; omega) hj
                refine ⟨j + 1, A5, c5, by rw [← HM.out]; rfl, hj2, ?_, ?_, ?_⟩
                · rw [← Nat.add_assoc, HM.out, List.replicate_succ', ← List.append_assoc, List.map_append]
                  exact hown1
                · refine (HOO.out.alloc _).grown hg1 (fun i hi hi2 => ?_)
                  rcases HBB.out i hi with h | h
                  · exact h
                  · omega
                · intro i hi
                  rcases hat1 with h | h
                  · exact HBB.out i (h ▸ hi)
                  · rw [h] at hi
                    simp at hi
                    exact .inr (by omega)
              case measure =>
                obtain ⟨A5, c5, rfl, _⟩ := own_form hown1
                simp only [lenOf]
                have := HM.out
                omega
      case rest =>
        obtain ⟨⟨sv2, hW⟩, hown, hbel, hQ⟩ := hcut
        have hLle : (if Al k then padTo (wroteA V K Al k) else wroteA V K Al k).length ≤ 8000 := by
          have h1 := padTo_le (wroteA V K Al k)
          split <;> omega
        generalize (if Al k then padTo (wroteA V K Al k) else wroteA V K Al k) = L at *
        have d0 : wc.cell? ⟨wr.heap.size, 0, none⟩ = some (.int .u32 (V k)) := by simpa using hQ.cell 0
        have d1 : wc.cell? ⟨wr.heap.size, 1, none⟩ = some (.int .i64 (K k)) := by simpa using hQ.cell 1
        obtain ⟨A4, c4, rfl, hc4⟩ := own_form hown
        have HW2' := Lib.hid hW; clear hW
        have HOwn := Lib.hid hown; clear hown
        have HBel2 := Lib.hid hbel; clear hbel
        have HQ := Lib.hid hQ; clear hQ
        go_wp2_with fail
        refine (put_any (V k) (K k) _ _ sv2 _ hv _ HW2'.out (by omega)).mono ?_; rintro e w5 ⟨rfl, sv5, hW5, hO5, hB5⟩
        have hft := HW2'.out.foot
        have HOw := Lib.hid (own_other HOwn.out hO5 (fun i hi => by obtain ⟨t, cs, a, b⟩ := hft i hi; exact ⟨t, cs, a, by rcases b with rfl | rfl <;> decide⟩))
        have hQ5 := HQ.out.other hO5 (fun i hi => by obtain ⟨t, cs, a, b⟩ := hft i hi; exact ⟨t, cs, a, by rcases b with rfl | rfl <;> decide⟩)
        have HB5 : Hid (Below w1.heap.size w1 w5) := HBel2.out.trans (hO5.below HBel2.out.size (fun i hi => by
          rcases hi with rfl | h
          · exact Nat.le_refl _
          · exact (own_whole HW2'.out.2.2 h).1))
        have e0 : w5.cell? ⟨wr.heap.size, 0, none⟩ = some (.int .u32 (V k)) := by simpa using hQ5.cell 0
        have e1 : w5.cell? ⟨wr.heap.size, 1, none⟩ = some (.int .i64 (K k)) := by simpa using hQ5.cell 1
        have HQ5 := Lib.hid hQ5
        clear hft hO5 hB5 hQ5 d0 d1 HQ HBel2 HOwn HW2'
        by_cases hv1 : K k < 0
        · rw [if_neg (by omega), List.append_nil] at hW5
          rw [if_neg (by omega), List.append_nil] at hwk
          have HW5 := Lib.hid hW5; clear hW5
          go_wp2_with fail
          refine (len_any _ _ _ _ _ HW5.out).mono ?_; rintro e w6 ⟨rfl, rfl⟩
          go_wp2_with fail
          go_roundw
          case rel => exact ⟨k + 1, by omega, by go_num, by rw [hwk.out]; exact ⟨⟨_, HW5.out⟩, HOw.out, HB5.out⟩⟩
          case measure => simp [intOf]; omega
        · by_cases hv2 : 32 < K k
          · rw [if_neg (by omega), List.append_nil] at hW5
            rw [if_neg (by omega), List.append_nil] at hwk
            have HW5 := Lib.hid hW5; clear hW5
            have hv3 : 0 ≤ K k := by omega
            have hv4 : decide (K k ≤ 32) = false := by simp; omega
            go_wp2_with fail
            refine (len_any _ _ _ _ _ HW5.out).mono ?_; rintro e w6 ⟨rfl, rfl⟩
            go_wp2_with fail
            go_roundw
            case rel => exact ⟨k + 1, by omega, by go_num, by rw [hwk.out]; exact ⟨⟨_, HW5.out⟩, HOw.out, HB5.out⟩⟩
            case measure => simp [intOf]; omega
          · rw [if_pos (by omega)] at hW5 hwk
            obtain ⟨j, hj⟩ := Int.eq_ofNat_of_zero_le (show 0 ≤ K k by omega)
            have hj32 : j ≤ 32 := by omega
            rw [hj] at e1 hwk hW5 HQ5
            have HJ := Lib.hid hj; clear hj hv1 hv2
            have HW5 := Lib.hid hW5; clear hW5
            have hd1 : decide ((0 : Int) ≤ j) = true := by simp
            have hd2 : decide ((j : Int) ≤ 32) = true := by simp; omega
            go_wp2_with fail
            refine (bits_any (V k) j hv hj32 _).mono ?_; rintro e w6 ⟨vb, rfl, hownb, hb6⟩
            obtain ⟨Ab, cb, rfl, hcb, hsb⟩ := own_seen hownb
            have HSB := Lib.hid hsb
            have HB6 := Lib.hid hb6
            have HW6 := Lib.hid (HW5.out.only (Only.of_below hb6 Nob) (fun _ _ h => h))
            have HO6 := Lib.hid (own_only HOw.out (Only.of_below hb6 Nob) (fun _ _ h => h))
            have hbs : w1.heap.size ≤ w6.heap.size := Nat.le_trans HB5.out.size hb6.size
            clear hb6 hsb hownb
            go_wp2_with (at_builtin; refine wpList_append_seen _ rfl (.tmp 44) (.tmp 49) _ rfl w1.heap.size 4 i0 _ 1 1 Try.underlying26 hi0 hz0 hz1 hz2 rfl (by omega) (.slice A4 L.length c4) L.length _ rfl HO6.out _ Ab j cb _ rfl HSB.out (by intro u hu; obtain ⟨_, _, rfl⟩ := List.mem_map.1 hu; rfl) (by simp only [maxLen]; omega) (by omega) hbs ?_; intro v7 w7 hown7 hg7 hat7; obtain ⟨A7, c7, rfl, hc7⟩ := own_form hown7)
            have hO7 : Only (fun i => (Value.slice A4 L.length c4).ownBlock = some i) w6 w7 := (Only.refl _ _).grown hg7 (fun i hi _ => hi)
            have hS7 : ∀ i, (Value.slice A4 L.length c4).ownBlock = some i → ∃ t cs, Whole w6 i t cs ∧ t = 4 := fun i hi => by obtain ⟨_, cs, h⟩ := own_whole HO6.out hi; exact ⟨4, cs, h, rfl⟩
            have HW7 := Lib.hid (HW6.out.other hO7 (fun i hi => by obtain ⟨t, cs, a, rfl⟩ := hS7 i hi; exact ⟨4, cs, a, by decide, by decide⟩))
            have HB7 : Hid (Below w1.heap.size w1 w7) := (HB5.out.trans (HB6.out.mono HB5.out.size)).trans (hO7.below hbs (fun i hi => (own_whole HO6.out hi).1))
            have HO7 := Lib.hid hown7
            have hlb : (L ++ bitsOf (V k) j).length = L.length + j := by simp
            clear hS7 hO7 hown7 hg7 hat7
            refine (len_any _ _ _ _ _ HW7.out).mono ?_; rintro e w8 ⟨rfl, rfl⟩
            have hlb2 : (((L ++ bitsOf (V k) (Int.toNat (j : Int))).length : Nat) : Int) = ((L.length : Int) + j) := by simp
            rw [hlb2]
            go_wp2_with fail
            go_roundw
            case rel =>
              refine ⟨k + 1, by omega, by go_num, ?_⟩
              rw [hwk.out]
              refine ⟨⟨_, HW7.out⟩, ?_, HB7.out⟩
              rw [Int.toNat_natCast, hlb, List.map_append]
              exact HO7.out
            case measure => simp [intOf]; omega
    · obtain rfl : n = k := by omega
      have HW := Lib.hid hW; clear hW
      have HO := Lib.hid hown; clear hown
      have HBel := Lib.hid hbel; clear hbel
      obtain ⟨A4, c4, rfl, hc4, hs4⟩ := own_seen HO.out
      have HS4 := Lib.hid hs4; clear hs4
      go_wp2_with fail
      have hnn : (wroteA V K Al n).length ≤ 7800 := by omega
      go_region_with (first
        | (go_at_call 15; refine (writerBytes_any _ _ sv _ _ (by first | exact HW.out | exact HW.out.only (Only.of_below hbB Nob) (fun _ _ h => h)) (by omega)).mono ?_; rintro e wA ⟨vA, rfl, hownA, hbA0⟩; obtain ⟨AA, cA, rfl, hcA, hsA⟩ := own_seen hownA; have cvA := conv_seen hsA; (first | (have hbA := below_of_drew hbA0) | (have hbA := hbB.trans (hbA0.mono hbB.size); have cvB1 := conv_seen (hsB.below hbA0))))
        | (go_at_call 16; refine (refBytes_any A4 _ c4 wr.heap.size (wroteA V K Al n) rfl (by omega) _ (by first | exact HS4.out | exact HS4.out.below hbA) (by first | exact Nat.le_refl _ | exact hbA.size)).mono ?_; rintro e wB ⟨vB, rfl, hownB, hbB0⟩; obtain ⟨AB, cB, rfl, hcB, hsB⟩ := own_seen hownB; have cvB := conv_seen hsB; (first | (have hbB := below_of_drew hbB0) | (have hbB := hbA.trans (hbB0.mono hbA.size); have cvA1 := conv_seen (hsA.below hbB0)))))
      all_goals
        go_wp2_with fail
        go_ret
        refine ⟨?_, ?_⟩
        · simp [Act.put]
        · first
          | exact HB1.out.trans ((HBel.out.trans (hbA.mono HBel.out.size)).mono HB1.out.size)
          | exact HB1.out.trans ((HBel.out.trans (hbB.mono HBel.out.size)).mono HB1.out.size)

theorem writes_law (A : Option Addr) (n c : Nat) (hm : n ≤ 9223372036854775807) (w : World) (h : ∃ (V : Nat → Nat) (K : Nat → Int) (Al : Nat → Bool), PutsAt w w.heap.size A n V K Al) : Calls Try.prog 3 #[.slice A n c] w (LawPost w) := by
  obtain ⟨V, K, Al, hP⟩ := h
  by_cases hn : n ≤ 200
  · exact writes_short A n c hn V K Al w hP
  · exact writes_long A n c (by omega) hm w
end Go.Proofs.Ytgjpfmijijbjbaa
