/-
  The walk of MatchFar: it answers true, and changes nothing that was there. Conditions: none.
-/
import Derived.Test.YthlgceeldnhhbaaY
import Derived.Test.YthlgceeldnhhbaaV
import Derived.Test.YthlgceeldnhhbaaO
import Derived.Laws.CopyOwn
namespace Go.Proofs.Ythlgceeldnhhbaa
open Go.RowKit
set_option maxRecDepth 100000

theorem own_of_whole {w : World} {base : Nat} {e : TypeId} {g n : Nat} {xs : List Value} (h : Whole w g e xs.toArray) (hl : xs.length = n) (hb : base ≤ g) (hm : n ≤ maxLen) : w.ownsRow base e 1 (.slice (some ⟨g, 0, none⟩) n n) n xs :=
  ⟨by omega, .inr ⟨g, n, xs.toArray, rfl, hb, h, Nat.le_refl _, hm, by simp; omega, by simp [← hl]⟩⟩

theorem made_byte (L : Nat) : (madeCells (Value.int .u8 0).cells (L * 1)).toList = bx (List.replicate L 0) := by
  apply List.ext_getElem
  · simp [madeCells, bx]
  · intro i h1 h2
    simp [madeCells, bx, Value.cells, Nat.mod_one]

theorem byte_size : (Try.prog.info? 5).map (·.size) = some 1 := by kernel_rfl
theorem run_copy_only {w : World} (g n c b m d : Nat) (cur : List Value) (hg : Whole w g 5 cur.toArray) (cs : List Value) (hn : cs.length = Nat.min m n)
    (hsrc : Whole w b 5 cs.toArray) (hfit : cs.length ≤ cur.length) (h1 : ∀ v ∈ cs, v.oneCell' = true) :
    ∃ w', (Builtin.copy_ #[24, 24] 3 #[.slice (some ⟨g, 0, none⟩) n c, .slice (some ⟨b, 0, none⟩) m d]).run Try.prog w = .ok (.int .i64 cs.length) w' ∧ Whole w' g 5 (splice cur 0 cs).toArray ∧ Only (fun k => k = g) w w' := by
  have hrun := run_copy_row (P := Try.prog) w 24 24 3 5 g 0 n c ⟨b, 0, none⟩ m d cur.toArray 5 cs Try.underlying24 byte_size hg hn (fun j v hv => by rw [Addr.add_lit, Nat.zero_add, hsrc.cell j]; simpa using hv) (by simpa using hfit) h1
  exact ⟨_, hrun, show _ = _ by simpa [splice] using setRow_heap w g _ _ 5 _ hg, ⟨rfl, rfl, rfl, by simp [World.setRow], fun k _ hk => setRow_other w g k _ hk⟩⟩

theorem bx_set (l : List Nat) (k v : Nat) : (bx l).set k (.int .u8 (v : Nat)) = bx (l.set k v) := by simp [bx, List.map_set]

theorem splice_far (y N : Nat) : splice (bx (patTo N N)) 0 (bx [y, 201, 202, 250]) = bx ([y, 201, 202, 250] ++ (patTo N N).drop 4) := by
  simp [splice, bx, List.map_drop]

set_option maxHeartbeats 4000000 in
theorem far_walk (m x : Nat) (hm : m < 256) (hx : x < 256) (w : World) : Calls Try.prog 6 #[.int .u8 m, .int .u8 x] w (Gives w (.bool true)) := by
  obtain ⟨i0, hi0, hz0, hz1, hz2⟩ := info_parts byte_info
  obtain ⟨r, hr⟩ : ∃ r, m % 5 = r := ⟨_, rfl⟩
  obtain ⟨s, hs⟩ : ∃ s, x % 5 = s := ⟨_, rfl⟩
  have r5 : r < 5 := by omega
  have s5 : s < 5 := by omega
  have er1 : (m : Int).tmod 5 = r := by rw [Int.tmod_eq_emod_of_nonneg (by omega)]; omega
  have er2 : (m : Int) % 5 = r := by omega
  have es1 : (x : Int).tmod 5 = s := by rw [Int.tmod_eq_emod_of_nonneg (by omega)]; omega
  have es2 : (x : Int) % 5 = s := by omega
  obtain ⟨N, hN⟩ : ∃ N, 32766 + r = N := ⟨_, rfl⟩
  have eN : (32766 : Int) + r = N := by omega
  obtain ⟨y, hy⟩ : ∃ y, 200 + s = y := ⟨_, rfl⟩
  have ey : (200 : Int) + s = y := by omega
  have wr1 : IntKind.u8.wrap (r : Int) = r := by simp [IntKind.wrap, IntKind.signed, IntKind.bits]; omega
  have ws1 : IntKind.u8.wrap (s : Int) = s := by simp [IntKind.wrap, IntKind.signed, IntKind.bits]; omega
  have wr2 : IntKind.i64.wrap (r : Int) = r := IntWalk.i64_in _ (by omega)
  have wN : IntKind.i64.wrap (N : Int) = N := IntWalk.i64_in _ (by omega)
  have wy : IntKind.u8.wrap (y : Int) = y := by simp [IntKind.wrap, IntKind.signed, IntKind.bits]; omega
  have hO : i0.bytes * N ≤ 281474976710656 := by rw [hz2]; omega
  have hNlo : 32766 ≤ N := by omega
  have hNhi : N ≤ 32770 := by omega
  have hylo : 200 ≤ y := by omega
  have hyhi : y < 205 := by omega
  clear hr hs hN hy
  go_enter Try.func6, Try.ntmps6
  go_wp2_with fail
  refine (fixed_any w).mono ?_; rintro e w1 ⟨rfl, hb1⟩; have B1 := Lib.hid hb1; clear hb1
  go_wp2_with (at_make; refine wpList_make_full _ rfl _ _ 24 rfl w1.heap.size 5 i0 _ 1 Try.underlying24 hi0 hz0 hz1 _ _ (N : Int) (N : Int) N rfl rfl rfl rfl hO (by simp only [maxLen]; omega) (Nat.le_refl _) ?_; intro w2 hown2 hg2)
  rw [made_byte, ← patTo_zero] at hown2
  have HO2 := Lib.hid hown2
  have HB2 := Lib.hid (B1.out.grown hg2 B1.out.size (fun k hk => by cases hk))
  clear hown2 hg2
  obtain ⟨g, hg⟩ : ∃ g, w1.heap.size = g := ⟨_, rfl⟩
  rw [hg] at HO2 ⊢
  have hgw : w.heap.size ≤ g := by have := B1.out.size; omega
  clear hg er1 er2 eN wr1 wr2
  go_loopw [20] (fun i wr => ∃ k : Nat, k ≤ N ∧ i = .int .i64 k ∧ wr.ownsRow g 5 1 (.slice (some ⟨g, 0, none⟩) N N) N (bx (patTo k N)) ∧ Below w.heap.size w wr) (fun i _ => N - (intOf i).toNat)
  case atStart => exact ⟨0, Nat.zero_le _, rfl, HO2.out, HB2.out⟩
  case round =>
    obtain ⟨k, hk, rfl, hown, hbel⟩ := hrel
    by_cases hlt : k < N
    · obtain ⟨t, ht⟩ : ∃ t, k % 7 = t := ⟨_, rfl⟩
      have t7 : t < 7 := by omega
      have et1 : (k : Int).tmod 7 = t := by rw [Int.tmod_eq_emod_of_nonneg (by omega)]; omega
      have et2 : (k : Int) % 7 = t := by omega
      have wt : IntKind.u8.wrap (t : Int) = t := by simp [IntKind.wrap, IntKind.signed, IntKind.bits]; omega
      have wt1 : IntKind.i64.wrap (t : Int) = t := IntWalk.i64_in _ (by omega)
      obtain ⟨u, hu⟩ : ∃ u, t + 10 = u := ⟨_, rfl⟩
      have eu : (t : Int) + 10 = u := by omega
      have wu : IntKind.u8.wrap (u : Int) = u := by simp [IntKind.wrap, IntKind.signed, IntKind.bits]; omega
      have HST : Hid ((patTo k N).set k u = patTo (k + 1) N) := Lib.hid (by rw [← patTo_set, ht, hu])
      have hc := own_cell hown (i := k) (bx_get (by rw [patTo_length]; exact hlt))
      have q1 := hc.1
      have q2 := hc.2.1
      have HO3 := Lib.hid (own_put hown k (.int .u8 (u : Nat)))
      have HB3 := Lib.hid (hbel.setCell (p := ⟨g, k, none⟩) hgw (.int .u8 (u : Nat)))
      have k0 : (0 : Int) ≤ k := by omega
      clear hown hbel hc ht hu
      go_wp2_with fail
      go_roundw
      case rel => exact ⟨k + 1, by omega, by go_num, by rw [← HST.out, ← bx_set]; exact HO3.out, HB3.out⟩
      case measure => simp [intOf]; omega
    · obtain rfl : k = N := by omega
      have hW := own_exact hown
      have hlt2 := hW.lt
      have HW := Lib.hid (hW.alloc (.cells #[.int .u8 y, .int .u8 201, .int .u8 202, .int .u8 250] 5))
      have HV : Hid (Whole (wr.alloc (.cells #[.int .u8 y, .int .u8 201, .int .u8 202, .int .u8 250] 5)) wr.heap.size 5 (bx [y, 201, 202, 250]).toArray) := Lib.hid (Whole.new _ _ _)
      have HB4 := Lib.hid (hbel.alloc hbel.size (.cells #[.int .u8 y, .int .u8 201, .int .u8 202, .int .u8 250] 5))
      have hszw := hbel.size
      obtain ⟨b, hb⟩ : ∃ b, wr.heap.size = b := ⟨_, rfl⟩
      rw [hb] at HV hlt2 hszw
      clear hown hbel hW
      obtain ⟨w4, hcp, h4⟩ := run_copy_only g k k b 4 4 (bx (patTo k k)) HW.out (bx [y, 201, 202, 250]) (by simp [Nat.min_def]; omega) HV.out (by simp [patTo_length]; omega) (by simp [Value.oneCell'])
      have H4 := Lib.hid h4
      simp only [List.length_map, List.length_cons, List.length_nil] at hcp
      clear h4
      have hW4 := H4.out.1
      rw [splice_far] at hW4
      have hV4 := HV.out.only H4.out.2 (by omega)
      have hB4 := HB4.out.trans (H4.out.2.below HB4.out.size (fun i hi => by omega))
      have HO4 := Lib.hid (own_of_whole (base := g) hW4 (by simp [patTo_length]; omega) (Nat.le_refl _) (show k ≤ maxLen by simp only [maxLen]; omega))
      have HS4 : Hid (Seen w4 (b + 1) 1 (some ⟨b, 0, none⟩) 4 4 (bx [y, 201, 202, 250])) := Lib.hid ⟨rfl, Nat.le_refl _, .inr ⟨_, rfl, fun _ => ⟨rfl, by simp, fun j v hv => by simp only [Nat.zero_add]; rw [hV4.cell j]; simpa using hv⟩⟩⟩
      have HV4 := Lib.hid hV4
      have HB5 := Lib.hid hB4
      have hgs : g ≤ w4.heap.size := by have := hW4.lt; omega
      clear hW4 hV4 hB4 H4 HW HV HB4
      go_wp2_with (at_builtin; refine wpList_append_seen _ rfl (.tmp 38) (.tmp 39) _ rfl g 5 i0 _ 1 1 Try.underlying24 hi0 hz0 hz1 hz2 rfl (by omega) (.slice (some ⟨g, 0, none⟩) k k) k (bx ([y, 201, 202, 250] ++ (patTo k k).drop 4)) rfl HO4.out (b + 1) (some ⟨b, 0, none⟩) 4 4 (bx [y, 201, 202, 250]) rfl HS4.out (by simp [Value.oneCell']) (by simp only [maxLen]; omega) (by omega) hgs ?_; intro v5 w5 hown5 hg5 hat5)
      have hown6 : w5.ownsRow g 5 1 v5 (k + 4) (bx (farB y k)) := by
        have e : bx (farB y k) = bx ([y, 201, 202, 250] ++ (patTo k k).drop 4) ++ bx [y, 201, 202, 250] := by simp [farB, bx]
        rw [e]; exact hown5
      obtain ⟨A5, c5, rfl, _, hs5⟩ := own_seen hown6
      have CFI := find_any A5 (k + 4) c5 w5.heap.size (farB y k) (farB_length (by omega)) (by omega) k w5 hs5 (Nat.le_refl _)
      rw [far_find hylo (by omega)] at CFI
      have hV5 := HV4.out.grown hg5 (by simp [Value.ownBlock]; omega)
      have hB6 := HB5.out.grown hg5 HB5.out.size (fun j hj => by simp [Value.ownBlock] at hj; omega)
      have HV5 := Lib.hid hV5; have HB6 := Lib.hid hB6
      clear hown5 hown6 hs5 hg5 hat5 hV5 hB6 HO4 HS4 HV4 HB5 hcp hb
      by_cases hk8 : k ≤ 32768
      · rw [if_pos hk8] at CFI
        have HCF := Lib.hid CFI; clear CFI
        have dk : decide ((k : Int) ≤ 32768) = true := decide_eq_true (by omega)
        have dk' : decide (k ≤ 32768) = true := decide_eq_true hk8
        refine HCF.out.mono ?_
        rintro e w6 ⟨rfl, hb6⟩
        simp only [tokV]
        have HB7 := Lib.hid ((HB6.out.trans (hb6.mono HB6.out.size)).alloc (Nat.le_trans HB6.out.size hb6.size) (.cells #[.int .u8 0, .int .i64 4, .int .i64 k] 29))
        clear hb6
        go_wp2_with fail
        go_ret
        exact ⟨by simp, HB7.out⟩
      · rw [if_neg hk8] at CFI
        have HCF := Lib.hid CFI; clear CFI
        have dk : decide ((k : Int) ≤ 32768) = false := decide_eq_false (by omega)
        have dk' : decide (k ≤ 32768) = false := decide_eq_false hk8
        refine HCF.out.mono ?_
        rintro e w6 ⟨rfl, hb6⟩
        simp only [tokV]
        have HB7 := Lib.hid ((HB6.out.trans (hb6.mono HB6.out.size)).alloc (Nat.le_trans HB6.out.size hb6.size) (.cells #[.int .u8 y, .int .i64 0, .int .i64 0] 29))
        have hV6 := HV5.out.only (Only.of_below hb6 Nob) (fun h => h)
        have hbl := hV6.lt
        have hbne : w6.heap.size ≠ b := by omega
        have x0 : w6.cell? ⟨b, 0, none⟩ = some (.int .u8 y) := hV6.cell 0
        have hT := Whole.new w6 29 #[.int .u8 y, .int .i64 0, .int .i64 0]
        have y0 : (w6.alloc (.cells #[.int .u8 y, .int .i64 0, .int .i64 0] 29)).cell? ⟨w6.heap.size, 0, none⟩ = some (.int .u8 y) := hT.cell 0
        have y1 : (w6.alloc (.cells #[.int .u8 y, .int .i64 0, .int .i64 0] 29)).cell? ⟨w6.heap.size, 1, none⟩ = some (.int .i64 0) := hT.cell 1
        have x1 : (w6.alloc (.cells #[.int .u8 y, .int .i64 0, .int .i64 0] 29)).cell? ⟨b, 0, none⟩ = some (.int .u8 y) := (hV6.alloc _).cell 0
        obtain ⟨g9, hg9⟩ : ∃ g9, w6.heap.size = g9 := ⟨_, rfl⟩
        rw [hg9] at y0 y1
        clear hb6 hV6 hT hbne hbl x0
        go_wp2_with fail
        generalize w6.alloc (.cells #[.int .u8 y, .int .i64 0, .int .i64 0] 29) = W at *
        go_quiet (fail)
        go_wp2_with fail
        go_ret
        exact ⟨by simp, below_drewN HB7.out nq⟩

theorem far_law (a : Int) (ha : (Lit.int .u8 a).wf = true) (b : Int) (hb : (Lit.int .u8 b).wf = true) (w : World) :
    Calls Try.prog 6 #[.int .u8 a, .int .u8 b] w fun e w' => e = .returned (.bool true) ∧ Below w.heap.size w w' := by
  have h1 := byte_of_wf ha
  have h2 := byte_of_wf hb
  obtain ⟨m, rfl⟩ := Int.eq_ofNat_of_zero_le h1.1
  obtain ⟨x, rfl⟩ := Int.eq_ofNat_of_zero_le h2.1
  exact far_walk m x (by omega) (by omega) w
end Go.Proofs.Ythlgceeldnhhbaa
