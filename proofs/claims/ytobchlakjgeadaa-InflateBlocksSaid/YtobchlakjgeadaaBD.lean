/-
  The contract of header: some bits, at most 5000, or none. Conditions: the rows are read as told (Seen), at most a thousand lengths each.
-/
import Derived.Test.YtobchlakjgeadaaBC
namespace Go.Proofs.Ytobchlakjgeadaa
open Go.RowKit
set_option maxRecDepth 100000

/-- What header answers. -/
def HeadRes (n nb : Nat) (w : World) (e : Ending) (w' : World) : Prop :=
  ∃ (l : List Bool) (v : Value) (ok : Bool), l.length ≤ 5000 ∧ e = .returned (.tuple #[v, .bool ok]) ∧ w'.ownsRow w.heap.size 4 1 v l.length (l.map .bool) ∧ Below w.heap.size w w' ∧ (ok = true → 257 ≤ n ∧ n ≤ 286 ∧ 1 ≤ nb ∧ nb ≤ 30)

theorem header_no (A : Option Addr) (n c : Nat) (Ab : Option Addr) (nb cb : Nat) (h : n < 257 ∨ 286 < n ∨ nb < 1 ∨ 30 < nb) (w : World) : Calls Try.prog 29 #[.slice A n c, .slice Ab nb cb] w (HeadRes n nb w) := by
  have fin : Hid (HeadRes n nb w (.returned (.tuple #[.slice none 0 0, .bool false])) w) := Lib.hid ⟨[], _, false, by simp, rfl, World.ownsRow_nil _ _ _ _, Below.refl _ _, by simp⟩
  by_cases h1 : n < 257
  · have d1 : decide ((n : Int) < 257) = true := decide_eq_true (by omega)
    have d1' : decide (n < 257) = true := decide_eq_true (by omega)
    clear h
    go_enter Try.func29, Try.ntmps29
    go_wp2_with fail
    go_ret2
    exact fin.out
  · have d1 : decide ((n : Int) < 257) = false := decide_eq_false (by omega)
    have d1' : decide (n < 257) = false := decide_eq_false (by omega)
    by_cases h2 : 286 < n
    · have d2 : decide (286 < (n : Int)) = true := decide_eq_true (by omega)
      have d2' : decide (286 < n) = true := decide_eq_true (by omega)
      clear h
      go_enter Try.func29, Try.ntmps29
      go_wp2_with fail
      go_ret2
      exact fin.out
    · have d2 : decide (286 < (n : Int)) = false := decide_eq_false (by omega)
      have d2' : decide (286 < n) = false := decide_eq_false (by omega)
      by_cases h3 : nb < 1
      · have d3 : decide ((nb : Int) < 1) = true := decide_eq_true (by omega)
        have d3' : decide (nb < 1) = true := decide_eq_true (by omega)
        have d3'' : nb = 0 := by omega
        clear h
        go_enter Try.func29, Try.ntmps29
        go_wp2_with fail
        go_ret2
        exact fin.out
      · have d3 : decide ((nb : Int) < 1) = false := decide_eq_false (by omega)
        have d3' : decide (nb < 1) = false := decide_eq_false (by omega)
        have h4 : 30 < nb := by omega
        have d4 : decide (30 < (nb : Int)) = true := decide_eq_true (by omega)
        have d4' : decide (30 < nb) = true := decide_eq_true (by omega)
        have d3'' : nb ≠ 0 := by omega
        clear h
        go_enter Try.func29, Try.ntmps29
        go_wp2_with fail
        go_ret2
        exact fin.out

theorem made_ints (L : Nat) : (madeCells (Value.int .i64 0).cells (L * 1)).toList = iv (List.replicate L 0) := by
  apply List.ext_getElem
  · simp [madeCells, iv]
  · intro i h1 h2
    simp [madeCells, iv, Value.cells, Nat.mod_one]
theorem iv_set (l : List Int) (k : Nat) (v : Int) : (iv l).set k (.int .i64 v) = iv (l.set k v) := by simp [iv, List.map_set]

set_option maxHeartbeats 4000000 in
theorem header_in (A : Option Addr) (n c : Nat) (Ab : Option Addr) (nb cb B : Nat) (x y : List Int) (hx : x.length = n) (hy : y.length = nb) (h1 : 257 ≤ n) (h2 : n ≤ 286) (h3 : 1 ≤ nb) (h4 : nb ≤ 30)
    (w : World) (hsx : Seen w B 1 A n c (iv x)) (hsy : Seen w B 1 Ab nb cb (iv y)) (hB : B ≤ w.heap.size) : Calls Try.prog 29 #[.slice A n c, .slice Ab nb cb] w (HeadRes n nb w) := by
  obtain ⟨i0, hi0, hz0, hz1, hz2⟩ := info_parts int_info'
  obtain ⟨j0, hj0, hy0, hy1, hy2⟩ := info_parts bool_info
  have d1 : decide ((n : Int) < 257) = false := decide_eq_false (by omega)
  have d1' : decide (n < 257) = false := decide_eq_false (by omega)
  have d2 : decide (286 < (n : Int)) = false := decide_eq_false (by omega)
  have d2' : decide (286 < n) = false := decide_eq_false (by omega)
  have d3 : decide ((nb : Int) < 1) = false := decide_eq_false (by omega)
  have d3' : decide (nb < 1) = false := decide_eq_false (by omega)
  have d3'' : nb ≠ 0 := by omega
  have d4 : decide (30 < (nb : Int)) = false := decide_eq_false (by omega)
  have d4' : decide (30 < nb) = false := decide_eq_false (by omega)
  have hO : i0.bytes * 19 ≤ 281474976710656 := by rw [hz2]; omega
  have SX := Lib.hid hsx; have SY := Lib.hid hsy
  have FIN : Hid (∀ W, Below w.heap.size w W → HeadRes n nb w (.returned (.tuple #[.slice none 0 0, .bool false])) W) := Lib.hid (fun W hW => ⟨[], _, false, by simp, rfl, World.ownsRow_nil _ _ _ _, hW, by simp⟩)
  clear hsx hsy
  go_enter Try.func29, Try.ntmps29
  go_wp2_with (at_make; refine wpList_make_full _ rfl _ _ 30 rfl w.heap.size 3 i0 _ 1 Try.underlying30 hi0 hz0 hz1 _ _ 19 19 19 rfl rfl rfl rfl hO (by simp only [maxLen]; omega) (Nat.le_refl _) ?_; intro w1 hown1 hg1)
  rw [made_ints] at hown1
  have HO1 := Lib.hid hown1
  have HB1 := Lib.hid ((Below.refl w.heap.size w).grown hg1 (Nat.le_refl _) (fun k hk => by cases hk))
  clear hown1 hg1
  go_loopw [36] (fun i wr => ∃ (k : Nat) (zs : List Int), k ≤ 19 ∧ i = .int .i64 k ∧ zs.length = 19 ∧ (∀ z ∈ zs, 0 ≤ z ∧ z ≤ 5) ∧ wr.ownsRow w.heap.size 3 1 (.slice (some ⟨w.heap.size, 0, none⟩) 19 19) 19 (iv zs) ∧ Below w.heap.size w wr) (fun i _ => 19 - (intOf i).toNat)
  case atStart => exact ⟨0, List.replicate 19 0, by omega, rfl, by simp, fun z hz => by have := List.eq_of_mem_replicate hz; omega, HO1.out, HB1.out⟩
  case round =>
    obtain ⟨k, zs, hk, rfl, hzl, hz5, hown, hbel⟩ := hrel
    by_cases hlt : k < 19
    · have hc := own_cell hown (i := k) (iv_get? (by omega))
      have q1 := hc.1
      have q2 := hc.2.1
      have k0 : (0 : Int) ≤ k := by omega
      have HO := Lib.hid hown; have HBel := Lib.hid hbel
      have hmem : ∀ (z : Int), 0 ≤ z → z ≤ 5 → ∀ u ∈ zs.set k z, 0 ≤ u ∧ u ≤ 5 := fun z h0 h5 u hu => by
        rcases List.mem_or_eq_of_mem_set hu with h | rfl
        · exact hz5 u h
        · exact ⟨h0, h5⟩
      have HMEM := Lib.hid hmem
      have HO5 := Lib.hid (own_put hown k (.int .i64 5))
      have HB5 := Lib.hid (hbel.setCell (p := ⟨w.heap.size, k, none⟩) (Nat.le_refl _) (.int .i64 5))
      have HO4 := Lib.hid (own_put hown k (.int .i64 4))
      have HB4 := Lib.hid (hbel.setCell (p := ⟨w.heap.size, k, none⟩) (Nat.le_refl _) (.int .i64 4))
      clear hown hbel hc hmem
      by_cases h13 : k < 13
      · have e13 : decide ((k : Int) < 13) = true := decide_eq_true (by omega)
        have e13' : decide (k < 13) = true := decide_eq_true h13
        go_wp2_with fail
        go_roundw
        case rel => exact ⟨k + 1, (zs.set k 4), by omega, by go_num, by simpa using hzl, HMEM.out 4 (by omega) (by omega), by rw [← iv_set]; first | exact HO4.out | (have := own_put HO5.out k (.int .i64 4); simpa using this), by first | exact HB4.out | exact HB5.out.setCell (p := ⟨w.heap.size, k, none⟩) (Nat.le_refl _) _⟩
        case measure => simp [intOf]; omega
      · have e13 : decide ((k : Int) < 13) = false := decide_eq_false (by omega)
        have e13' : decide (k < 13) = false := decide_eq_false h13
        go_wp2_with fail
        go_roundw
        case rel => exact ⟨k + 1, (zs.set k 5), by omega, by go_num, by simpa using hzl, HMEM.out 5 (by omega) (by omega), by rw [← iv_set]; exact HO5.out, HB5.out⟩
        case measure => simp [intOf]; omega
    · obtain rfl : k = 19 := by omega
      have hsown := Seen.of_own hown
      have CWo := Lib.hid (words_all (some ⟨w.heap.size, 0, none⟩) 19 19 wr.heap.size zs hzl (by omega) wr hsown (Nat.le_refl _))
      have SO := Lib.hid hsown; have HBel := Lib.hid hbel
      clear hown hbel hsown hlt hk
      go_wp2_with fail
      refine CWo.out.mono ?_
      rintro e w2 (⟨rfl, hb2⟩ | ⟨Aw, cw, ws, hwl, hw15, rfl, hsw, hb2⟩)
      · have B2 := Lib.hid (HBel.out.trans (hb2.mono HBel.out.size)); clear hb2
        go_wp2_with fail
        go_ret2
        exact FIN.out _ B2.out
      · have B2 := Lib.hid (HBel.out.trans (hb2.mono HBel.out.size))
        have SO2 := Lib.hid ((SO.out.below hb2).more hb2.size)
        have SW := Lib.hid hsw
        clear hb2 hsw
        obtain ⟨p1, hp1⟩ : ∃ p, n - 257 = p := ⟨_, rfl⟩
        obtain ⟨p2, hp2⟩ : ∃ p, nb - 1 = p := ⟨_, rfl⟩
        have f1 : (n : Int) - 257 = p1 := by omega
        have f2 : (nb : Int) - 1 = p2 := by omega
        have g1 : IntKind.u32.wrap (p1 : Int) = p1 := by simp [IntKind.wrap, IntKind.signed, IntKind.bits]; omega
        have g2 : IntKind.u32.wrap (p2 : Int) = p2 := by simp [IntKind.wrap, IntKind.signed, IntKind.bits]; omega
        have g3 : IntKind.i64.wrap (p1 : Int) = p1 := IntWalk.i64_in _ (by omega)
        have g4 : IntKind.i64.wrap (p2 : Int) = p2 := IntWalk.i64_in _ (by omega)
        have CA1 : Hid (∀ W, Calls Try.prog 28 #[.int .u32 p1, .int .i64 5] W (GivesRow W 4 1 5 ((bitsOf p1 5).map .bool))) := Lib.hid (fun W => bits_any p1 5 (by omega) (by omega) W)
        have CA2 : Hid (∀ W, Calls Try.prog 28 #[.int .u32 p2, .int .i64 5] W (GivesRow W 4 1 5 ((bitsOf p2 5).map .bool))) := Lib.hid (fun W => bits_any p2 5 (by omega) (by omega) W)
        have CA3 : Hid (∀ W, Calls Try.prog 28 #[.int .u32 15, .int .i64 4] W (GivesRow W 4 1 4 ((bitsOf 15 4).map .bool))) := Lib.hid (fun W => bits_any 15 4 (by omega) (by omega) W)
        obtain ⟨X1, hX1⟩ : ∃ Z, bitsOf p1 5 = Z := ⟨_, rfl⟩
        obtain ⟨X2, hX2⟩ : ∃ Z, bitsOf p2 5 = Z := ⟨_, rfl⟩
        obtain ⟨X3, hX3⟩ : ∃ Z, bitsOf 15 4 = Z := ⟨_, rfl⟩
        have LX1 : Hid (X1.length = 5) := Lib.hid (by rw [← hX1]; simp)
        have LX2 : Hid (X2.length = 5) := Lib.hid (by rw [← hX2]; simp)
        have LX3 : Hid (X3.length = 4) := Lib.hid (by rw [← hX3]; simp)
        rw [hX1] at CA1
        rw [hX2] at CA2
        rw [hX3] at CA3
        clear hX1 hX2 hX3 hp1 hp2
        go_wp2_with fail
        refine (CA1.out _).mono ?_
        rintro e w4 ⟨v4, rfl, hown4, hb4⟩
        have hown4' : w4.ownsRow w2.heap.size 4 1 v4 X1.length (X1.map .bool) := by rw [LX1.out]; exact hown4
        obtain ⟨A4, c4, rfl, _⟩ := own_form hown4'
        have HO := Lib.hid hown4'; have HB := Lib.hid hb4
        have hx1le : X1.length ≤ 5 := by rw [LX1.out]; exact Nat.le_refl _
        clear hown4 hown4' hb4
        go_wp2_with fail
        refine (CA2.out _).mono ?_
        rintro e wa1 ⟨va1, rfl, howna1, hba1⟩
        obtain ⟨Aa1, ca1, rfl, _, hsa1⟩ := own_seen howna1
        have SA1 := Lib.hid hsa1
        have OA1 := Lib.hid (own_only HO.out (Only.of_below hba1 Nob) (fun _ _ h => h))
        have BA1 := Lib.hid (HB.out.trans (hba1.mono HB.out.size))
        clear howna1 hsa1 hba1 HO HB
        go_wp2_with (at_builtin; refine wpList_append_seen _ rfl (.tmp 59) (.tmp 64) _ rfl w2.heap.size 4 j0 _ 1 1 Try.underlying29 hj0 hy0 hy1 hy2 rfl (by omega) (.slice A4 X1.length c4) X1.length (X1.map .bool) rfl OA1.out _ Aa1 5 ca1 (X2.map .bool) rfl SA1.out (bools_one _) (by simp only [maxLen]; omega) (by omega) BA1.out.size ?_; intro vb1 wb1 hownb1 hgb1 hatb1; have HB1 := Lib.hid (BA1.out.grown hgb1 BA1.out.size (fun k hk => (own_whole OA1.out hk).1)); have howc1 := app_fact hownb1 LX2.out; obtain ⟨L1, hL1⟩ : ∃ L', X1 ++ X2 = L' := ⟨_, rfl⟩; have hll1 : L1.length ≤ X1.length + 5 := (by rw [← hL1, List.length_append, LX2.out]; exact Nat.le_refl _); rw [hL1] at howc1; obtain ⟨Ac1, cc1, rfl, _⟩ := own_form howc1; have HO1 := Lib.hid howc1; clear hownb1 hgb1 hatb1 howc1 hL1 OA1 BA1 SA1)
        refine (CA3.out _).mono ?_
        rintro e wa2 ⟨va2, rfl, howna2, hba2⟩
        obtain ⟨Aa2, ca2, rfl, _, hsa2⟩ := own_seen howna2
        have SA2 := Lib.hid hsa2
        have OA2 := Lib.hid (own_only HO1.out (Only.of_below hba2 Nob) (fun _ _ h => h))
        have BA2 := Lib.hid (HB1.out.trans (hba2.mono HB1.out.size))
        clear howna2 hsa2 hba2 HO1 HB1
        go_wp2_with (at_builtin; refine wpList_append_seen _ rfl (.tmp 66) (.tmp 67) _ rfl w2.heap.size 4 j0 _ 1 1 Try.underlying29 hj0 hy0 hy1 hy2 rfl (by omega) (.slice Ac1 L1.length cc1) L1.length (L1.map .bool) rfl OA2.out _ Aa2 4 ca2 (X3.map .bool) rfl SA2.out (bools_one _) (by simp only [maxLen]; omega) (by omega) BA2.out.size ?_; intro vb2 wb2 hownb2 hgb2 hatb2; have HB2 := Lib.hid (BA2.out.grown hgb2 BA2.out.size (fun k hk => (own_whole OA2.out hk).1)); have howc2 := app_fact hownb2 LX3.out; obtain ⟨L2, hL2⟩ : ∃ L', L1 ++ X3 = L' := ⟨_, rfl⟩; have hll2 : L2.length ≤ L1.length + 4 := (by rw [← hL2, List.length_append, LX3.out]; exact Nat.le_refl _); rw [hL2] at howc2; obtain ⟨Ac2, cc2, rfl, _⟩ := own_form howc2; have HO2 := Lib.hid howc2; clear hownb2 hgb2 hatb2 howc2 hL2 OA2 BA2 SA2)
        refine (refOrder_any _).mono ?_
        rintro e w6 ⟨go_, rfl, hWo, hgo, hb6⟩
        have HOs := Lib.hid (own_only HO2.out (Only.of_below hb6 Nob) (fun _ _ h => h))
        have HBs := Lib.hid (HB2.out.trans (hb6.mono HB2.out.size))
        have HWs := Lib.hid hWo
        clear hWo hgo hb6 HO2 HB2
        go_wp2_with fail
        go_loopw [10, 71] (fun ov iv_ wr => ∃ (k : Nat) (l : List Bool), k ≤ 19 ∧ iv_ = .int .i64 k ∧ l.length ≤ 14 + 3 * k ∧ wr.ownsRow w2.heap.size 4 1 ov l.length (l.map .bool) ∧ Whole wr go_ 3 (iv ordZ).toArray ∧ Below w2.heap.size w2 wr) (fun _ i _ => 19 - (intOf i).toNat)
        case atStart => exact ⟨0, L2, Nat.zero_le _, rfl, by omega, HOs.out, HWs.out, HBs.out⟩
        case round =>
          obtain ⟨k, l, hk, rfl, hl, hown, hWo, hbel⟩ := hrel
          obtain ⟨Ao, co, rfl, _⟩ := own_form hown
          by_cases hlt : k < 19
          · have hkO : k < ordZ.length := by simpa [ordZ] using hlt
            have cz := hWo.cell k
            rw [List.getElem?_toArray, iv_get? hkO] at cz
            have hord : ∀ z ∈ ordZ, 0 ≤ z ∧ z < 19 := by decide
            have hsr := hord _ (List.getElem_mem hkO)
            obtain ⟨sI, hsI⟩ : ∃ s, ordZ[k] = s := ⟨_, rfl⟩
            rw [hsI] at cz hsr
            obtain ⟨sN, rfl⟩ := Int.eq_ofNat_of_zero_le hsr.1
            have hsN : sN < 19 := by omega
            obtain ⟨b9, o9, u9, e9, hb9, hu9, c9⟩ := (SO2.out.below hbel).at hsN
            injection e9 with e9
            injection e9 with e91 e92
            subst e91 e92
            have hsz : sN < zs.length := by omega
            rw [iv_get? hsz] at hu9
            injection hu9 with hu9
            subst hu9
            have hz05 := hz5 _ (List.getElem_mem hsz)
            obtain ⟨zI, hzI⟩ : ∃ z, zs[sN] = z := ⟨_, rfl⟩
            rw [hzI] at c9 hz05
            obtain ⟨zN, rfl⟩ := Int.eq_ofNat_of_zero_le hz05.1
            have wz : IntKind.u32.wrap (zN : Int) = zN := by simp [IntKind.wrap, IntKind.signed, IntKind.bits]; omega
            have CB : Hid (∀ W, Calls Try.prog 28 #[.int .u32 zN, .int .i64 3] W (GivesRow W 4 1 3 ((bitsOf zN 3).map .bool))) := Lib.hid (fun W => bits_any zN 3 (by omega) (by omega) W)
            obtain ⟨Z3, hZ3⟩ : ∃ Z, bitsOf zN 3 = Z := ⟨_, rfl⟩
            have LZ3 : Hid (Z3.length = 3) := Lib.hid (by rw [← hZ3]; simp)
            rw [hZ3] at CB
            have s0 : (0 : Int) ≤ sN := by omega
            have k0 : (0 : Int) ≤ k := by omega
            simp only [Nat.zero_add] at c9
            have HO := Lib.hid hown; have HB := Lib.hid hbel; have HW := Lib.hid hWo
            clear hown hbel hWo hord hsI hzI hZ3
            go_wp2_with fail
            refine (CB.out _).mono ?_
            rintro e wa3 ⟨va3, rfl, howna3, hba3⟩
            obtain ⟨Aa3, ca3, rfl, _, hsa3⟩ := own_seen howna3
            have SA3 := Lib.hid hsa3
            have OA3 := Lib.hid (own_only HO.out (Only.of_below hba3 Nob) (fun _ _ h => h))
            have BA3 := Lib.hid (HB.out.trans (hba3.mono HB.out.size))
            have HWA3 := Lib.hid (HW.out.only (Only.of_below hba3 Nob) (fun h => h))
            clear howna3 hsa3 hba3 HO HB
            go_wp2_with (at_builtin; refine wpList_append_seen _ rfl (.tmp 75) (.tmp 81) _ rfl w2.heap.size 4 j0 _ 1 1 Try.underlying29 hj0 hy0 hy1 hy2 rfl (by omega) (.slice Ao l.length co) l.length (l.map .bool) rfl OA3.out _ Aa3 3 ca3 (Z3.map .bool) rfl SA3.out (bools_one _) (by simp only [maxLen]; omega) (by omega) BA3.out.size ?_; intro vb3 wb3 hownb3 hgb3 hatb3; have HB3 := Lib.hid (BA3.out.grown hgb3 BA3.out.size (fun k hk => (own_whole OA3.out hk).1)); have howc3 := app_fact hownb3 LZ3.out; obtain ⟨L3, hL3⟩ : ∃ L', l ++ Z3 = L' := ⟨_, rfl⟩; have hll3 : L3.length ≤ l.length + 3 := (by rw [← hL3, List.length_append, LZ3.out]; exact Nat.le_refl _); rw [hL3] at howc3; obtain ⟨Ac3, cc3, rfl, _⟩ := own_form howc3; have HO3 := Lib.hid howc3; have HW3 := Lib.hid (HWA3.out.grown hgb3 (fun e => own_ne_whole OA3.out HWA3.out (by decide) _ e.symm rfl)); clear hownb3 hgb3 hatb3 howc3 hL3 OA3 BA3 SA3)
            go_roundw
            case rel => exact ⟨k + 1, L3, by omega, by go_num, by omega, HO3.out, HW3.out, HB3.out⟩
            case measure => simp [intOf]; omega
          · obtain rfl : k = 19 := by omega
            have HO := Lib.hid hown; have HB := Lib.hid hbel
            have hBw := B2.out.trans (hbel.mono B2.out.size)
            have HBw := Lib.hid hBw
            have hal : Below wr.heap.size wr (wr.alloc (.cells #[] 3)) := (Below.refl _ _).alloc (Nat.le_refl _) _
            have HSX8 : Hid (Seen (wr.alloc (.cells #[] 3)) wr.heap.size 1 A n c (iv x)) := Lib.hid ((SX.out.below ((hBw.trans (hal.mono hBw.size)).mono hB)).more (Nat.le_trans hB hBw.size))
            have HOI : Hid ((wr.alloc (.cells #[] 3)).ownsRow wr.heap.size 3 1 (.slice (some ⟨wr.heap.size, 0, none⟩) 0 0) 0 []) := Lib.hid (World.ownsRow_made wr #[] 0 (Nat.le_refl _) (by simp [maxLen]) rfl)
            clear hown hbel hWo hBw hal
            go_wp2_with (first
              | (at_builtin; refine wpList_append_seen _ rfl (.tmp 84) (.tmp 85) _ rfl wr.heap.size 3 i0 _ 1 8 Try.underlying30 hi0 hz0 hz1 hz2 rfl (by omega) (.slice (some ⟨wr.heap.size, 0, none⟩) 0 0) 0 [] rfl HOI.out _ A n c (iv x) rfl HSX8.out (ints_one _) (by simp only [maxLen]; omega) (by omega) (by simp) ?_; intro v8 w8 hown8 hg8 hat8; have hown8' : w8.ownsRow wr.heap.size 3 1 v8 n (iv x) := (by simpa using hown8); have hb8 : Below wr.heap.size wr w8 := ((Below.refl _ _).alloc (Nat.le_refl _) _).grown hg8 (by simp) (by simp [Value.ownBlock]); have HO8 := Lib.hid hown8'; have HB8 := Lib.hid hb8; have HSY8 : Hid (Seen w8 B 1 Ab nb cb (iv y)) := Lib.hid (SY.out.below ((HBw.out.trans (hb8.mono HBw.out.size)).mono hB)); clear hown8 hown8' hg8 hat8 hb8)
              | (at_builtin; refine wpList_append_seen _ rfl (.tmp 86) (.tmp 87) _ rfl wr.heap.size 3 i0 _ 1 8 Try.underlying30 hi0 hz0 hz1 hz2 rfl (by omega) v8 n (iv x) rfl HO8.out _ Ab nb cb (iv y) rfl HSY8.out (ints_one _) (by simp only [maxLen]; omega) (by omega) HB8.out.size ?_; intro v9 w9 hown9 hg9 hat9; have HB9 := Lib.hid (HB8.out.grown hg9 HB8.out.size (fun k hk => (own_whole HO8.out hk).1)); have hown9' : w9.ownsRow wr.heap.size 3 1 v9 (n + nb) (iv (x ++ y)) := (by simpa [iv] using hown9); obtain ⟨A9, c9, rfl, _⟩ := own_form hown9'; have HI := Lib.hid hown9'; clear hown9 hown9' hg9 hat9))
            have HOs2 := Lib.hid (own_only HO.out (Only.of_below HB9.out Nob) (fun _ _ h => h))
            have HBs2 := Lib.hid (HB.out.trans (HB9.out.mono HB.out.size))
            clear HO HB HO8 HB8 HSX8 HOI HSY8 HB9
            obtain ⟨N, hN⟩ : ∃ N, n + nb = N := ⟨_, rfl⟩
            have eN : (n : Int) + nb = N := by omega
            have HN : Hid ((x ++ y).length = N) := Lib.hid (by simp [hx, hy, hN])
            rw [hN] at HI
            have hN316 : N ≤ 316 := by omega
            obtain ⟨zz, hzz⟩ : ∃ zz, x ++ y = zz := ⟨_, rfl⟩
            rw [hzz] at HI HN
            try rw [hN]
            try rw [eN]
            clear hzz hN eN
            have HWB := HBw
            go_wp2_with fail
            obtain ⟨bi, hbi⟩ : ∃ bi, wr.heap.size = bi := ⟨_, rfl⟩
            rw [hbi] at HI
            clear hbi
            go_loopw [10, 90] (fun ov iv_ wq => ∃ (k : Nat) (l : List Bool), k ≤ N ∧ iv_ = .int .i64 k ∧ l.length ≤ 71 + 15 * k ∧ wq.ownsRow w2.heap.size 4 1 ov l.length (l.map .bool) ∧ wq.ownsRow bi 3 1 (.slice A9 N c9) N (iv zz) ∧ Below w2.heap.size w2 wq) (fun _ i _ => N - (intOf i).toNat)
            case atStart => exact ⟨0, l, Nat.zero_le _, rfl, by omega, HOs2.out, HI.out, HBs2.out⟩
            case round =>
              obtain ⟨k, l, hk, rfl, hl, hown, hint, hbel⟩ := hrel
              obtain ⟨Ao, co, rfl, _⟩ := own_form hown
              by_cases hlt : k < N
              · obtain ⟨bz, oz, u, eA9, hbz, hu, cz⟩ := (Seen.of_own hint).at hlt
                rw [iv_get? (by rw [HN.out]; exact hlt)] at hu
                injection hu with hu
                subst hu
                obtain ⟨s, hs⟩ : ∃ s, zz[k]'(by rw [HN.out]; exact hlt) = s := ⟨_, rfl⟩
                rw [hs] at cz
                subst eA9
                have hk0 : (0 : Int) ≤ k := by omega
                have HO := Lib.hid hown; have HB := Lib.hid hbel; have HI2 := Lib.hid hint
                clear hown hbel hint hs
                by_cases hs0 : s < 0
                · go_wp2_with fail
                  go_ret2
                  exact FIN.out _ (B2.out.trans (HB.out.mono B2.out.size))
                · by_cases hs15 : 15 < s
                  · go_wp2_with fail
                    go_ret2
                    exact FIN.out _ (B2.out.trans (HB.out.mono B2.out.size))
                  · obtain ⟨q, rfl⟩ := Int.eq_ofNat_of_zero_le (show 0 ≤ s by omega)
                    have hq : q < 19 := by omega
                    obtain ⟨b9, o9, u9, e9, hb9, hu9, c9_⟩ := (SW.out.below HB.out).at hq
                    have hqw : q < ws.length := by omega
                    have hu9' : u9 = .string (tx ws[q]) := by
                      simp [wtx, hqw] at hu9
                      exact hu9.symm
                    subst hu9'
                    have h15 := hw15 _ (List.getElem_mem hqw)
                    obtain ⟨wd, hwd⟩ : ∃ wd, ws[q] = wd := ⟨_, rfl⟩
                    rw [hwd] at c9_ h15
                    subst e9
                    have dq0 : decide ((q : Int) < 0) = false := decide_eq_false (by omega)
                    have dqn : decide (15 < (q : Int)) = false := decide_eq_false (by omega)
                    have dqn' : decide (15 < q) = false := decide_eq_false (by omega)
                    have q0 : (0 : Int) ≤ q := by omega
                    obtain ⟨wl, hwl_⟩ : ∃ wl, wd.length = wl := ⟨_, rfl⟩
                    have HWL := Lib.hid hwl_
                    have CW := Lib.hid (fun W => written_any wd wl hwl_ (by omega) W)
                    have hwl15 : wl ≤ 15 := by omega
                    obtain ⟨tw, htw⟩ : ∃ tw, tx wd = tw := ⟨_, rfl⟩
                    rw [htw] at c9_ CW
                    clear hu9 hwd hwl_ htw
                    go_wp2_with fail
                    refine (CW.out _).mono ?_
                    rintro e wa4 ⟨va4, rfl, howna4, hba4⟩
                    obtain ⟨Aa4, ca4, rfl, _, hsa4⟩ := own_seen howna4
                    have SA4 := Lib.hid hsa4
                    have OA4 := Lib.hid (own_only HO.out (Only.of_below hba4 Nob) (fun _ _ h => h))
                    have BA4 := Lib.hid (HB.out.trans (hba4.mono HB.out.size))
                    have HIA4 := Lib.hid (own_only HI2.out (Only.of_below hba4 Nob) (fun _ _ h => h))
                    clear howna4 hsa4 hba4 HO HB
                    go_wp2_with (at_builtin; refine wpList_append_seen _ rfl (.tmp 100) (.tmp 105) _ rfl w2.heap.size 4 j0 _ 1 1 Try.underlying29 hj0 hy0 hy1 hy2 rfl (by omega) (.slice Ao l.length co) l.length (l.map .bool) rfl OA4.out _ Aa4 wl ca4 (wd.map .bool) rfl SA4.out (bools_one _) (by simp only [maxLen]; omega) (by omega) BA4.out.size ?_; intro vb4 wb4 hownb4 hgb4 hatb4; have HB4 := Lib.hid (BA4.out.grown hgb4 BA4.out.size (fun k hk => (own_whole OA4.out hk).1)); have howc4 := app_fact hownb4 HWL.out; obtain ⟨L4, hL4⟩ : ∃ L', l ++ wd = L' := ⟨_, rfl⟩; have hll4 : L4.length ≤ l.length + wl := (by rw [← hL4, List.length_append, HWL.out]; exact Nat.le_refl _); rw [hL4] at howc4; obtain ⟨Ac4, cc4, rfl, _⟩ := own_form howc4; have HO4 := Lib.hid howc4; have HI4 := Lib.hid (own_only HIA4.out ((Only.refl (fun i => (Value.slice Ao l.length co).ownBlock = some i) _).grown hgb4 (fun k hk _ => hk)) (fun j hj => own_ne_own HIA4.out OA4.out (by decide) j hj)); clear hownb4 hgb4 hatb4 howc4 hL4 OA4 BA4 SA4)
                    go_roundw
                    case rel => exact ⟨k + 1, L4, by omega, by go_num, by omega, HO4.out, HI4.out, HB4.out⟩
                    case measure => simp [intOf]; omega
              · obtain rfl : k = N := by omega
                have HO := Lib.hid hown; have HB := Lib.hid hbel
                clear hown hbel hint
                go_wp2_with fail
                go_ret2
                exact ⟨l, _, true, by omega, rfl, own_base HO.out B2.out.size, B2.out.trans (HB.out.mono B2.out.size), fun _ => ⟨h1, h2, h3, h4⟩⟩
end Go.Proofs.Ytobchlakjgeadaa
