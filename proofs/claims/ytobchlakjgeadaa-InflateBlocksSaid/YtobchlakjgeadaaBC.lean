/-
  The contract of signs: some bits, at most forty-eight a sign. Conditions: the rows are read as told (Seen), at most forty signs, eighty numbers, a thousand lengths, some of them for distances.
-/
import Derived.Test.YtobchlakjgeadaaBB
import Derived.Test.YtobchlakjgeadaaTF
import Derived.BigQuiet
namespace Go.Proofs.Ytobchlakjgeadaa
open Go.RowKit
set_option maxRecDepth 100000

/-- Values of numbers of 32 bits. -/
abbrev uv (l : List Nat) : List Value := l.map fun x : Nat => Value.int .u32 x

/-- A part's value: kind, last, and what its slices are. -/
def partV (kd : Nat) (la : Bool) (rw_ sg mo : Value) (sp : Int) (le fa : Value) : Array Value := #[.int .u8 kd, .bool la, rw_, sg, mo, .int .i64 sp, le, fa]

theorem int_info' : (Try.prog.info? 3).map (fun i => (i.zero, i.size, i.bytes)) = some (some (.int .i64 0), 1, 8) := by kernel_rfl

theorem ints_one (l : List Int) : ∀ u ∈ iv l, u.oneCell' = true := by
  intro u hu
  obtain ⟨_, _, rfl⟩ := List.mem_map.1 hu
  rfl

theorem app_fact {w : World} {b m : Nat} {v : Value} {L ys : List Bool} (h : w.ownsRow b 4 1 v (L.length + m) (L.map Value.bool ++ ys.map Value.bool)) (hm : ys.length = m) : w.ownsRow b 4 1 v (L ++ ys).length ((L ++ ys).map .bool) := by
  rw [List.length_append, List.map_append, hm]; exact h
theorem rlenB (s : Nat) (w : World) : Calls Try.prog 13 #[.int .i64 s] w fun e w' => e = .returned (optV (lenOf s)) ∧ w = w' := by
  have := (refLength_any s w).mono (fun _ _ h => (⟨h.1, h.2.symm⟩ : _ ∧ w = _))
  rwa [if_neg (by omega)] at this
theorem rdstB (s : Nat) (w : World) : Calls Try.prog 15 #[.int .i64 s] w fun e w' => (∃ (x : Int) (n : Nat) (b : Bool), n ≤ 13 ∧ e = .returned (.tuple #[.int .i64 x, .int .i64 n, .bool b])) ∧ w = w' := by
  have := (refDistance_any s w).mono (fun _ _ h => (⟨h.1, h.2.symm⟩ : _ ∧ w = _))
  rw [if_neg (by omega)] at this
  refine this.mono ?_
  rintro e w' ⟨rfl, rfl⟩
  refine ⟨?_, rfl⟩
  rw [Int.toNat_natCast]
  cases h : dstOf s with
  | none => exact ⟨0, 0, false, by omega, rfl⟩
  | some p =>
    obtain ⟨x, n⟩ := p
    exact ⟨x, n, true, (dstOf_bits s x n h).1, rfl⟩

set_option maxHeartbeats 4000000 in
theorem signs_any (kd : Nat) (la : Bool) (rw_ sg mo : Value) (sp : Int) (le fa : Value) (A : Option Addr) (n c : Nat) (Ab : Option Addr) (nb cb : Nat) (B : Nat) (x y : List Int) (hx : x.length = n) (hy : y.length = nb) (hn : n ≤ 1000) (hnb : nb ≤ 1000) (hnb0 : 0 < nb)
    (As : Option Addr) (ns cs : Nat) (ss : List Int) (hss : ss.length = ns) (hns : ns ≤ 40) (Am : Option Addr) (nm cm : Nat) (ms : List Nat) (hms : ms.length = nm) (hnm : nm ≤ 80) (h32 : ∀ u ∈ ms, u < 4294967296)
    (w : World) (h1 : Seen w B 1 A n c (iv x)) (h2 : Seen w B 1 Ab nb cb (iv y)) (h3 : Seen w B 1 As ns cs (iv ss)) (h4 : Seen w B 1 Am nm cm (uv ms)) (hB : B ≤ w.heap.size) (esg : sg = .slice As ns cs) (emo : mo = .slice Am nm cm) :
    Calls Try.prog 30 #[.agg (partV kd la rw_ sg mo sp le fa), .slice A n c, .slice Ab nb cb] w (GivesBools 2000 w) := by
  obtain ⟨i0, hi0, hz0, hz1, hz2⟩ := info_parts int_info'
  obtain ⟨j0, hj0, hy0, hy1, hy2⟩ := info_parts bool_info
  subst esg emo
  unfold partV
  have hBa : Below w.heap.size w (w.alloc (.cells #[.int .u8 kd, .bool la, rw_, .slice As ns cs, .slice Am nm cm, .int .i64 sp, le, fa] 33)) := (Below.refl _ _).alloc (Nat.le_refl _) _
  have C1 := Lib.hid (fun W (hb : Below w.heap.size w W) => words_all A n c B x hx hn W (h1.below (hb.mono hB)) (Nat.le_trans hB hb.size))
  have C2 := Lib.hid (fun W (hb : Below w.heap.size w W) => words_all Ab nb cb B y hy hnb W (h2.below (hb.mono hB)) (Nat.le_trans hB hb.size))
  have H3 := Lib.hid h3; have H4 := Lib.hid h4
  have HP : Hid (Whole (w.alloc (.cells #[.int .u8 kd, .bool la, rw_, .slice As ns cs, .slice Am nm cm, .int .i64 sp, le, fa] 33)) w.heap.size 33 #[.int .u8 kd, .bool la, rw_, .slice As ns cs, .slice Am nm cm, .int .i64 sp, le, fa]) := Lib.hid (Whole.new _ _ _)
  have HBA := Lib.hid hBa
  clear hBa h1 h2 h3 h4 hx hy
  go_enter Try.func30, Try.ntmps30
  go_wp2_with fail
  refine (C1.out _ HBA.out).mono ?_
  rintro e w1 (⟨rfl, hb1⟩ | ⟨Ax, cx, xs, hxl, hx15, rfl, hsx, hb1⟩)
  · have B1 := Lib.hid (HBA.out.trans (hb1.mono (by simp)))
    clear hb1
    go_wp2_with fail
    refine (C2.out _ B1.out).mono ?_
    rintro e w2 (⟨rfl, hb2⟩ | ⟨Ay, cy, ys, hyl, hy15, rfl, hsy, hb2⟩)
    · have B2 := Lib.hid (B1.out.trans (hb2.mono B1.out.size)); clear hb2
      go_wp2_with fail
      go_ret
      exact ⟨[], _, by simp, rfl, World.ownsRow_nil _ _ _ _, B2.out⟩
    · have B2 := Lib.hid (B1.out.trans (hb2.mono B1.out.size)); clear hb2 hsy
      go_wp2_with fail
      go_ret
      exact ⟨[], _, by simp, rfl, World.ownsRow_nil _ _ _ _, B2.out⟩
  · have B1 := Lib.hid (HBA.out.trans (hb1.mono (by simp)))
    have HP1 := Lib.hid (HP.out.only (Only.of_below hb1 Nob) (fun h => h))
    have SX := Lib.hid hsx
    clear hb1 hsx HP
    go_wp2_with fail
    refine (C2.out _ B1.out).mono ?_
    rintro e w2 (⟨rfl, hb2⟩ | ⟨Ay, cy, ys, hyl, hy15, rfl, hsy, hb2⟩)
    · have B2 := Lib.hid (B1.out.trans (hb2.mono B1.out.size)); clear hb2
      go_wp2_with fail
      go_ret
      exact ⟨[], _, by simp, rfl, World.ownsRow_nil _ _ _ _, B2.out⟩
    · have B2 := Lib.hid (B1.out.trans (hb2.mono B1.out.size))
      have SX2 := Lib.hid ((SX.out.below hb2).more hb2.size)
      have HP2 := Lib.hid (HP1.out.only (Only.of_below hb2 Nob) (fun h => h))
      have SY := Lib.hid hsy
      have p3 : w2.cell? ⟨w.heap.size, 3, none⟩ = some (.slice As ns cs) := HP2.out.cell 3
      have hlw := HP2.out.lt
      have HS3 : Hid (Seen (w2.alloc (.cells #[] 3)) w2.heap.size 1 As ns cs (iv ss)) := Lib.hid ((H3.out.below ((B2.out.trans ((Below.refl w.heap.size w2).alloc B2.out.size (.cells #[] 3))).mono hB)).more (Nat.le_trans hB B2.out.size))
      have HO3 : Hid ((w2.alloc (.cells #[] 3)).ownsRow w2.heap.size 3 1 (.slice (some ⟨w2.heap.size, 0, none⟩) 0 0) 0 []) := Lib.hid (World.ownsRow_made w2 #[] 0 (Nat.le_refl _) (by simp [maxLen]) rfl)
      have hne2 : w2.heap.size ≠ w.heap.size := by omega
      clear hb2 hsy SX HP1
      have B2a := Lib.hid (B2.out.alloc B2.out.size (.cells #[] 3))
      go_wp2_with (first
        | (at_builtin; refine wpList_append_seen _ rfl (.tmp 40) (.tmp 42) _ rfl w2.heap.size 3 i0 _ 1 8 Try.underlying30 hi0 hz0 hz1 hz2 rfl (by omega) (.slice (some ⟨w2.heap.size, 0, none⟩) 0 0) 0 [] rfl HO3.out _ As ns cs (iv ss) rfl HS3.out (ints_one _) (by simp only [maxLen]; omega) (by omega) (by simp) ?_; intro v3 w3 hown3 hg3 hat3; have hown3' : w3.ownsRow w2.heap.size 3 1 v3 ns (iv ss) := (by simpa using hown3); have hb3 : Below w2.heap.size w2 w3 := ((Below.refl _ _).alloc (Nat.le_refl _) _).grown hg3 (by simp) (by simp [Value.ownBlock]); have hb4 : Below w3.heap.size w3 (w3.alloc (.cells #[.int .i64 256] 3)) := (Below.refl _ _).alloc (Nat.le_refl _) _; have HO4 := Lib.hid (own_only hown3' (Only.of_below hb4 Nob) (fun _ _ h => h)); have HS4 := Lib.hid (seen_one w3 3 (.int .i64 256)); have HB4 := Lib.hid (hb3.trans (hb4.mono hb3.size)); have HSZ4 : Hid (w2.heap.size ≤ (w3.alloc (.cells #[.int .i64 256] 3)).heap.size) := Lib.hid (Nat.le_trans hb3.size hb4.size); clear hown3 hown3' hg3 hat3 hb3 hb4)
        | (at_builtin; refine wpList_append_seen _ rfl (.tmp 43) (.tmp 44) _ rfl w2.heap.size 3 i0 _ 1 8 Try.underlying30 hi0 hz0 hz1 hz2 rfl (by omega) v3 ns (iv ss) rfl HO4.out _ _ 1 1 [.int .i64 256] rfl HS4.out (by simp [Value.oneCell']) (by simp only [maxLen]; omega) (by omega) HSZ4.out ?_; intro v5 w5 hown5 hg5 hat5; have HB5 := Lib.hid (HB4.out.grown hg5 HSZ4.out (fun k hk => (own_whole HO4.out hk).1)); have hown5' : w5.ownsRow w2.heap.size 3 1 v5 (ns + 1) (iv (ss ++ [256])) := (by simpa [iv] using hown5); obtain ⟨A5, c5, rfl, _, hs5⟩ := own_seen hown5'; have HS5 := Lib.hid hs5; clear hown5 hown5' hg5 hat5 hs5))
      have hsz5 := HB5.out.size
      have SX5 := Lib.hid (SX2.out.below HB5.out)
      have SY5 := Lib.hid (SY.out.below HB5.out)
      have HP5 := Lib.hid (HP2.out.only (Only.of_below HB5.out Nob) (fun h => h))
      have B5 := Lib.hid (B2.out.trans (HB5.out.mono B2.out.size))
      have HM5 := Lib.hid (H4.out.below (B5.out.mono hB))
      clear HO3 HS3 HO4 HS4 HSZ4 HB4 HB5 SX2 SY HP2 p3 C1 C2 B1 HBA H3 H4 B2a
      obtain ⟨N, hN⟩ : ∃ N, ns + 1 = N := ⟨_, rfl⟩
      have HN : Hid ((ss ++ [256]).length = N) := Lib.hid (by simp [hss, hN])
      have eN : (ns : Int) + 1 = N := by omega
      rw [hN] at HS5 ⊢
      rw [eN]
      have hN41 : N ≤ 41 := by omega
      obtain ⟨zs, hzs⟩ : ∃ zs, ss ++ [256] = zs := ⟨_, rfl⟩
      rw [hzs] at HS5 HN
      clear hzs hN eN
      go_wp2_with fail
      go_loopw [11, 12, 47] (fun ov av iv_ wr => ∃ (k a : Nat) (l : List Bool), k ≤ N ∧ iv_ = .int .i64 k ∧ av = .int .i64 a ∧ a ≤ 2 * k ∧ l.length ≤ 48 * k ∧ wr.ownsRow w5.heap.size 4 1 ov l.length (l.map .bool) ∧ Below w5.heap.size w5 wr) (fun _ _ i _ => N - (intOf i).toNat)
      case atStart => exact ⟨0, 0, [], Nat.zero_le _, rfl, rfl, Nat.le_refl _, Nat.le_refl _, World.ownsRow_nil _ _ _ _, Below.refl _ _⟩
      case round =>
        obtain ⟨k, a, l, hk, rfl, rfl, ha, hl, hown, hbel⟩ := hrel
        obtain ⟨Ao, co, rfl, _⟩ := own_form hown
        by_cases hlt : k < N
        · obtain ⟨bz, oz, u, eA5, hbz, hu, cz⟩ := (HS5.out.below hbel).at hlt
          rw [iv_get? (by rw [HN.out]; exact hlt)] at hu
          injection hu with hu
          subst hu
          obtain ⟨s, hs⟩ : ∃ s, zs[k]'(by rw [HN.out]; exact hlt) = s := ⟨_, rfl⟩
          rw [hs] at cz
          subst eA5
          have hk0 : (0 : Int) ≤ k := by omega
          have HO := Lib.hid hown; have HBel := Lib.hid hbel
          clear hown hbel hs
          by_cases hs0 : s < 0
          · go_wp2_with fail
            go_roundw
            case rel => exact ⟨k + 1, a, l, by omega, by go_num, rfl, by omega, by omega, HO.out, HBel.out⟩
            case measure => simp [intOf]; omega
          · by_cases hsn : (n : Int) ≤ s
            · go_wp2_with fail
              go_roundw
              case rel => exact ⟨k + 1, a, l, by omega, by go_num, rfl, by omega, by omega, HO.out, HBel.out⟩
              case measure => simp [intOf]; omega
            · obtain ⟨q, rfl⟩ := Int.eq_ofNat_of_zero_le (show 0 ≤ s by omega)
              have hq : q < n := by omega
              obtain ⟨bx_, ox, ux, eAx, hbx_, hux, cxx⟩ := (SX5.out.below (HBel.out.mono hsz5)).at hq
              have hqx : q < xs.length := by omega
              have hux' : ux = .string (tx xs[q]) := by
                simp [wtx, hqx] at hux
                exact hux.symm
              subst hux'
              have h15 := hx15 _ (List.getElem_mem hqx)
              obtain ⟨wd, hwd⟩ : ∃ wd, xs[q] = wd := ⟨_, rfl⟩
              rw [hwd] at cxx h15
              subst eAx
              have dq0 : decide ((q : Int) < 0) = false := decide_eq_false (by omega)
              have dqn : decide ((n : Int) ≤ q) = false := decide_eq_false (by omega)
              have dqn' : decide (n ≤ q) = false := decide_eq_false (by omega)
              have q0 : (0 : Int) ≤ q := by omega
              clear hux hwd
              by_cases hwe : wd = []
              · subst hwe
                have et : tx [] = ⟨#[]⟩ := rfl
                rw [et] at cxx
                go_wp2_with fail
                go_roundw
                case rel => exact ⟨k + 1, a, l, by omega, by go_num, rfl, by omega, by omega, HO.out, HBel.out⟩
                case measure => simp [intOf]; omega
              · have hws := tx_some wd hwe
                have hw1 := hws.1
                have hw2 := hws.2
                obtain ⟨wl, hwl⟩ : ∃ wl, wd.length = wl := ⟨_, rfl⟩
                have HWL := Lib.hid hwl
                have CW := Lib.hid (fun W => written_any wd wl hwl (by omega) W)
                have htz : (tx wd).size = wl := by rw [tx_size, hwl]
                have CLn := Lib.hid (fun W => rlenB q W)
                have HB := HBel
                have SXr := Lib.hid (SX5.out.below (HBel.out.mono hsz5))
                have hwl15 : wl ≤ 15 := by omega
                clear hws hwl hwe
                obtain ⟨tw, htw⟩ : ∃ tw, tx wd = tw := ⟨_, rfl⟩
                rw [htw] at cxx CW hw1 hw2
                clear htw
                go_wp2_with fail
                refine (CW.out _).mono ?_
                rintro e wa1 ⟨va1, rfl, howna1, hba1⟩
                obtain ⟨Aa1, ca1, rfl, _, hsa1⟩ := own_seen howna1
                have SA1 := Lib.hid hsa1
                have OA1 := Lib.hid (own_only HO.out (Only.of_below hba1 Nob) (fun _ _ h => h))
                have BA1 := Lib.hid (HB.out.trans (hba1.mono HB.out.size))
                clear howna1 hsa1 hba1 HO HB
                go_wp2_with (at_builtin; refine wpList_append_seen _ rfl (.tmp 66) (.tmp 71) _ rfl w5.heap.size 4 j0 _ 1 1 Try.underlying29 hj0 hy0 hy1 hy2 rfl (by omega) (.slice Ao l.length co) l.length (l.map .bool) rfl OA1.out _ Aa1 wl ca1 (wd.map .bool) rfl SA1.out (bools_one _) (by simp only [maxLen]; omega) (by omega) BA1.out.size ?_; intro vb1 wb1 hownb1 hgb1 hatb1; have HB1 := Lib.hid (BA1.out.grown hgb1 BA1.out.size (fun k hk => (own_whole OA1.out hk).1)); have howc1 := app_fact hownb1 HWL.out; obtain ⟨L1, hL1⟩ : ∃ L', l ++ wd = L' := ⟨_, rfl⟩; have hll1 : L1.length ≤ l.length + wl := (by rw [← hL1, List.length_append, HWL.out]; exact Nat.le_refl _); rw [hL1] at howc1; obtain ⟨Ac1, cc1, rfl, _⟩ := own_form howc1; have HO1 := Lib.hid howc1; clear hownb1 hgb1 hatb1 howc1 hL1 OA1 BA1 SA1)
                cases hLn : lenOf q with
                | none =>
                  rw [hLn] at CLn
                  simp only [optV] at CLn
                  refine (CLn.out _).mono ?_
                  rintro e wz ⟨rfl, rfl⟩
                  go_wp2_with fail
                  go_roundw
                  case rel => exact ⟨k + 1, a, L1, by omega, by go_num, rfl, by omega, by omega, HO1.out, HB1.out⟩
                  case measure => simp [intOf]; omega
                | some bn =>
                  obtain ⟨bb, nbits⟩ := bn
                  have hnb5 := (lenOf_bits q bb nbits hLn).1
                  rw [hLn] at CLn
                  simp only [optV] at CLn
                  have HP6 := Lib.hid (HP5.out.only (Only.of_below HB1.out Nob) (fun h => h))
                  have p4 : wb1.cell? ⟨w.heap.size, 4, none⟩ = some (.slice Am nm cm) := HP6.out.cell 4
                  have hnb0' : nb ≠ 0 := by omega
                  refine (CLn.out _).mono ?_
                  rintro e wz ⟨rfl, rfl⟩
                  by_cases hmo : a + 1 < nm
                  · have dmo : decide ((a : Int) + 1 < nm) = true := decide_eq_true (by omega)
                    have dmo' : decide (a + 1 < nm) = true := decide_eq_true hmo
                    have hmr := (HM5.out.below (HB1.out.mono (Nat.le_trans hB (B5.out.size))))
                    obtain ⟨bm, om, u0, eAm, hbm, hu0, cm0⟩ := hmr.at (k := a) (by omega)
                    obtain ⟨bm', om', u1, eAm', hbm', hu1, cm1⟩ := hmr.at (k := a + 1) hmo
                    rw [eAm] at eAm'
                    injection eAm' with eAm'
                    injection eAm' with f1 f2
                    subst f1 f2
                    have hua : a < ms.length := by omega
                    have hub : a + 1 < ms.length := by omega
                    have g0 : u0 = .int .u32 ((ms[a] : Nat) : Int) := by simp [hua] at hu0; exact hu0.symm
                    have g1 : u1 = .int .u32 ((ms[a + 1] : Nat) : Int) := by simp [hub] at hu1; exact hu1.symm
                    subst g0 g1
                    have hm032 := h32 _ (List.getElem_mem hua)
                    have hm132 := h32 _ (List.getElem_mem hub)
                    obtain ⟨m0, hm0⟩ : ∃ m0, ms[a] = m0 := ⟨_, rfl⟩
                    obtain ⟨m1, hm1⟩ : ∃ m1, ms[a + 1] = m1 := ⟨_, rfl⟩
                    rw [hm0] at cm0 hm032
                    rw [hm1] at cm1 hm132
                    clear hm0 hm1 hu0 hu1 hmr
                    subst eAm
                    have a0 : (0 : Int) ≤ a := by omega
                    have a1 : (0 : Int) ≤ (a : Int) + 1 := by omega
                    have al : (a : Int) < nm := by omega
                    have al1 : (a : Int) + 1 < nm := by omega
                    have wa1 : IntKind.i64.wrap ((a : Int) + 1) = (a : Int) + 1 := IntWalk.i64_in _ (by omega)
                    have ta1 : ((a : Int) + 1).toNat = a + 1 := by omega
                    go_wp2_with fail
                    go_quiet (fail)
                    have HO1n : Hid ((wb1.drewN nq).ownsRow w5.heap.size 4 1 (.slice Ac1 L1.length cc1) L1.length (L1.map .bool)) := Lib.hid HO1.out
                    have HB1n : Hid (Below w5.heap.size w5 (wb1.drewN nq)) := Lib.hid ⟨HB1.out.os, HB1.out.tape, HB1.out.output, HB1.out.size, HB1.out.block⟩
                    clear HO1 HB1 HP6 p4 cm0 cm1
                    have HO1 := HO1n; have HB1 := HB1n
                    clear HO1n HB1n
                    obtain ⟨Z1, hZ1⟩ : ∃ Z, bitsOf m0 nbits = Z := ⟨_, rfl⟩
                    have HL1b : Hid (Z1.length = nbits) := Lib.hid (by rw [← hZ1]; simp)
                    have CB1 : Hid (∀ W, Calls Try.prog 28 #[.int .u32 (m0 : Nat), .int .i64 nbits] W (GivesRow W 4 1 nbits (Z1.map .bool))) := Lib.hid (fun W => by rw [← hZ1]; exact bits_any m0 nbits (by omega) (by omega) W)
                    clear hZ1
                    obtain ⟨d, hd⟩ : ∃ d, m1 % nb = d := ⟨_, rfl⟩
                    have hdn : d < nb := by rw [← hd]; exact Nat.mod_lt _ hnb0
                    have ed1 : (m1 : Int).tmod nb = d := by rw [Int.tmod_eq_emod_of_nonneg (by omega)]; omega
                    have ed2 : (m1 : Int) % nb = d := by omega
                    have wd1 : IntKind.u32.wrap (d : Int) = d := by simp [IntKind.wrap, IntKind.signed, IntKind.bits]; omega
                    have wd2 : IntKind.i64.wrap (d : Int) = d := IntWalk.i64_in _ (by omega)
                    have d0 : (0 : Int) ≤ d := by omega
                    have d1 : (d : Int) < nb := by omega
                    obtain ⟨m3, hm3⟩ : ∃ m3, m0 / 3 = m3 := ⟨_, rfl⟩
                    have e31 : (m0 : Int).tdiv 3 = m3 := by rw [Int.tdiv_eq_ediv_of_nonneg (by omega)]; omega
                    have e32 : (m0 : Int) / 3 = m3 := by omega
                    have w31 : IntKind.u32.wrap (m3 : Int) = m3 := by simp [IntKind.wrap, IntKind.signed, IntKind.bits]; omega
                    have hm3b : m3 < 4294967296 := by omega
                    clear hd hm3
                    have wnb : IntKind.u32.wrap (nb : Int) = nb := by simp [IntKind.wrap, IntKind.signed, IntKind.bits]; omega
                    have nbz : ((nb : Int) == 0) = false := by simp; omega
                    have nbz' : (nb : Int) ≠ 0 := by omega
                    obtain ⟨by_, oy, uy, eAy, hby, huy, cyy⟩ := SY5.out.at (k := d) hdn
                    have hdy : d < ys.length := by omega
                    have huy' : uy = .string (tx ys[d]) := by
                      simp [wtx, hdy] at huy
                      exact huy.symm
                    subst huy'
                    have hy15' := hy15 _ (List.getElem_mem hdy)
                    obtain ⟨yd, hyd⟩ : ∃ yd, ys[d] = yd := ⟨_, rfl⟩
                    rw [hyd] at cyy hy15'
                    obtain ⟨yl, hyl'⟩ : ∃ yl, yd.length = yl := ⟨_, rfl⟩
                    have HYL := Lib.hid hyl'
                    have CW2 := Lib.hid (fun W => written_any yd yl hyl' (by omega) W)
                    have hyl15 : yl ≤ 15 := by omega
                    obtain ⟨ty, hty⟩ : ∃ ty, tx yd = ty := ⟨_, rfl⟩
                    rw [hty] at cyy CW2
                    have CY : Hid (∀ W, Below w5.heap.size w5 W → W.cell? ⟨by_, oy + d, none⟩ = some (.string ty)) := Lib.hid (fun W hW => (hW.cell (p := ⟨by_, oy + d, none⟩) (by simp only; omega)).trans cyy)
                    subst eAy
                    have CD := Lib.hid (fun W => rdstB d W)
                    clear huy hyd hyl' hty cyy
                    go_wp2_with fail
                    refine (CB1.out _).mono ?_
                    rintro e wa2 ⟨va2, rfl, howna2, hba2⟩
                    obtain ⟨Aa2, ca2, rfl, _, hsa2⟩ := own_seen howna2
                    have SA2 := Lib.hid hsa2
                    have OA2 := Lib.hid (own_only HO1.out (Only.of_below hba2 Nob) (fun _ _ h => h))
                    have BA2 := Lib.hid (HB1.out.trans (hba2.mono HB1.out.size))
                    clear howna2 hsa2 hba2 HO1 HB1
                    go_wp2_with (at_builtin; refine wpList_append_seen _ rfl (.tmp 100) (.tmp 103) _ rfl w5.heap.size 4 j0 _ 1 1 Try.underlying29 hj0 hy0 hy1 hy2 rfl (by omega) (.slice Ac1 L1.length cc1) L1.length (L1.map .bool) rfl OA2.out _ Aa2 nbits ca2 (Z1.map .bool) rfl SA2.out (bools_one _) (by simp only [maxLen]; omega) (by omega) BA2.out.size ?_; intro vb2 wb2 hownb2 hgb2 hatb2; have HB2 := Lib.hid (BA2.out.grown hgb2 BA2.out.size (fun k hk => (own_whole OA2.out hk).1)); have howc2 := app_fact hownb2 HL1b.out; obtain ⟨L2, hL2⟩ : ∃ L', L1 ++ Z1 = L' := ⟨_, rfl⟩; have hll2 : L2.length ≤ L1.length + nbits := (by rw [← hL2, List.length_append, HL1b.out]; exact Nat.le_refl _); rw [hL2] at howc2; obtain ⟨Ac2, cc2, rfl, _⟩ := own_form howc2; have HO2 := Lib.hid howc2; clear hownb2 hgb2 hatb2 howc2 hL2 OA2 BA2 SA2; have cyd := CY.out _ HB2.out)
                    refine (CW2.out _).mono ?_
                    rintro e wa3 ⟨va3, rfl, howna3, hba3⟩
                    obtain ⟨Aa3, ca3, rfl, _, hsa3⟩ := own_seen howna3
                    have SA3 := Lib.hid hsa3
                    have OA3 := Lib.hid (own_only HO2.out (Only.of_below hba3 Nob) (fun _ _ h => h))
                    have BA3 := Lib.hid (HB2.out.trans (hba3.mono HB2.out.size))
                    clear howna3 hsa3 hba3 HO2 HB2
                    go_wp2_with (at_builtin; refine wpList_append_seen _ rfl (.tmp 111) (.tmp 116) _ rfl w5.heap.size 4 j0 _ 1 1 Try.underlying29 hj0 hy0 hy1 hy2 rfl (by omega) (.slice Ac2 L2.length cc2) L2.length (L2.map .bool) rfl OA3.out _ Aa3 yl ca3 (yd.map .bool) rfl SA3.out (bools_one _) (by simp only [maxLen]; omega) (by omega) BA3.out.size ?_; intro vb3 wb3 hownb3 hgb3 hatb3; have HB3 := Lib.hid (BA3.out.grown hgb3 BA3.out.size (fun k hk => (own_whole OA3.out hk).1)); have howc3 := app_fact hownb3 HYL.out; obtain ⟨L3, hL3⟩ : ∃ L', L2 ++ yd = L' := ⟨_, rfl⟩; have hll3 : L3.length ≤ L2.length + yl := (by rw [← hL3, List.length_append, HYL.out]; exact Nat.le_refl _); rw [hL3] at howc3; obtain ⟨Ac3, cc3, rfl, _⟩ := own_form howc3; have HO3 := Lib.hid howc3; clear hownb3 hgb3 hatb3 howc3 hL3 OA3 BA3 SA3; clear cyd)
                    refine (CD.out _).mono ?_
                    rintro e wz ⟨⟨xx, ne, bq, hne13, rfl⟩, rfl⟩
                    obtain ⟨Z4, hZ4⟩ : ∃ Z, bitsOf m3 ne = Z := ⟨_, rfl⟩
                    have HL4b : Hid (Z4.length = ne) := Lib.hid (by rw [← hZ4]; simp)
                    have CB4 : Hid (∀ W, Calls Try.prog 28 #[.int .u32 (m3 : Nat), .int .i64 ne] W (GivesRow W 4 1 ne (Z4.map .bool))) := Lib.hid (fun W => by rw [← hZ4]; exact bits_any m3 ne (by omega) (by omega) W)
                    clear hZ4
                    go_wp2_with fail
                    refine (CB4.out _).mono ?_
                    rintro e wa4 ⟨va4, rfl, howna4, hba4⟩
                    obtain ⟨Aa4, ca4, rfl, _, hsa4⟩ := own_seen howna4
                    have SA4 := Lib.hid hsa4
                    have OA4 := Lib.hid (own_only HO3.out (Only.of_below hba4 Nob) (fun _ _ h => h))
                    have BA4 := Lib.hid (HB3.out.trans (hba4.mono HB3.out.size))
                    clear howna4 hsa4 hba4 HO3 HB3
                    go_wp2_with (at_builtin; refine wpList_append_seen _ rfl (.tmp 124) (.tmp 128) _ rfl w5.heap.size 4 j0 _ 1 1 Try.underlying29 hj0 hy0 hy1 hy2 rfl (by omega) (.slice Ac3 L3.length cc3) L3.length (L3.map .bool) rfl OA4.out _ Aa4 ne ca4 (Z4.map .bool) rfl SA4.out (bools_one _) (by simp only [maxLen]; omega) (by omega) BA4.out.size ?_; intro vb4 wb4 hownb4 hgb4 hatb4; have HB4 := Lib.hid (BA4.out.grown hgb4 BA4.out.size (fun k hk => (own_whole OA4.out hk).1)); have howc4 := app_fact hownb4 HL4b.out; obtain ⟨L4, hL4⟩ : ∃ L', L3 ++ Z4 = L' := ⟨_, rfl⟩; have hll4 : L4.length ≤ L3.length + ne := (by rw [← hL4, List.length_append, HL4b.out]; exact Nat.le_refl _); rw [hL4] at howc4; obtain ⟨Ac4, cc4, rfl, _⟩ := own_form howc4; have HO4 := Lib.hid howc4; clear hownb4 hgb4 hatb4 howc4 hL4 OA4 BA4 SA4)
                    go_roundw
                    case rel => exact ⟨k + 1, a + 2, L4, by omega, by go_num, by go_num, by omega, by omega, HO4.out, HB4.out⟩
                    case measure => simp [intOf]; omega
                  · have dmo : decide ((a : Int) + 1 < nm) = false := decide_eq_false (by omega)
                    have dmo' : decide (a + 1 < nm) = false := decide_eq_false hmo
                    obtain ⟨Z1, hZ1⟩ : ∃ Z, bitsOf 0 nbits = Z := ⟨_, rfl⟩
                    have HL1b : Hid (Z1.length = nbits) := Lib.hid (by rw [← hZ1]; simp)
                    have CB1 : Hid (∀ W, Calls Try.prog 28 #[.int .u32 0, .int .i64 nbits] W (GivesRow W 4 1 nbits (Z1.map .bool))) := Lib.hid (fun W => by rw [← hZ1]; exact bits_any 0 nbits (by omega) (by omega) W)
                    clear hZ1
                    have hdn : 0 < nb := hnb0
                    have wnb : IntKind.u32.wrap (nb : Int) = nb := by simp [IntKind.wrap, IntKind.signed, IntKind.bits]; omega
                    have nbz : ((nb : Int) == 0) = false := by simp; omega
                    have nbz' : (nb : Int) ≠ 0 := by omega
                    obtain ⟨by_, oy, uy, eAy, hby, huy, cyy⟩ := SY5.out.at (k := 0) hdn
                    have hdy : 0 < ys.length := by omega
                    have huy' : uy = .string (tx ys[0]) := by
                      simp [wtx, hdy] at huy
                      exact huy.symm
                    subst huy'
                    have hy15' := hy15 _ (List.getElem_mem hdy)
                    obtain ⟨yd, hyd⟩ : ∃ yd, ys[0] = yd := ⟨_, rfl⟩
                    rw [hyd] at cyy hy15'
                    obtain ⟨yl, hyl'⟩ : ∃ yl, yd.length = yl := ⟨_, rfl⟩
                    have HYL := Lib.hid hyl'
                    have CW2 := Lib.hid (fun W => written_any yd yl hyl' (by omega) W)
                    have hyl15 : yl ≤ 15 := by omega
                    obtain ⟨ty, hty⟩ : ∃ ty, tx yd = ty := ⟨_, rfl⟩
                    rw [hty] at cyy CW2
                    have CY : Hid (∀ W, Below w5.heap.size w5 W → W.cell? ⟨by_, oy, none⟩ = some (.string ty)) := Lib.hid (fun W hW => (hW.cell (p := ⟨by_, oy, none⟩) (by simp only; omega)).trans cyy)
                    subst eAy
                    have CD := Lib.hid (fun W => rdstB 0 W)
                    clear huy hyd hyl' hty cyy
                    go_wp2_with fail
                    refine (CB1.out _).mono ?_
                    rintro e wa2 ⟨va2, rfl, howna2, hba2⟩
                    obtain ⟨Aa2, ca2, rfl, _, hsa2⟩ := own_seen howna2
                    have SA2 := Lib.hid hsa2
                    have OA2 := Lib.hid (own_only HO1.out (Only.of_below hba2 Nob) (fun _ _ h => h))
                    have BA2 := Lib.hid (HB1.out.trans (hba2.mono HB1.out.size))
                    clear howna2 hsa2 hba2 HO1 HB1
                    go_wp2_with (at_builtin; refine wpList_append_seen _ rfl (.tmp 100) (.tmp 103) _ rfl w5.heap.size 4 j0 _ 1 1 Try.underlying29 hj0 hy0 hy1 hy2 rfl (by omega) (.slice Ac1 L1.length cc1) L1.length (L1.map .bool) rfl OA2.out _ Aa2 nbits ca2 (Z1.map .bool) rfl SA2.out (bools_one _) (by simp only [maxLen]; omega) (by omega) BA2.out.size ?_; intro vb2 wb2 hownb2 hgb2 hatb2; have HB2 := Lib.hid (BA2.out.grown hgb2 BA2.out.size (fun k hk => (own_whole OA2.out hk).1)); have howc2 := app_fact hownb2 HL1b.out; obtain ⟨L2, hL2⟩ : ∃ L', L1 ++ Z1 = L' := ⟨_, rfl⟩; have hll2 : L2.length ≤ L1.length + nbits := (by rw [← hL2, List.length_append, HL1b.out]; exact Nat.le_refl _); rw [hL2] at howc2; obtain ⟨Ac2, cc2, rfl, _⟩ := own_form howc2; have HO2 := Lib.hid howc2; clear hownb2 hgb2 hatb2 howc2 hL2 OA2 BA2 SA2; have cyd := CY.out _ HB2.out)
                    refine (CW2.out _).mono ?_
                    rintro e wa3 ⟨va3, rfl, howna3, hba3⟩
                    obtain ⟨Aa3, ca3, rfl, _, hsa3⟩ := own_seen howna3
                    have SA3 := Lib.hid hsa3
                    have OA3 := Lib.hid (own_only HO2.out (Only.of_below hba3 Nob) (fun _ _ h => h))
                    have BA3 := Lib.hid (HB2.out.trans (hba3.mono HB2.out.size))
                    clear howna3 hsa3 hba3 HO2 HB2
                    go_wp2_with (at_builtin; refine wpList_append_seen _ rfl (.tmp 111) (.tmp 116) _ rfl w5.heap.size 4 j0 _ 1 1 Try.underlying29 hj0 hy0 hy1 hy2 rfl (by omega) (.slice Ac2 L2.length cc2) L2.length (L2.map .bool) rfl OA3.out _ Aa3 yl ca3 (yd.map .bool) rfl SA3.out (bools_one _) (by simp only [maxLen]; omega) (by omega) BA3.out.size ?_; intro vb3 wb3 hownb3 hgb3 hatb3; have HB3 := Lib.hid (BA3.out.grown hgb3 BA3.out.size (fun k hk => (own_whole OA3.out hk).1)); have howc3 := app_fact hownb3 HYL.out; obtain ⟨L3, hL3⟩ : ∃ L', L2 ++ yd = L' := ⟨_, rfl⟩; have hll3 : L3.length ≤ L2.length + yl := (by rw [← hL3, List.length_append, HYL.out]; exact Nat.le_refl _); rw [hL3] at howc3; obtain ⟨Ac3, cc3, rfl, _⟩ := own_form howc3; have HO3 := Lib.hid howc3; clear hownb3 hgb3 hatb3 howc3 hL3 OA3 BA3 SA3; clear cyd)
                    refine (CD.out _).mono ?_
                    rintro e wz ⟨⟨xx, ne, bq, hne13, rfl⟩, rfl⟩
                    obtain ⟨Z4, hZ4⟩ : ∃ Z, bitsOf 0 ne = Z := ⟨_, rfl⟩
                    have HL4b : Hid (Z4.length = ne) := Lib.hid (by rw [← hZ4]; simp)
                    have CB4 : Hid (∀ W, Calls Try.prog 28 #[.int .u32 0, .int .i64 ne] W (GivesRow W 4 1 ne (Z4.map .bool))) := Lib.hid (fun W => by rw [← hZ4]; exact bits_any 0 ne (by omega) (by omega) W)
                    clear hZ4
                    go_wp2_with fail
                    refine (CB4.out _).mono ?_
                    rintro e wa4 ⟨va4, rfl, howna4, hba4⟩
                    obtain ⟨Aa4, ca4, rfl, _, hsa4⟩ := own_seen howna4
                    have SA4 := Lib.hid hsa4
                    have OA4 := Lib.hid (own_only HO3.out (Only.of_below hba4 Nob) (fun _ _ h => h))
                    have BA4 := Lib.hid (HB3.out.trans (hba4.mono HB3.out.size))
                    clear howna4 hsa4 hba4 HO3 HB3
                    go_wp2_with (at_builtin; refine wpList_append_seen _ rfl (.tmp 124) (.tmp 128) _ rfl w5.heap.size 4 j0 _ 1 1 Try.underlying29 hj0 hy0 hy1 hy2 rfl (by omega) (.slice Ac3 L3.length cc3) L3.length (L3.map .bool) rfl OA4.out _ Aa4 ne ca4 (Z4.map .bool) rfl SA4.out (bools_one _) (by simp only [maxLen]; omega) (by omega) BA4.out.size ?_; intro vb4 wb4 hownb4 hgb4 hatb4; have HB4 := Lib.hid (BA4.out.grown hgb4 BA4.out.size (fun k hk => (own_whole OA4.out hk).1)); have howc4 := app_fact hownb4 HL4b.out; obtain ⟨L4, hL4⟩ : ∃ L', L3 ++ Z4 = L' := ⟨_, rfl⟩; have hll4 : L4.length ≤ L3.length + ne := (by rw [← hL4, List.length_append, HL4b.out]; exact Nat.le_refl _); rw [hL4] at howc4; obtain ⟨Ac4, cc4, rfl, _⟩ := own_form howc4; have HO4 := Lib.hid howc4; clear hownb4 hgb4 hatb4 howc4 hL4 OA4 BA4 SA4)
                    go_roundw
                    case rel => exact ⟨k + 1, a, L4, by omega, by go_num, by go_num, by omega, by omega, HO4.out, HB4.out⟩
                    case measure => simp [intOf]; omega
        · obtain rfl : k = N := by omega
          have HO := Lib.hid hown; have HBel := Lib.hid hbel
          clear hown hbel
          go_wp2_with fail
          go_ret
          exact ⟨l, _, by omega, rfl, own_base HO.out (by have := B5.out.size; omega), B5.out.trans (HBel.out.mono B5.out.size)⟩
end Go.Proofs.Ytobchlakjgeadaa
