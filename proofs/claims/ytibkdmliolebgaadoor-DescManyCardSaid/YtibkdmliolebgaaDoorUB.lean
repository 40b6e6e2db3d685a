/-
  The document's bytes of units. Conditions: at most a million units.
-/
import Derived.Test.YtibkdmliolebgaaDoorUA
namespace Go.Proofs.YtibkdmliolebgaaDoor
open Go Go.RowKit
set_option maxRecDepth 100000

theorem w64 (z : Int) (h : 0 ≤ z ∧ z ≤ 10000000) : wrap64 z = z := IntWalk.wrap64_in _ (by omega)
theorem td64 (x a : Nat) (h : x / 64 = a) : (x : Int).tdiv 64 = (a : Int) := by rw [Int.tdiv_eq_ediv_of_nonneg (by omega)]; omega
theorem td4096 (x a : Nat) (h : x / 4096 = a) : (x : Int).tdiv 4096 = (a : Int) := by rw [Int.tdiv_eq_ediv_of_nonneg (by omega)]; omega
theorem tm64 (x a : Nat) (h : x % 64 = a) : (x : Int).tmod 64 = (a : Int) := by rw [Int.tmod_eq_emod_of_nonneg (by omega)]; omega
theorem m256 (z : Int) (h : 0 ≤ z ∧ z < 256) : z % 256 = z := by omega

set_option maxHeartbeats 8000000 in
theorem unitBytes_any (l : List Nat) (hl : ∀ x ∈ l, x < 65536) (A : Option Addr) (n c B : Nat) (hn : l.length = n) (hs : n ≤ 1000000) (w : World) (hA : Seen w B 1 A n c (uv l)) (hB : B ≤ w.heap.size) :
    Calls Tryd.prog 48 #[.slice A n c] w (Gives w (.string (tx (uBs l)))) := by
  obtain ⟨i0, hi0, hz0, hz1, hz2⟩ := info_parts byte_info
  have HA := Lib.hid hA
  clear hA
  go_enter Tryd.func48, Tryd.ntmps48
  go_wp2
  go_loopg [3, 9] n (fun j v i wr => ∃ k : Nat, k ≤ n ∧ j = n - k ∧ i = .int .i64 k ∧ wr.ownsRow w.heap.size 5 1 v (uBs (l.take k)).length (Lib.byteCells (uBs (l.take k))) ∧ Below w.heap.size w wr)
  case atStart => exact ⟨0, by omega, rfl, rfl, World.ownsRow_nil _ _ _ _, Below.refl _ _⟩
  case round =>
    obtain ⟨k, hk, rfl, rfl, ho, hb⟩ := hrel
    by_cases hlt : k < n
    · have hkl : k < l.length := by omega
      obtain ⟨bk, o, u, rfl, hbk, hu, hcell⟩ := (HA.out.below (hb.mono hB)).at hlt
      have hx6 : l[k] < 65536 := hl _ (List.getElem_mem hkl)
      obtain rfl : u = .int .u16 (l[k] : Nat) := by
        have h := uv_at l k hkl
        exact (Option.some.inj (h.symm.trans hu)).symm
      have hst : uBs (l.take (k + 1)) = uBs (l.take k) ++ uB l[k] := by rw [take_next l k hkl, uBs_snoc]
      have hle : (uBs (l.take k)).length ≤ 3 * k := by have := uBs_le (l.take k); rw [List.length_take] at this; omega
      clear hu
      obtain ⟨x, hx⟩ : ∃ x, l[k] = x := ⟨_, rfl⟩
      rw [hx] at hcell hst hx6
      obtain ⟨U, hU⟩ : ∃ U, uBs (l.take k) = U := ⟨_, rfl⟩
      obtain ⟨L, hL⟩ : ∃ L, U.length = L := ⟨_, rfl⟩
      rw [hU] at ho hst hle
      rw [hL] at ho hle
      have HO := Lib.hid ho
      have HBB := Lib.hid hb
      have HUL := Lib.hid hL
      have hw1 : IntKind.i64.wrap (x : Int) = x := IntWalk.i64_in _ (by omega)
      have d0 : decide ((k : Int) < (n : Int)) = true := by rw [decide_eq_true_iff]; omega
      clear ho hb hx hU hL
      by_cases h1 : 1 ≤ x ∧ x < 128
      · have hub : uB x = [x].map UInt8.ofNat := by rw [uB, if_pos h1]; rfl
        obtain ⟨h1, h2⟩ := h1
        have e1 : decide ((1 : Int) ≤ (x : Int)) = true := by rw [decide_eq_true_iff]; omega
        have e2 : decide ((x : Int) < 128) = true := by rw [decide_eq_true_iff]; omega
        have u1 : IntKind.u8.wrap (x : Int) = x := IntWalk.u8_in _ (by omega)
        have hcs : (#[.int .u8 ((x : Nat))] : Array Value).toList = Lib.byteCells (uB x) := by rw [hub, bc_nats _ (by intro y hy; simp at hy; omega)]; simp
        have hub2 : (uB x).length = 1 := by rw [hub]; rfl
        have HS := Lib.hid (seen_new wr 5 (Lib.byteCells (uB x)) 1 (by rw [Lib.byteCells_length, hub2]) #[.int .u8 ((x : Nat))] hcs)
        have BB := Lib.hid ((Below.refl wr.heap.size wr).alloc (Nat.le_refl _) (.cells #[.int .u8 ((x : Nat))] 5))
        have HO2 := Lib.hid (own_only HO.out (Only.of_below BB.out Nob) (fun _ _ h => h))
        have HZ := HBB.out.size
        have HST := Lib.hid hst
        have HU2 := Lib.hid hub2
        have r1 : L + 1 ≤ maxLen := by simp [maxLen]; omega
        have r2 : (L + 1) * 1 ≤ 140737488355328 := by omega
        have r3 : w.heap.size ≤ (wr.alloc (.cells #[.int .u8 ((x : Nat))] 5)).heap.size := by rw [World.size_alloc]; omega
        clear hst hub hcs hub2
        go_wp2_with (at_builtin; refine wpList_append_seen _ rfl (.tmp 38) (.tmp 41) _ rfl w.heap.size 5 i0 _ 1 1 Tryd.underlying68 hi0 hz0 hz1 hz2 rfl (by omega) u3 L (Lib.byteCells U) rfl HO2.out (wr.heap.size + 1) (some ⟨wr.heap.size, 0, none⟩) 1 1 (Lib.byteCells (uB x)) rfl HS.out (bc_one _) r1 r2 r3 ?_; intro v2 w2 ho2 hg2 hv2)
        go_roundg (n - (k + 1))
        case measure => omega
        case rel =>
          refine ⟨k + 1, by omega, rfl, by go_num, ?_, (HBB.out.alloc HZ (.cells #[.int .u8 ((x : Nat))] 5)).grown hg2 (by simp; omega) (fun j hj => (own_whole HO.out hj).1)⟩
          rw [HST.out, bc_app, List.length_append, HUL.out, HU2.out]
          exact ho2
      · obtain ⟨a, ha⟩ : ∃ a, x / 64 = a := ⟨_, rfl⟩
        obtain ⟨b, hb⟩ : ∃ a, x % 64 = a := ⟨_, rfl⟩
        obtain ⟨d, hd⟩ : ∃ a, x / 4096 = a := ⟨_, rfl⟩
        obtain ⟨e, he⟩ : ∃ e, a % 64 = e := ⟨_, rfl⟩
        have b1 : a < 1024 := by omega
        have b2 : b < 64 := by omega
        have b3 : d < 16 := by omega
        have b4 : e < 64 := by omega
        by_cases h2 : x < 2048
        · have hub : uB x = [192 + a, 128 + b].map UInt8.ofNat := by rw [uB, if_neg h1, if_pos h2, ha, hb]; rfl
          have b5 : a < 32 := by omega
          have e3 : decide ((x : Int) < 2048) = true := by rw [decide_eq_true_iff]; omega
          clear b1 b3 b4
          rcases Nat.lt_or_ge x 1 with h0 | h0
          · have e1 : decide ((1 : Int) ≤ (x : Int)) = false := by rw [decide_eq_false_iff_not]; omega
            clear h1
            have hcs : (#[.int .u8 (192 + (a : Int)), .int .u8 (128 + (b : Int))] : Array Value).toList = Lib.byteCells (uB x) := by rw [hub, bc_nats _ (by intro y hy; simp at hy; omega)]; simp
            have hub2 : (uB x).length = 2 := by rw [hub]; rfl
            have HS := Lib.hid (seen_new wr 5 (Lib.byteCells (uB x)) 2 (by rw [Lib.byteCells_length, hub2]) #[.int .u8 (192 + (a : Int)), .int .u8 (128 + (b : Int))] hcs)
            have BB := Lib.hid ((Below.refl wr.heap.size wr).alloc (Nat.le_refl _) (.cells #[.int .u8 (192 + (a : Int)), .int .u8 (128 + (b : Int))] 5))
            have HO2 := Lib.hid (own_only HO.out (Only.of_below BB.out Nob) (fun _ _ h => h))
            have HZ := HBB.out.size
            have HST := Lib.hid hst
            have HU2 := Lib.hid hub2
            have r1 : L + 2 ≤ maxLen := by simp [maxLen]; omega
            have r2 : (L + 2) * 1 ≤ 140737488355328 := by omega
            have r3 : w.heap.size ≤ (wr.alloc (.cells #[.int .u8 (192 + (a : Int)), .int .u8 (128 + (b : Int))] 5)).heap.size := by rw [World.size_alloc]; omega
            clear hst hub hcs hub2
            have y1 : 0 ≤ (a : Int) ∧ (a : Int) ≤ 10000000 := by omega
            have y2 : 0 ≤ (192 + (a : Int)) ∧ (192 + (a : Int)) ≤ 10000000 := by omega
            have y3 : 0 ≤ (192 + (a : Int)) ∧ (192 + (a : Int)) < 256 := by omega
            have y4 : 0 ≤ (128 + (b : Int)) ∧ (128 + (b : Int)) ≤ 10000000 := by omega
            have y5 : 0 ≤ (128 + (b : Int)) ∧ (128 + (b : Int)) < 256 := by omega
            have z1 : ∀ z : Int, z = (a : Int) → wrap64 z = (a : Int) := fun z h => h ▸ w64 (a : Int) y1
            have z2 : ∀ z : Int, z = (192 + (a : Int)) → wrap64 z = (192 + (a : Int)) := fun z h => h ▸ w64 (192 + (a : Int)) y2
            have z3 := m256 (192 + (a : Int)) y3
            have z4 : ∀ z : Int, z = (128 + (b : Int)) → wrap64 z = (128 + (b : Int)) := fun z h => h ▸ w64 (128 + (b : Int)) y4
            have z5 := m256 (128 + (b : Int)) y5
            have t1 := td64 x a ha
            have t2 := tm64 x b hb
            have HE := Lib.hid (And.intro ha (And.intro hb (And.intro hd he)))
            clear ha hb hd he
            go_wp2_with (at_builtin; refine wpList_append_seen _ rfl (.tmp 46) (.tmp 55) _ rfl w.heap.size 5 i0 _ 1 1 Tryd.underlying68 hi0 hz0 hz1 hz2 rfl (by omega) u3 L (Lib.byteCells U) rfl HO2.out (wr.heap.size + 1) (some ⟨wr.heap.size, 0, none⟩) 2 2 (Lib.byteCells (uB x)) rfl HS.out (bc_one _) r1 r2 r3 ?_; intro v2 w2 ho2 hg2 hv2)
            clear t1 t2 z1 z2 z3 z4 z5 y1 y2 y3 y4 y5
            go_roundg (n - (k + 1))
            case measure => omega
            case rel =>
              refine ⟨k + 1, by omega, rfl, by go_num, ?_, (HBB.out.alloc HZ (.cells #[.int .u8 (192 + (a : Int)), .int .u8 (128 + (b : Int))] 5)).grown hg2 (by simp; omega) (fun j hj => (own_whole HO.out hj).1)⟩
              rw [HST.out, bc_app, List.length_append, HUL.out, HU2.out]
              exact ho2
          · have e1 : decide ((1 : Int) ≤ (x : Int)) = true := by rw [decide_eq_true_iff]; omega
            have e2 : decide ((x : Int) < 128) = false := by rw [decide_eq_false_iff_not]; omega
            clear h1
            have hcs : (#[.int .u8 (192 + (a : Int)), .int .u8 (128 + (b : Int))] : Array Value).toList = Lib.byteCells (uB x) := by rw [hub, bc_nats _ (by intro y hy; simp at hy; omega)]; simp
            have hub2 : (uB x).length = 2 := by rw [hub]; rfl
            have HS := Lib.hid (seen_new wr 5 (Lib.byteCells (uB x)) 2 (by rw [Lib.byteCells_length, hub2]) #[.int .u8 (192 + (a : Int)), .int .u8 (128 + (b : Int))] hcs)
            have BB := Lib.hid ((Below.refl wr.heap.size wr).alloc (Nat.le_refl _) (.cells #[.int .u8 (192 + (a : Int)), .int .u8 (128 + (b : Int))] 5))
            have HO2 := Lib.hid (own_only HO.out (Only.of_below BB.out Nob) (fun _ _ h => h))
            have HZ := HBB.out.size
            have HST := Lib.hid hst
            have HU2 := Lib.hid hub2
            have r1 : L + 2 ≤ maxLen := by simp [maxLen]; omega
            have r2 : (L + 2) * 1 ≤ 140737488355328 := by omega
            have r3 : w.heap.size ≤ (wr.alloc (.cells #[.int .u8 (192 + (a : Int)), .int .u8 (128 + (b : Int))] 5)).heap.size := by rw [World.size_alloc]; omega
            clear hst hub hcs hub2
            have y1 : 0 ≤ (a : Int) ∧ (a : Int) ≤ 10000000 := by omega
            have y2 : 0 ≤ (192 + (a : Int)) ∧ (192 + (a : Int)) ≤ 10000000 := by omega
            have y3 : 0 ≤ (192 + (a : Int)) ∧ (192 + (a : Int)) < 256 := by omega
            have y4 : 0 ≤ (128 + (b : Int)) ∧ (128 + (b : Int)) ≤ 10000000 := by omega
            have y5 : 0 ≤ (128 + (b : Int)) ∧ (128 + (b : Int)) < 256 := by omega
            have z1 : ∀ z : Int, z = (a : Int) → wrap64 z = (a : Int) := fun z h => h ▸ w64 (a : Int) y1
            have z2 : ∀ z : Int, z = (192 + (a : Int)) → wrap64 z = (192 + (a : Int)) := fun z h => h ▸ w64 (192 + (a : Int)) y2
            have z3 := m256 (192 + (a : Int)) y3
            have z4 : ∀ z : Int, z = (128 + (b : Int)) → wrap64 z = (128 + (b : Int)) := fun z h => h ▸ w64 (128 + (b : Int)) y4
            have z5 := m256 (128 + (b : Int)) y5
            have t1 := td64 x a ha
            have t2 := tm64 x b hb
            have HE := Lib.hid (And.intro ha (And.intro hb (And.intro hd he)))
            clear ha hb hd he
            go_wp2_with (at_builtin; refine wpList_append_seen _ rfl (.tmp 46) (.tmp 55) _ rfl w.heap.size 5 i0 _ 1 1 Tryd.underlying68 hi0 hz0 hz1 hz2 rfl (by omega) u3 L (Lib.byteCells U) rfl HO2.out (wr.heap.size + 1) (some ⟨wr.heap.size, 0, none⟩) 2 2 (Lib.byteCells (uB x)) rfl HS.out (bc_one _) r1 r2 r3 ?_; intro v2 w2 ho2 hg2 hv2)
            clear t1 t2 z1 z2 z3 z4 z5 y1 y2 y3 y4 y5
            go_roundg (n - (k + 1))
            case measure => omega
            case rel =>
              refine ⟨k + 1, by omega, rfl, by go_num, ?_, (HBB.out.alloc HZ (.cells #[.int .u8 (192 + (a : Int)), .int .u8 (128 + (b : Int))] 5)).grown hg2 (by simp; omega) (fun j hj => (own_whole HO.out hj).1)⟩
              rw [HST.out, bc_app, List.length_append, HUL.out, HU2.out]
              exact ho2
        · have hub : uB x = [224 + d, 128 + e, 128 + b].map UInt8.ofNat := by rw [uB, if_neg h1, if_neg h2, hd, ha, he, hb]; rfl
          have e1 : decide ((1 : Int) ≤ (x : Int)) = true := by rw [decide_eq_true_iff]; omega
          have e2 : decide ((x : Int) < 128) = false := by rw [decide_eq_false_iff_not]; omega
          have e3 : decide ((x : Int) < 2048) = false := by rw [decide_eq_false_iff_not]; omega
          clear h1 b1
          have hcs : (#[.int .u8 (224 + (d : Int)), .int .u8 (128 + (e : Int)), .int .u8 (128 + (b : Int))] : Array Value).toList = Lib.byteCells (uB x) := by rw [hub, bc_nats _ (by intro y hy; simp at hy; omega)]; simp
          have hub2 : (uB x).length = 3 := by rw [hub]; rfl
          have HS := Lib.hid (seen_new wr 5 (Lib.byteCells (uB x)) 3 (by rw [Lib.byteCells_length, hub2]) #[.int .u8 (224 + (d : Int)), .int .u8 (128 + (e : Int)), .int .u8 (128 + (b : Int))] hcs)
          have BB := Lib.hid ((Below.refl wr.heap.size wr).alloc (Nat.le_refl _) (.cells #[.int .u8 (224 + (d : Int)), .int .u8 (128 + (e : Int)), .int .u8 (128 + (b : Int))] 5))
          have HO2 := Lib.hid (own_only HO.out (Only.of_below BB.out Nob) (fun _ _ h => h))
          have HZ := HBB.out.size
          have HST := Lib.hid hst
          have HU2 := Lib.hid hub2
          have r1 : L + 3 ≤ maxLen := by simp [maxLen]; omega
          have r2 : (L + 3) * 1 ≤ 140737488355328 := by omega
          have r3 : w.heap.size ≤ (wr.alloc (.cells #[.int .u8 (224 + (d : Int)), .int .u8 (128 + (e : Int)), .int .u8 (128 + (b : Int))] 5)).heap.size := by rw [World.size_alloc]; omega
          clear hst hub hcs hub2
          have y1 : 0 ≤ (a : Int) ∧ (a : Int) ≤ 10000000 := by omega
          have y6 : 0 ≤ (d : Int) ∧ (d : Int) ≤ 10000000 := by omega
          have y2 : 0 ≤ (224 + (d : Int)) ∧ (224 + (d : Int)) ≤ 10000000 := by omega
          have y3 : 0 ≤ (224 + (d : Int)) ∧ (224 + (d : Int)) < 256 := by omega
          have y4 : 0 ≤ (128 + (b : Int)) ∧ (128 + (b : Int)) ≤ 10000000 := by omega
          have y5 : 0 ≤ (128 + (b : Int)) ∧ (128 + (b : Int)) < 256 := by omega
          have y7 : 0 ≤ (128 + (e : Int)) ∧ (128 + (e : Int)) ≤ 10000000 := by omega
          have y8 : 0 ≤ (128 + (e : Int)) ∧ (128 + (e : Int)) < 256 := by omega
          have z1 : ∀ z : Int, z = (a : Int) → wrap64 z = (a : Int) := fun z h => h ▸ w64 (a : Int) y1
          have z6 : ∀ z : Int, z = (d : Int) → wrap64 z = (d : Int) := fun z h => h ▸ w64 (d : Int) y6
          have z2 : ∀ z : Int, z = (224 + (d : Int)) → wrap64 z = (224 + (d : Int)) := fun z h => h ▸ w64 (224 + (d : Int)) y2
          have z3 := m256 (224 + (d : Int)) y3
          have z4 : ∀ z : Int, z = (128 + (b : Int)) → wrap64 z = (128 + (b : Int)) := fun z h => h ▸ w64 (128 + (b : Int)) y4
          have z5 := m256 (128 + (b : Int)) y5
          have z7 : ∀ z : Int, z = (128 + (e : Int)) → wrap64 z = (128 + (e : Int)) := fun z h => h ▸ w64 (128 + (e : Int)) y7
          have z8 := m256 (128 + (e : Int)) y8
          have t1 := td64 x a ha
          have t2 := tm64 x b hb
          have t3 := td4096 x d hd
          have t4 := tm64 a e he
          have HE := Lib.hid (And.intro ha (And.intro hb (And.intro hd he)))
          clear ha hb hd he
          go_wp2_with (at_builtin; refine wpList_append_seen _ rfl (.tmp 15) (.tmp 29) _ rfl w.heap.size 5 i0 _ 1 1 Tryd.underlying68 hi0 hz0 hz1 hz2 rfl (by omega) u3 L (Lib.byteCells U) rfl HO2.out (wr.heap.size + 1) (some ⟨wr.heap.size, 0, none⟩) 3 3 (Lib.byteCells (uB x)) rfl HS.out (bc_one _) r1 r2 r3 ?_; intro v2 w2 ho2 hg2 hv2)
          clear t1 t2 t3 t4 z1 z6 z2 z3 z4 z5 z7 z8 y1 y6 y2 y3 y4 y5 y7 y8
          go_roundg (n - (k + 1))
          case measure => omega
          case rel =>
            refine ⟨k + 1, by omega, rfl, by go_num, ?_, (HBB.out.alloc HZ (.cells #[.int .u8 (224 + (d : Int)), .int .u8 (128 + (e : Int)), .int .u8 (128 + (b : Int))] 5)).grown hg2 (by simp; omega) (fun j hj => (own_whole HO.out hj).1)⟩
            rw [HST.out, bc_app, List.length_append, HUL.out, HU2.out]
            exact ho2
    · obtain rfl : k = n := by omega
      have d0 : decide ((k : Int) < (k : Int)) = false := by rw [decide_eq_false_iff_not]; omega
      rw [List.take_of_length_le (by omega)] at ho
      obtain ⟨A2, c2, rfl, _⟩ := own_form ho
      have cv := conv_bytes (Seen.of_own ho)
      go_wp2
      go_ret
      exact ⟨rfl, hb⟩
end Go.Proofs.YtibkdmliolebgaaDoor
