/-
  The program's appendUnit and Bytes. Conditions: at most a million units.
-/
import Derived.Test.YtdfliogomkpceaaDoorWA
namespace Go.Proofs.YtdfliogomkpceaaDoor
open Go Go.RowKit
set_option maxRecDepth 100000

set_option maxHeartbeats 8000000 in
theorem appendUnit_any (x : Nat) (hx : x < 65536) (B : Nat) (v : Value) (L : Nat) (xs : List Value) (w : World) (ho : w.ownsRow B 5 1 v L xs) (hB : B ≤ w.heap.size) (hL : L ≤ 10000000) :
    Calls Tryd.prog 25 #[v, .int .u16 (x : Int)] w fun e w' => ∃ v', e = .returned v' ∧ w'.ownsRow B 5 1 v' (L + (uB x).length) (xs ++ Lib.byteCells (uB x)) ∧ Below B w w' := by
  obtain ⟨i0, hi0, hz0, hz1, hz2⟩ := info_parts byte_info
  obtain ⟨A4, c4, rfl, _⟩ := own_form ho
  have HO := Lib.hid ho
  have CS := Lib.hid (fun W => size_any x W)
  have hsz := szN_len x hx
  clear ho
  obtain ⟨b, hb⟩ : ∃ q, x % 64 = q := ⟨_, rfl⟩
  have ab := a16_63 x b hx hb
  have ob := o16_128 b (by omega)
  have wb : ∀ z : Int, z = 128 + (b : Int) → IntKind.u8.wrap z = 128 + (b : Int) := fun z h => h ▸ IntWalk.u8_in _ (by omega)
  have wb2 : (128 + (b : Int)) % 256 = 128 + (b : Int) := by omega
  by_cases h1 : 1 ≤ x ∧ x < 128
  · have hub : uB x = [x].map UInt8.ofNat := by rw [uB, if_pos h1]; rfl
    have hs1 : szN x = 1 := by rw [← hsz, hub]; rfl
    rw [hs1] at CS
    have u1 : IntKind.u8.wrap (x : Int) = x := IntWalk.u8_in _ (by omega)
    have hcs : (#[.int .u8 ((x : Nat))] : Array Value).toList = Lib.byteCells (uB x) := by rw [hub, bc_nats _ (by intro y hy; simp at hy; omega)]; simp
    have hub2 : (uB x).length = 1 := by rw [hub]; rfl
    have HS := Lib.hid (seen_new w 5 (Lib.byteCells (uB x)) 1 (by rw [Lib.byteCells_length, hub2]) #[.int .u8 ((x : Nat))] hcs)
    have BB := Lib.hid ((Below.refl w.heap.size w).alloc (Nat.le_refl _) (.cells #[.int .u8 ((x : Nat))] 5))
    have HO2 := Lib.hid (own_only HO.out (Only.of_below BB.out Nob) (fun _ _ h => h))
    have HU2 := Lib.hid hub2
    have r1 : L + 1 ≤ maxLen := by simp [maxLen]; omega
    have r2 : (L + 1) * 1 ≤ 140737488355328 := by omega
    have r3 : B ≤ (w.alloc (.cells #[.int .u8 ((x : Nat))] 5)).heap.size := by rw [World.size_alloc]; omega
    clear hub hcs hub2 hsz hs1 hb
    go_enter Tryd.func25, Tryd.ntmps25
    go_wp2_with fail
    refine (CS.out _).mono ?_
    rintro e w1 ⟨rfl, rfl⟩
    go_wp2_with (at_builtin; refine wpList_append_seen _ rfl (.tmp 14) (.tmp 17) _ rfl B 5 i0 _ 1 1 Tryd.underlying41 hi0 hz0 hz1 hz2 rfl (by omega) (.slice A4 L c4) L xs rfl HO2.out (w.heap.size + 1) (some ⟨w.heap.size, 0, none⟩) 1 1 (Lib.byteCells (uB x)) rfl HS.out (bc_one _) r1 r2 r3 ?_; intro v2 w2 ho2 hg2 hv2)
    go_ret
    refine ⟨_, rfl, ?_, ((Below.refl B w).alloc hB _).grown hg2 r3 (fun j hj => (own_whole HO.out hj).1)⟩
    rw [HU2.out]; exact ho2
  · obtain ⟨a, ha⟩ : ∃ a, x / 64 = a := ⟨_, rfl⟩
    obtain ⟨d, hd⟩ : ∃ a, x / 4096 = a := ⟨_, rfl⟩
    obtain ⟨e, he⟩ : ∃ e, a % 64 = e := ⟨_, rfl⟩
    by_cases h2 : x < 2048
    · have hub : uB x = [192 + a, 128 + b].map UInt8.ofNat := by rw [uB, if_neg h1, if_pos h2, ha, hb]; rfl
      have hs1 : szN x = 2 := by rw [← hsz, hub]; rfl
      rw [hs1] at CS
      have oa := o16_192 a (by omega)
      have wa : ∀ z : Int, z = 192 + (a : Int) → IntKind.u8.wrap z = 192 + (a : Int) := fun z h => h ▸ IntWalk.u8_in _ (by omega)
      have wa2 : (192 + (a : Int)) % 256 = 192 + (a : Int) := by omega
      have sa : (x : Int) / 64 = (a : Int) := by omega
      have hcs : (#[.int .u8 (192 + (a : Int)), .int .u8 (128 + (b : Int))] : Array Value).toList = Lib.byteCells (uB x) := by rw [hub, bc_nats _ (by intro y hy; simp at hy; omega)]; simp
      have hub2 : (uB x).length = 2 := by rw [hub]; rfl
      have HS := Lib.hid (seen_new w 5 (Lib.byteCells (uB x)) 2 (by rw [Lib.byteCells_length, hub2]) #[.int .u8 (192 + (a : Int)), .int .u8 (128 + (b : Int))] hcs)
      have BB := Lib.hid ((Below.refl w.heap.size w).alloc (Nat.le_refl _) (.cells #[.int .u8 (192 + (a : Int)), .int .u8 (128 + (b : Int))] 5))
      have HO2 := Lib.hid (own_only HO.out (Only.of_below BB.out Nob) (fun _ _ h => h))
      have HU2 := Lib.hid hub2
      have r1 : L + 2 ≤ maxLen := by simp [maxLen]; omega
      have r2 : (L + 2) * 1 ≤ 140737488355328 := by omega
      have r3 : B ≤ (w.alloc (.cells #[.int .u8 (192 + (a : Int)), .int .u8 (128 + (b : Int))] 5)).heap.size := by rw [World.size_alloc]; omega
      clear hub hcs hub2 hsz hs1 hb ha hd he h1 h2
      go_enter Tryd.func25, Tryd.ntmps25
      go_wp2_with fail
      refine (CS.out _).mono ?_
      rintro e w1 ⟨rfl, rfl⟩
      go_wp2_with (at_builtin; refine wpList_append_seen _ rfl (.tmp 21) (.tmp 27) _ rfl B 5 i0 _ 1 1 Tryd.underlying41 hi0 hz0 hz1 hz2 rfl (by omega) (.slice A4 L c4) L xs rfl HO2.out (w.heap.size + 1) (some ⟨w.heap.size, 0, none⟩) 2 2 (Lib.byteCells (uB x)) rfl HS.out (bc_one _) r1 r2 r3 ?_; intro v2 w2 ho2 hg2 hv2)
      go_ret
      refine ⟨_, rfl, ?_, ((Below.refl B w).alloc hB _).grown hg2 r3 (fun j hj => (own_whole HO.out hj).1)⟩
      rw [HU2.out]; exact ho2
    · have hub : uB x = [224 + d, 128 + e, 128 + b].map UInt8.ofNat := by rw [uB, if_neg h1, if_neg h2, hd, ha, he, hb]; rfl
      have hs1 : szN x = 3 := by rw [← hsz, hub]; rfl
      rw [hs1] at CS
      have od := o16_224 d (by omega)
      have wd : ∀ z : Int, z = 224 + (d : Int) → IntKind.u8.wrap z = 224 + (d : Int) := fun z h => h ▸ IntWalk.u8_in _ (by omega)
      have wd2 : (224 + (d : Int)) % 256 = 224 + (d : Int) := by omega
      have oe := o16_128 e (by omega)
      have we : ∀ z : Int, z = 128 + (e : Int) → IntKind.u8.wrap z = 128 + (e : Int) := fun z h => h ▸ IntWalk.u8_in _ (by omega)
      have we2 : (128 + (e : Int)) % 256 = 128 + (e : Int) := by omega
      have sa : (x : Int) / 64 = (a : Int) := by omega
      have sd : (x : Int) / 4096 = (d : Int) := by omega
      have ae := a16_63 a e (by omega) he
      have hcs : (#[.int .u8 (224 + (d : Int)), .int .u8 (128 + (e : Int)), .int .u8 (128 + (b : Int))] : Array Value).toList = Lib.byteCells (uB x) := by rw [hub, bc_nats _ (by intro y hy; simp at hy; omega)]; simp
      have hub2 : (uB x).length = 3 := by rw [hub]; rfl
      have HS := Lib.hid (seen_new w 5 (Lib.byteCells (uB x)) 3 (by rw [Lib.byteCells_length, hub2]) #[.int .u8 (224 + (d : Int)), .int .u8 (128 + (e : Int)), .int .u8 (128 + (b : Int))] hcs)
      have BB := Lib.hid ((Below.refl w.heap.size w).alloc (Nat.le_refl _) (.cells #[.int .u8 (224 + (d : Int)), .int .u8 (128 + (e : Int)), .int .u8 (128 + (b : Int))] 5))
      have HO2 := Lib.hid (own_only HO.out (Only.of_below BB.out Nob) (fun _ _ h => h))
      have HU2 := Lib.hid hub2
      have r1 : L + 3 ≤ maxLen := by simp [maxLen]; omega
      have r2 : (L + 3) * 1 ≤ 140737488355328 := by omega
      have r3 : B ≤ (w.alloc (.cells #[.int .u8 (224 + (d : Int)), .int .u8 (128 + (e : Int)), .int .u8 (128 + (b : Int))] 5)).heap.size := by rw [World.size_alloc]; omega
      clear hub hcs hub2 hsz hs1 hb ha hd he h1 h2
      go_enter Tryd.func25, Tryd.ntmps25
      go_wp2_with fail
      refine (CS.out _).mono ?_
      rintro e w1 ⟨rfl, rfl⟩
      go_wp2_with (at_builtin; refine wpList_append_seen _ rfl (.tmp 29) (.tmp 40) _ rfl B 5 i0 _ 1 1 Tryd.underlying41 hi0 hz0 hz1 hz2 rfl (by omega) (.slice A4 L c4) L xs rfl HO2.out (w.heap.size + 1) (some ⟨w.heap.size, 0, none⟩) 3 3 (Lib.byteCells (uB x)) rfl HS.out (bc_one _) r1 r2 r3 ?_; intro v2 w2 ho2 hg2 hv2)
      go_ret
      refine ⟨_, rfl, ?_, ((Below.refl B w).alloc hB _).grown hg2 r3 (fun j hj => (own_whole HO.out hj).1)⟩
      rw [HU2.out]; exact ho2

set_option maxHeartbeats 8000000 in
theorem pBytes_any (l : List Nat) (hl : ∀ x ∈ l, x < 65536) (A : Option Addr) (n c B : Nat) (hn : l.length = n) (hs : n ≤ 1000000) (w : World) (hA : Seen w B 1 A n c (uv l)) (hB : B ≤ w.heap.size) :
    Calls Tryd.prog 14 #[.slice A n c] w (Gives w (.string (tx (uBs l)))) := by
  have HA := Lib.hid hA
  clear hA
  go_enter Tryd.func14, Tryd.ntmps14
  go_wp2
  go_loopg [3, 8] n (fun j v i wr => ∃ k : Nat, k ≤ n ∧ j = n - k ∧ i = .int .i64 k ∧ wr.ownsRow w.heap.size 5 1 v (uBs (l.take k)).length (Lib.byteCells (uBs (l.take k))) ∧ Below w.heap.size w wr)
  case atStart => exact ⟨0, by omega, rfl, rfl, World.ownsRow_nil _ _ _ _, Below.refl _ _⟩
  case round =>
    obtain ⟨k, hk, rfl, rfl, ho, hb⟩ := hrel
    obtain ⟨wo, rfl⟩ : ∃ W, W = wr := ⟨_, rfl⟩
    by_cases hlt : k < n
    · have hkl : k < l.length := by omega
      obtain ⟨bk, o, u, rfl, hbk, hu, hcell⟩ := (HA.out.below (hb.mono hB)).at hlt
      have hx6 : l[k] < 65536 := hl _ (List.getElem_mem hkl)
      obtain rfl : u = .int .u16 (l[k] : Nat) := by
        have h := uv_at l k hkl
        exact (Option.some.inj (h.symm.trans hu)).symm
      have hst : uBs (l.take (k + 1)) = uBs (l.take k) ++ uB l[k] := by rw [take_next l k hkl, uBs_snoc]
      have hle : (uBs (l.take k)).length ≤ 3 * k := by have := uBs_le (l.take k); rw [List.length_take] at this; omega
      clear hu
      obtain ⟨x, hx⟩ : ∃ x, l[k] = x := ⟨_, rfl⟩
      rw [hx] at hcell hst hx6
      obtain ⟨U, hU⟩ : ∃ U, uBs (l.take k) = U := ⟨_, rfl⟩
      obtain ⟨L, hL⟩ : ∃ L, U.length = L := ⟨_, rfl⟩
      rw [hU] at ho hst hle
      rw [hL] at ho hle
      have hzb := hb.size
      have CA := Lib.hid (appendUnit_any x hx6 w.heap.size _ L _ wo ho hzb (by omega))
      have HBB := Lib.hid hb
      have HUL := Lib.hid hL
      have HST := Lib.hid hst
      have d0 : decide ((k : Int) < (n : Int)) = true := by rw [decide_eq_true_iff]; omega
      clear ho hb hx hU hL hst
      go_wp2_with fail
      refine CA.out.mono ?_
      rintro e w2 ⟨v2, rfl, ho2, hb2⟩
      go_wp2_with fail
      go_roundg (n - (k + 1))
      case measure => omega
      case rel =>
        refine ⟨k + 1, by omega, rfl, by go_num, ?_, HBB.out.trans hb2⟩
        rw [HST.out, bc_app, List.length_append, HUL.out]
        exact ho2
    · obtain rfl : k = n := by omega
      have d0 : decide ((k : Int) < (k : Int)) = false := by rw [decide_eq_false_iff_not]; omega
      rw [List.take_of_length_le (by omega)] at ho
      obtain ⟨A2, c2, rfl, _⟩ := own_form ho
      have cv := conv_bytes (Seen.of_own ho)
      go_wp2
      go_ret
      exact ⟨rfl, hb⟩
end Go.Proofs.YtdfliogomkpceaaDoor
