/-
  The walk of LengthsLeast: it answers true, and changes nothing that was there. Conditions: the slice is read as told (Seen).
-/
import Derived.Test.YtijjcecboepiiaaY6
import Derived.Test.YtijjcecboepiiaaF2
import Derived.Test.YtijjcecboepiiaaO1
namespace Go.Proofs.Ytijjcecboepiiaa
open Go.Proofs Go.Shelf Go.RowKit Go.Sort Go.Lib

def TrueBelow (w : World) (e : Ending) (w' : World) : Prop := e = .returned (.bool true) ∧ Below w.heap.size w w'

theorem least_far (A : Option Addr) (n c : Nat) (most : Int) (h : 6 < n ∨ 6 < most) (w : World) : Calls Try.prog 5 #[.slice A n c, .int .i64 most] w (TrueBelow w) := by
  by_cases h1 : 6 < n
  · clear h
    go_enter Try.func5, Try.ntmps5
    go_wp2_with (go_at_call 10; refine (fixed4_any _).mono ?_; rintro e w1 ⟨rfl, hb1⟩; have B1 := Lib.hid hb1; clear hb1)
    go_ret
    exact ⟨rfl, B1.out⟩
  · have h2 : 6 < most := h.resolve_left h1
    have d2 : decide (6 < most) = true := by simpa using h2
    clear h
    go_enter Try.func5, Try.ntmps5
    go_wp2_with (go_at_call 10; refine (fixed4_any _).mono ?_; rintro e w1 ⟨rfl, hb1⟩; have B1 := Lib.hid hb1; clear hb1)
    go_ret
    exact ⟨rfl, B1.out⟩
theorem least_arg (A : Option Addr) (n c : Nat) (most : Int) (hn : n ≤ 6) (h : most < 1) (w : World) : Calls Try.prog 5 #[.slice A n c, .int .i64 most] w (TrueBelow w) := by
  have d2 : decide (6 < most) = false := by simp; omega
  go_enter Try.func5, Try.ntmps5
  go_wp2_with (first
    | (go_at_call 10; refine (fixed4_any _).mono ?_; rintro e w1 ⟨rfl, hb1⟩; have B1 := Lib.hid hb1; clear hb1)
    | (go_at_call 14; refine (right_arg A n c most _ (.inl h)).mono ?_; rintro e w2 ⟨rfl, rfl⟩))
  go_ret
  exact ⟨rfl, B1.out⟩
theorem least_bad (A : Option Addr) (n c : Nat) (lo : List Int) (hn : lo.length = n) (h6 : n ≤ 6) (L : Nat) (hL1 : 1 ≤ L) (hL : L ≤ 6) (w : World) (hs : Seen w w.heap.size 1 A n c (iv lo)) (h : lo.any beyond = true ∨ 2 ^ L < come lo ∨ come lo < 2) : Calls Try.prog 5 #[.slice A n c, .int .i64 L] w (TrueBelow w) := by
  have HS := Lib.hid hs; clear hs
  have HN := Lib.hid hn; clear hn
  have d2 : decide (6 < (L : Int)) = false := by simp; omega
  have hV : rightVal lo L = .tuple #[.int .i64 0, .int .i64 1] ∨ (∃ m : Nat, rightVal lo L = .tuple #[.int .i64 m, .int .i64 4]) ∨ ∃ m : Nat, m < 2 ∧ rightVal lo L = .tuple #[.int .i64 m, .int .i64 0] := by
    unfold rightVal
    by_cases h1 : lo.any beyond = true
    · exact .inl (if_pos h1)
    · rw [if_neg h1]
      by_cases h2 : 2 ^ L < come lo ∨ 512 < lo.length
      · exact .inr (.inl ⟨come lo, by rw [if_pos h2]; rfl⟩)
      · refine .inr (.inr ⟨come lo, ?_, by rw [if_neg h2]; rfl⟩)
        rcases h with h | h | h
        · exact absurd h h1
        · exact absurd (.inl h) h2
        · exact h
  clear h
  have CR : Hid (∀ W, Seen W w.heap.size 1 A n c (iv lo) → Calls Try.prog 14 #[.slice A n c, .int .i64 L] W fun e w' => e = .returned (rightVal lo L) ∧ W = w') := Lib.hid (fun W h => right_go A n c w.heap.size lo HN.out (by omega) L hL1 (by omega) W h)
  rcases hV with e | ⟨m, e⟩ | ⟨m, hm, e⟩
  · rw [e] at CR
    clear e
    go_enter Try.func5, Try.ntmps5
    go_wp2_with (first
      | (go_at_call 10; refine (fixed4_any _).mono ?_; rintro e w1 ⟨rfl, hb1⟩; have B1 := Lib.hid hb1; clear hb1)
      | (go_at_call 14; refine (CR.out _ (HS.out.below B1.out)).mono ?_; rintro e w2 ⟨rfl, rfl⟩))
    go_ret
    exact ⟨rfl, B1.out⟩
  · rw [e] at CR
    clear e
    go_enter Try.func5, Try.ntmps5
    go_wp2_with (first
      | (go_at_call 10; refine (fixed4_any _).mono ?_; rintro e w1 ⟨rfl, hb1⟩; have B1 := Lib.hid hb1; clear hb1)
      | (go_at_call 14; refine (CR.out _ (HS.out.below B1.out)).mono ?_; rintro e w2 ⟨rfl, rfl⟩))
    go_ret
    exact ⟨rfl, B1.out⟩
  · rw [e] at CR
    clear e
    go_enter Try.func5, Try.ntmps5
    go_wp2_with (first
      | (go_at_call 10; refine (fixed4_any _).mono ?_; rintro e w1 ⟨rfl, hb1⟩; have B1 := Lib.hid hb1; clear hb1)
      | (go_at_call 14; refine (CR.out _ (HS.out.below B1.out)).mono ?_; rintro e w2 ⟨rfl, rfl⟩))
    go_ret
    exact ⟨rfl, B1.out⟩

set_option maxRecDepth 100000 in
set_option maxHeartbeats 2000000 in
theorem least_good (A : Option Addr) (n c : Nat) (lo : List Int) (hn : lo.length = n) (h6 : n ≤ 6) (L : Nat) (hL1 : 1 ≤ L) (hL : L ≤ 6) (w : World) (hs : Seen w w.heap.size 1 A n c (iv lo)) (hb : lo.any beyond = false) (hx : come lo ≤ 2 ^ L) (hm : 2 ≤ come lo) : Calls Try.prog 5 #[.slice A n c, .int .i64 L] w (TrueBelow w) := by
  obtain ⟨i0, hi0, hz0, hz1, hz2⟩ := info_parts int_info
  have HZ0 := Lib.hid hz0; clear hz0
  have HZ1 := Lib.hid hz1; clear hz1
  have HZ2 := Lib.hid hz2; clear hz2
  have HI0 := Lib.hid hi0; clear hi0
  have HL := Lib.hid (best_least smallSorter lo L (by omega) (by omega) hb hL1 (by omega) hx hm)
  have HBst : Hid (∀ W, Seen W w.heap.size 1 A n c (iv lo) → w.heap.size ≤ W.heap.size → Calls Try.prog 13 #[.slice A n c, .int .i64 L] W (BestOk smallSorter W lo L n)) := Lib.hid (fun W h1 h2 => best_ok smallSorter A n c w.heap.size lo hn (by omega) (by omega) (by omega) (by omega) L hL1 (by omega) hb hx W h1 h2)
  have HLo : Hid (∀ x ∈ lo, 0 ≤ x ∧ x ≤ 16777216) := Lib.hid (by
    intro x hx
    rw [List.any_eq_false] at hb
    have := hb x hx
    simp [beyond] at this
    omega)
  have CR : Hid (∀ W, Seen W w.heap.size 1 A n c (iv lo) → Calls Try.prog 14 #[.slice A n c, .int .i64 L] W fun e w' => e = .returned (.tuple #[.int .i64 (come lo : Nat), .int .i64 0]) ∧ W = w') := Lib.hid (fun W h => by
    have h1 := right_go A n c w.heap.size lo hn (by omega) L hL1 (by omega) W h
    have e : rightVal lo L = .tuple #[.int .i64 (come lo : Nat), .int .i64 0] := by
      unfold rightVal
      rw [if_neg (by rw [hb]; simp), if_neg (by omega)]
      rfl
    rw [e] at h1
    exact h1)
  have HFl : Hid (∀ i, bestF smallSorter lo L i ≤ 16) := Lib.hid (fun i => bestF_le smallSorter lo L i (by omega) hL1)
  have hcl := come_le lo
  have HS := Lib.hid hs; clear hs
  have HN := Lib.hid hn
  have hm6 : come lo ≤ 6 := by omega
  have HCm : Hid (come lo = (cm lo n).length) := Lib.hid (by unfold come; rw [hn])
  clear hb hn hcl hx
  have d2 : decide (6 < (L : Int)) = false := by simp; omega
  obtain ⟨m, hme⟩ : ∃ m, come lo = m := ⟨_, rfl⟩
  rw [hme] at CR hm hm6 HCm
  clear hme
  obtain ⟨f, hf⟩ : ∃ f, bestF smallSorter lo L = f := ⟨_, rfl⟩
  have HF := Lib.hid hf
  rw [hf] at HL HFl
  clear hf
  go_enter Try.func5, Try.ntmps5
  go_wp2_with fail
  refine (fixed4_any _).mono ?_; rintro e w1 ⟨rfl, hb1⟩; have B1 := Lib.hid hb1; clear hb1
  go_wp2_with fail
  refine (CR.out _ (HS.out.below B1.out)).mono ?_; rintro e w2 ⟨rfl, rfl⟩
  go_wp2_with fail
  go_loopw [7, 9, 38] (fun v _ i wr => ∃ k : Nat, k ≤ n ∧ i = .int .i64 k ∧ wr.ownsRow w.heap.size 3 1 v (cm lo k).length (sv' (wsOf lo (cm lo k))) ∧ Below w.heap.size w wr) (fun _ _ i _ => n - (intOf i).toNat)
  case atStart => exact ⟨0, by omega, rfl, World.ownsRow_nil _ _ _ _, B1.out⟩
  case round =>
    obtain ⟨k, hk, rfl, hown, hbel⟩ := hrel
    have HO := Lib.hid hown; clear hown
    have HB := Lib.hid hbel; clear hbel
    have hck := cm_len lo k
    by_cases hlt : k < n
    · obtain ⟨b, o, rfl, hbB, hc⟩ := (HS.out.below HB.out).int HN.out hlt
      have hkl : k < lo.length := by rw [HN.out]; exact hlt
      have hx0 := (HLo.out _ (List.getElem_mem hkl)).1
      have E : Hid (cm lo (k + 1) = cm lo k ++ if 0 < lo[k] then [k] else []) := Lib.hid (by rw [cm_succ]; simp [List.getD, hkl])
      have EW : Hid (wsOf lo [k] = [(lo[k]).toNat]) := Lib.hid (by simp [wsOf, List.getD, hkl])
      obtain ⟨x, hx⟩ : ∃ x, lo[k] = x := ⟨_, rfl⟩
      rw [hx] at hc E EW hx0
      obtain ⟨y, rfl⟩ := Int.eq_ofNat_of_zero_le hx0
      rw [Int.toNat_natCast] at EW
      clear hx hkl
      by_cases h0 : 0 < y
      · have d0 : decide ((0 : Int) < y) = true := by simp; omega
        rw [if_pos (by omega)] at E
        have hAp : ∀ (v7 : Value) (w7 : World), w7.ownsRow w.heap.size 3 1 v7 ((cm lo k).length + 1) (sv' (wsOf lo (cm lo k)) ++ [.int .i64 (y : Int)]) → (wr.alloc (.cells #[.int .i64 (y : Int)] 3)).grownBy w7 u7.ownBlock → w7.ownsRow w.heap.size 3 1 v7 (cm lo (k + 1)).length (sv' (wsOf lo (cm lo (k + 1)))) ∧ Below w.heap.size w w7 := by
          intro v7 w7 hown7 hg7
          refine ⟨?_, (HB.out.alloc HB.out.size _).grown hg7 (by have := HB.out.size; simp; omega) (fun i hi => (own_whole HO.out hi).1)⟩
          rw [E.out]
          have e : sv' (wsOf lo (cm lo k ++ [k])) = sv' (wsOf lo (cm lo k)) ++ [.int .i64 (y : Int)] := by
            have e2 : wsOf lo (cm lo k ++ [k]) = wsOf lo (cm lo k) ++ wsOf lo [k] := by simp [wsOf]
            rw [e2, EW.out]; simp [sv']
          rw [e, List.length_append]
          exact hown7
        have HAp := Lib.hid hAp; clear hAp
        have hz := HB.out.size
        go_wp2_with (at_builtin; refine wpList_append_seen _ rfl (.tmp 44) (.tmp 46) _ rfl w.heap.size 3 i0 _ 1 8 Try.underlying22 HI0.out HZ0.out HZ1.out HZ2.out rfl (by omega) u7 (cm lo k).length _ rfl (HO.out.alloc _) _ _ 1 1 _ rfl (seen_one _ _ _) (by simp [Value.oneCell']) (by simp only [maxLen]; omega) (by omega) (by simp only [World.size_alloc]; omega) ?_; intro v7 w7 hown7 hg7 hat7; have HR := Lib.hid (HAp.out v7 w7 hown7 hg7); clear hown7 hg7 hat7)
        go_roundw
        case rel => exact ⟨k + 1, by omega, by go_num, HR.out⟩
        case measure => simp [intOf]; omega
      · have d0 : decide ((0 : Int) < y) = false := by simp; omega
        rw [if_neg (by omega), List.append_nil] at E
        go_wp2
        go_roundw
        case rel => exact ⟨k + 1, by omega, by go_num, by rw [E.out]; exact HO.out, HB.out⟩
        case measure => simp [intOf]; omega
    · obtain rfl : k = n := by omega
      have hO := HO.out
      rw [← HCm.out] at hO
      have hO2 : wr.ownsRow w.heap.size 3 1 u7 m (sv' (wsOf lo (cm lo lo.length))) := by rw [HN.out]; exact hO
      obtain ⟨A7, c7, rfl, _, hs7⟩ := own_seen hO2
      have S7 := Lib.hid hs7
      clear hO hO2 hs7 HO
      have hz := HB.out.size
      go_wp2_with fail
      refine (HBst.out wr (HS.out.below HB.out) hz).mono ?_
      rintro e w3 ⟨v3, rfl, ho3, hb3⟩
      rw [HF.out] at ho3
      obtain ⟨A3, c3, rfl, _, hs3⟩ := own_seen ho3
      have S3 := Lib.hid hs3
      have S73 := Lib.hid ((S7.out.below hb3).more hb3.size)
      have B3 := Lib.hid (HB.out.trans (hb3.mono hz))
      clear ho3 hs3 hb3 S7 HB
      have hz3 := B3.out.size
      have SL := Lib.hid ((HS.out.below B3.out).more hz3)
      have HCl := Lib.hid (costTo_le lo f HFl.out (fun x hx => (HLo.out x hx).2))
      go_wp2_with fail
      go_loop [12, 13, 14, 57] (fun sm _ _ i => ∃ q : Nat, q ≤ k ∧ i = .int .i64 q ∧ sm = .int .i64 (costTo lo f q : Nat)) (fun _ _ _ i => k - (intOf i).toNat)
      case atStart => exact ⟨0, by omega, rfl, rfl⟩
      case round =>
        obtain ⟨q, hq, rfl, rfl⟩ := hrel
        have hcl := HCl.out q
        by_cases hlt2 : q < k
        · have hkl : q < lo.length := by rw [HN.out]; exact hlt2
          obtain ⟨b, o, rfl, _, x1⟩ := SL.out.int HN.out hlt2
          obtain ⟨b1, o1, u1, rfl, _, q1, x2⟩ := S3.out.at hlt2
          have hu : u1 = .int .i64 (f q : Nat) := by
            unfold orow at q1
            rw [mr_get _ _ _ hlt2] at q1
            injection q1 with q1; exact q1.symm
          subst hu
          have hx := HLo.out _ (List.getElem_mem hkl)
          have ES : Hid (costTo lo f (q + 1) = costTo lo f q + (lo[q]).toNat * f q) := Lib.hid (by rw [costTo_succ]; simp [List.getD, hkl])
          have hfk := HFl.out q
          obtain ⟨x, hxe⟩ : ∃ x, lo[q] = x := ⟨_, rfl⟩
          rw [hxe] at x1 hx ES
          obtain ⟨y, rfl⟩ := Int.eq_ofNat_of_zero_le hx.1
          rw [Int.toNat_natCast] at ES
          obtain ⟨z, hz⟩ : ∃ z, f q = z := ⟨_, rfl⟩
          rw [hz] at x2 ES hfk
          have hyz : y * z ≤ 16777216 * 16 := Nat.mul_le_mul (by omega) hfk
          obtain ⟨yz, hyze⟩ : ∃ yz, y * z = yz := ⟨_, rfl⟩
          have e1 : (y : Int) * (z : Int) = yz := by rw [← hyze]; simp
          rw [hyze] at ES hyz
          obtain ⟨C, hC⟩ : ∃ C, costTo lo f q = C := ⟨_, rfl⟩
          rw [hC] at ES hcl ⊢
          clear hC hyze hz hxe q1 hkl hx
          go_wp2
          go_round
          case rel => exact ⟨q + 1, by omega, by go_num, by rw [ES.out]; go_num⟩
          case measure => simp [intOf]; omega
        · obtain rfl : q = k := by omega
          have CLe := Lib.hid (least_any m A7 c7 w3.heap.size L (wsOf lo (cm lo lo.length)) (by rw [HCm.out]; simp [wsOf, HN.out]) (by omega) (by omega) (by
            intro x hx
            simp only [wsOf, List.mem_map] at hx
            obtain ⟨s, hs, rfl⟩ := hx
            have h1 := cm_mem lo _ s hs
            have := HLo.out _ (List.getElem_mem h1)
            simp [List.getD, h1]; omega) w3 S73.out)
          rw [HL.out, HN.out] at CLe
          have CCo := Lib.hid (cost_any A A3 q c c3 w3.heap.size lo f HN.out (by omega) HFl.out HLo.out w3 SL.out S3.out)
          obtain ⟨C, hC⟩ : ∃ C, costTo lo f q = C := ⟨_, rfl⟩
          rw [hC] at CLe CCo hcl ⊢
          clear hC
          go_wp2_with (first
            | (go_at_call 15; refine CLe.out.mono ?_; rintro e w4 ⟨rfl, rfl⟩)
            | (go_at_call 16; refine CCo.out.mono ?_; rintro e w5 ⟨rfl, mm, rfl⟩))
          go_ret
          exact ⟨by simp, ⟨B3.out.os, B3.out.tape, B3.out.output, B3.out.size, B3.out.block⟩⟩

theorem least_law (A : Option Addr) (n c : Nat) (_ : n ≤ 9223372036854775807) (most : Int) (_ : (Lit.int .i64 most).wf = true) (w : World) (hp : ∃ l : List Int, l.length = n ∧ (∀ y ∈ l, -9223372036854775808 ≤ y ∧ y < 9223372036854775808) ∧ Seen w w.heap.size 1 A n c (iv l)) :
    Calls Try.prog 5 #[.slice A n c, .int .i64 most] w fun e w' => e = .returned (.bool true) ∧ Below w.heap.size w w' := by
  obtain ⟨lo, h1, _, h2⟩ := hp
  by_cases hf : 6 < n ∨ 6 < most
  · exact least_far A n c most hf w
  by_cases ha : most < 1
  · exact least_arg A n c most (by omega) ha w
  obtain ⟨L, rfl⟩ := Int.eq_ofNat_of_zero_le (show 0 ≤ most by omega)
  by_cases hb : lo.any beyond = true ∨ 2 ^ L < come lo ∨ come lo < 2
  · exact least_bad A n c lo h1 (by omega) L (by omega) (by omega) w h2 hb
  · exact least_good A n c lo h1 (by omega) L (by omega) (by omega) w h2 (by simpa using fun h => hb (.inl h)) (Nat.le_of_not_lt fun h => hb (.inr (.inl h))) (Nat.le_of_not_lt fun h => hb (.inr (.inr h)))
end Go.Proofs.Ytijjcecboepiiaa
