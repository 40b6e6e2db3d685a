/-
  Contracts: the document's Least; lengths.Cost; which lengths may be asked for. Conditions: at most a thousand signs.
-/
import Derived.Test.YtijjcecboepiiaaK6
import Derived.Test.YtijjcecboepiiaaY5
namespace Go.Proofs.Ytijjcecboepiiaa
open Go.Proofs Go.Shelf Go.RowKit Go.Sort Go.Lib

def TryAt (n : Nat) (A : Option Addr) (c most : Nat) (xs : List Nat) (w : World) (i : Nat) : Prop :=
  ∀ (used : Nat) (best : Int), used ≤ 32768 → Calls Try.prog 38 #[.slice A n c, .int .i64 most, .int .i64 i, .int .i64 used, .int .i64 best] w fun e w' => e = .returned (.int .i64 (tryF most (xs.drop i) used)) ∧ w = w'

set_option maxHeartbeats 1000000 in
set_option maxRecDepth 10000 in
theorem try_end (n : Nat) (A : Option Addr) (c most : Nat) (xs : List Nat) (hn : xs.length = n) (w : World) : TryAt n A c most xs w n := by
  intro used best hu
  rw [List.drop_of_length_le (by omega)]
  simp only [tryF]
  by_cases h : used = 32768
  · subst h
    rw [if_pos rfl]
    go_enter Try.func38, Try.ntmps38
    go_wp2_with fail
    go_ret
    exact ⟨rfl, rfl⟩
  · rw [if_neg h]
    have d : ((used : Int) == 32768) = false := by simp; omega
    go_enter Try.func38, Try.ntmps38
    go_wp2_with fail
    go_ret
    exact ⟨rfl, rfl⟩

theorem half_pow (k : Nat) (h : k < 15) : ((2 ^ (15 - k) : Nat) : Int) / 2 = ((2 ^ (15 - (k + 1)) : Nat) : Int) := by
  rw [show 15 - k = (15 - (k + 1)) + 1 by omega, Nat.pow_succ]
  have : (((2 ^ (15 - (k + 1)) * 2 : Nat)) : Int) = ((2 ^ (15 - (k + 1)) : Nat) : Int) * 2 := by simp
  rw [this]
  omega

set_option maxHeartbeats 2000000 in
set_option maxRecDepth 10000 in
theorem try_step (n : Nat) (A : Option Addr) (c B most : Nat) (xs : List Nat) (hn : xs.length = n) (hn2 : n ≤ 1000) (hm : most ≤ 15) (hx : ∀ x ∈ xs, x ≤ 16777216) (w : World) (hs : Seen w B 1 A n c (sv' xs)) (i : Nat) (hi : i < n) (ih : TryAt n A c most xs w (i + 1)) : TryAt n A c most xs w i := by
  intro used best hu
  have HI := Lib.hid ih; clear ih
  have hil : i < xs.length := by omega
  obtain ⟨b, o, u, rfl, _, q, x1⟩ := hs.at hi
  have hu1 : u = .int .i64 (xs[i] : Nat) := by
    unfold sv' at q
    rw [List.getElem?_map, List.getElem?_eq_getElem hil] at q
    simpa using q.symm
  subst hu1
  rw [List.drop_eq_getElem_cons hil]
  simp only [tryF]
  have hxb := hx _ (List.getElem_mem hil)
  have HLe : Hid (∀ u, tryF most (xs.drop (i + 1)) u ≤ 251658240000) := Lib.hid (fun u => by
    have h1 := tryF_le most hm (xs.drop (i + 1)) u (fun x h => hx x (List.mem_of_mem_drop h))
    rw [List.length_drop] at h1
    omega)
  have HGe := Lib.hid (fun u => tryF_ge most (xs.drop (i + 1)) u)
  obtain ⟨x, hxe⟩ : ∃ x, xs[i] = x := ⟨_, rfl⟩
  rw [hxe] at x1 hxb ⊢
  obtain ⟨f, hf⟩ : ∃ f, tryF most (xs.drop (i + 1)) = f := ⟨_, rfl⟩
  have HF := Lib.hid hf
  rw [hf] at HLe HGe ⊢
  have HLL : Hid (∀ k, k ≤ 15 → tryL x f used k ≤ 251909898240) := Lib.hid (fun k hk => by
    have := tryL_le x 251658240000 hxb f (fun u => by have := HLe.out u; omega) used k hk
    omega)
  have HLG := Lib.hid (tryL_ge x f used)
  have CI : Hid (∀ (u : Nat) (best : Int), u ≤ 32768 → Calls Try.prog 38 #[.slice (some ⟨b, o, none⟩) n c, .int .i64 most, .int .i64 ((i : Int) + 1), .int .i64 u, .int .i64 best] w fun e w' => e = .returned (.int .i64 (f u)) ∧ w = w') := Lib.hid (by
    intro u best h
    have := HI.out u best h
    rw [HF.out] at this
    exact this)
  have HT : Hid (tryL x f used most = tryL x f used most) := Lib.hid rfl
  have di : ((i : Int) == n) = false := by simp; omega
  have di' : (i == n) = false := by simp; omega
  clear hf hxe q hs hx hil HI hn
  go_enter Try.func38, Try.ntmps38
  go_wp2_with fail
  go_loop [11, 12, 13, 14] (fun le wg j _ => ∃ k z : Nat, k ≤ most ∧ j = .int .i64 (k + 1 : Nat) ∧ wg = .int .i64 (z : Nat) ∧ (k < 15 → z = 2 ^ (15 - (k + 1))) ∧ le = .int .i64 (tryL x f used k)) (fun _ _ j _ => most + 1 - (intOf j).toNat)
  case atStart => exact ⟨0, 16384, by omega, rfl, rfl, fun _ => rfl, rfl⟩
  case round =>
    obtain ⟨k, z, hk, rfl, rfl, hz, rfl⟩ := hrel
    obtain ⟨j, hj⟩ : ∃ j, k + 1 = j := ⟨_, rfl⟩
    have hLG := HLG.out k
    have hLL := HLL.out k (by omega)
    by_cases hlt : k < most
    · have hz' := hz (by omega)
      have hz1 : 1 ≤ z := by rw [hz']; exact Nat.two_pow_pos _
      have hz2 : z ≤ 16384 := by rw [hz']; exact Nat.pow_le_pow_right (n := 2) (i := 15 - (k + 1)) (j := 14) (by omega) (by omega)
      have ES : Hid (tryL x f used j = if used + z ≤ 32768 ∧ 0 ≤ f (used + z) ∧ (tryL x f used k < 0 ∨ f (used + z) + x * (j : Nat) < tryL x f used k) then f (used + z) + x * (j : Nat) else tryL x f used k) := Lib.hid (by
        rw [← hj, hz']; rfl)
      have HZn : Hid (∃ z2 : Nat, (z : Int) / 2 = (z2 : Nat) ∧ (k + 1 < 15 → z2 = 2 ^ (15 - (k + 1 + 1)))) := Lib.hid (by
        refine ⟨z / 2, by omega, fun h => ?_⟩
        have := half_pow (k + 1) h
        rw [← hz'] at this
        omega)
      obtain ⟨z2, e2, hz3⟩ := HZn.out
      have HZ3 := Lib.hid hz3
      have hxn : x * j ≤ 16777216 * 15 := Nat.mul_le_mul hxb (by omega)
      obtain ⟨xn, hxe⟩ : ∃ xn, x * j = xn := ⟨_, rfl⟩
      have e1 : (x : Int) * (j : Int) = xn := by rw [← hxe]; simp
      rw [hxe] at hxn
      rw [hj]
      rw [e1] at ES
      obtain ⟨T, hT⟩ : ∃ T, tryL x f used k = T := ⟨_, rfl⟩
      rw [hT] at ES hLG hLL ⊢
      clear hz hz' hT hxe hz3 HZn
      by_cases hu2 : used + z ≤ 32768
      · have hu3 : decide ((used : Int) + z ≤ 32768) = true := by simp; omega
        have hFl := HLe.out (used + z)
        have hFg := HGe.out (used + z)
        have CI2 := Lib.hid (CI.out (used + z) best hu2)
        obtain ⟨R, hR⟩ : ∃ R, f (used + z) = R := ⟨_, rfl⟩
        rw [hR] at ES hFl hFg CI2
        have ew : ((used + z : Nat) : Int) = (used : Int) + z := by simp
        rw [ew] at CI2
        clear hR ew
        by_cases h4 : 0 ≤ R
        · have d4 : decide (0 ≤ R) = true := by simpa using h4
          by_cases h5 : T < 0
          · have d5 : decide (T < 0) = true := by simpa using h5
            have HS2 : Hid (tryL x f used j = R + xn) := Lib.hid (by rw [ES.out, if_pos ⟨hu2, h4, .inl h5⟩])
            clear ES
            go_wp2_with (go_at_call 38; refine CI2.out.mono ?_; rintro e w1 ⟨rfl, rfl⟩)
            go_round
            case rel => exact ⟨j, z2, by omega, by go_num, rfl, (by rw [hj] at HZ3; exact HZ3.out), by rw [HS2.out]⟩
            case measure => simp [intOf]; omega
          · have d5 : decide (T < 0) = false := by simpa using h5
            by_cases h6 : R + xn < T
            · have d6 : decide (R + (xn : Int) < T) = true := by simpa using h6
              have HS2 : Hid (tryL x f used j = R + xn) := Lib.hid (by rw [ES.out, if_pos ⟨hu2, h4, .inr h6⟩])
              clear ES
              go_wp2_with (go_at_call 38; refine CI2.out.mono ?_; rintro e w1 ⟨rfl, rfl⟩)
              go_round
              case rel => exact ⟨j, z2, by omega, by go_num, rfl, (by rw [hj] at HZ3; exact HZ3.out), by rw [HS2.out]⟩
              case measure => simp [intOf]; omega
            · have d6 : decide (R + (xn : Int) < T) = false := by simpa using h6
              have HS2 : Hid (tryL x f used j = T) := Lib.hid (by rw [ES.out, if_neg (by omega)])
              clear ES
              go_wp2_with (go_at_call 38; refine CI2.out.mono ?_; rintro e w1 ⟨rfl, rfl⟩)
              go_round
              case rel => exact ⟨j, z2, by omega, by go_num, rfl, (by rw [hj] at HZ3; exact HZ3.out), by rw [HS2.out]⟩
              case measure => simp [intOf]; omega
        · have d4 : decide (0 ≤ R) = false := by simpa using h4
          have HS2 : Hid (tryL x f used j = T) := Lib.hid (by rw [ES.out, if_neg (by omega)])
          clear ES
          go_wp2_with (go_at_call 38; refine CI2.out.mono ?_; rintro e w1 ⟨rfl, rfl⟩)
          go_round
          case rel => exact ⟨j, z2, by omega, by go_num, rfl, (by rw [hj] at HZ3; exact HZ3.out), by rw [HS2.out]⟩
          case measure => simp [intOf]; omega
      · have hu3 : decide ((used : Int) + z ≤ 32768) = false := by simp; omega
        have HS2 : Hid (tryL x f used j = T) := Lib.hid (by rw [ES.out, if_neg (by omega)])
        clear ES
        go_wp2_with fail
        go_round
        case rel => exact ⟨j, z2, by omega, by go_num, rfl, (by rw [hj] at HZ3; exact HZ3.out), by rw [HS2.out]⟩
        case measure => simp [intOf]; omega
    · have ek : Hid (k = most) := Lib.hid (by omega)
      rw [hj]
      obtain ⟨T, hT⟩ : ∃ T, tryL x f used k = T := ⟨_, rfl⟩
      rw [hT]
      have HT2 := Lib.hid hT
      clear hT hz
      go_wp2_with fail
      go_ret
      exact ⟨by rw [← HT2.out, ek.out]; rfl, rfl⟩

theorem try_any (n : Nat) (A : Option Addr) (c B most : Nat) (xs : List Nat) (hn : xs.length = n) (hn2 : n ≤ 1000) (hm : most ≤ 15) (hx : ∀ x ∈ xs, x ≤ 16777216) (w : World) (hs : Seen w B 1 A n c (sv' xs)) : ∀ d i, i + d = n → TryAt n A c most xs w i := by
  intro d
  induction d with
  | zero => intro i hi; obtain rfl : i = n := by omega
            exact try_end i A c most xs hn w
  | succ d ih => exact fun i hi => try_step n A c B most xs hn hn2 hm hx w hs i (by omega) (ih (i + 1) (by omega))
theorem least_any (n : Nat) (A : Option Addr) (c B most : Nat) (xs : List Nat) (hn : xs.length = n) (hn2 : n ≤ 1000) (hm : most ≤ 15) (hx : ∀ x ∈ xs, x ≤ 16777216) (w : World) (hs : Seen w B 1 A n c (sv' xs)) :
    Calls Try.prog 15 #[.slice A n c, .int .i64 most] w fun e w' => e = .returned (.int .i64 (tryF most xs 0)) ∧ w = w' := by
  have h := try_any n A c B most xs hn hn2 hm hx w hs n 0 (by omega) 0 4611686018427387904 (by omega)
  rw [List.drop_zero] at h
  have HC := Lib.hid h
  clear h hs hx
  generalize tryF most xs 0 = r at HC ⊢
  go_enter Try.func15, Try.ntmps15
  go_wp2_with (go_at_call 38; refine HC.out.mono ?_; rintro e w1 ⟨rfl, rfl⟩)
  go_ret
  exact ⟨rfl, rfl⟩

/-- Costs of the first k. -/
def costTo (lo : List Int) (f : Nat → Nat) (k : Nat) : Nat := sumTo k fun i => (lo.getD i 0).toNat * f i
theorem costTo_succ (lo : List Int) (f : Nat → Nat) (k : Nat) : costTo lo f (k + 1) = costTo lo f k + (lo.getD k 0).toNat * f k := sumTo_succ _ _
theorem costTo_le (lo : List Int) (f : Nat → Nat) (hf : ∀ i, f i ≤ 16) (hlo : ∀ x ∈ lo, x ≤ 16777216) : ∀ k, costTo lo f k ≤ 268435456 * k
  | 0 => by simp [costTo, sumTo_zero]
  | k + 1 => by
    rw [costTo_succ]
    have ih := costTo_le lo f hf hlo k
    have h1 : (lo.getD k 0).toNat ≤ 16777216 := by
      by_cases h : k < lo.length
      · have := hlo _ (List.getElem_mem h)
        simp [List.getD, h]; omega
      · simp [List.getD, List.getElem?_eq_none (Nat.le_of_not_lt h)]
    have h2 : (lo.getD k 0).toNat * f k ≤ 16777216 * 16 := Nat.mul_le_mul h1 (hf k)
    omega

set_option maxHeartbeats 1000000 in
theorem cost_any (A A1 : Option Addr) (n c c1 B : Nat) (lo : List Int) (f : Nat → Nat) (hn : lo.length = n) (hl : n ≤ 1000) (hf : ∀ i, f i ≤ 16) (hlo : ∀ x ∈ lo, 0 ≤ x ∧ x ≤ 16777216) (w : World) (hs : Seen w B 1 A n c (iv lo)) (hs1 : Seen w B 1 A1 n c1 (orow n f)) :
    Calls Try.prog 16 #[.slice A n c, .slice A1 n c1] w fun e w' => e = .returned (.int .i64 (costTo lo f n : Nat)) ∧ ∃ m, w' = w.drewN m := by
  have HS := Lib.hid hs; clear hs
  have HS1 := Lib.hid hs1; clear hs1
  have HN := Lib.hid hn; clear hn
  have HLo := Lib.hid hlo; clear hlo
  have HF := Lib.hid hf; clear hf
  have HCl := Lib.hid (costTo_le lo f HF.out (fun x hx => (HLo.out x hx).2))
  go_enter Try.func16, Try.ntmps16
  go_wp2_with fail
  go_loopw [5, 6, 12] (fun sm _ i wr => ∃ k m : Nat, k ≤ n ∧ i = .int .i64 k ∧ sm = .int .i64 (costTo lo f k : Nat) ∧ wr = w.drewN m) (fun _ _ i _ => n - (intOf i).toNat)
  case atStart => exact ⟨0, 0, by omega, rfl, rfl, rfl⟩
  case round =>
    obtain ⟨k, m, hk, rfl, rfl, rfl⟩ := hrel
    have hcl := HCl.out k
    by_cases hlt : k < n
    · have hkl : k < lo.length := by rw [HN.out]; exact hlt
      obtain ⟨b, o, rfl, _, x1⟩ := HS.out.int HN.out hlt
      obtain ⟨b1, o1, u1, rfl, _, q1, x2⟩ := HS1.out.at hlt
      have hu : u1 = .int .i64 (f k : Nat) := by
        unfold orow at q1
        rw [mr_get _ _ _ hlt] at q1
        injection q1 with q1; exact q1.symm
      subst hu
      have hx := HLo.out _ (List.getElem_mem hkl)
      have ES : Hid (costTo lo f (k + 1) = costTo lo f k + (lo[k]).toNat * f k) := Lib.hid (by rw [costTo_succ]; simp [List.getD, hkl])
      have hfk := HF.out k
      obtain ⟨x, hxe⟩ : ∃ x, lo[k] = x := ⟨_, rfl⟩
      rw [hxe] at x1 hx ES
      obtain ⟨y, rfl⟩ := Int.eq_ofNat_of_zero_le hx.1
      rw [Int.toNat_natCast] at ES
      obtain ⟨z, hz⟩ : ∃ z, f k = z := ⟨_, rfl⟩
      rw [hz] at x2 ES hfk
      have hyz : y * z ≤ 16777216 * 16 := Nat.mul_le_mul (by omega) hfk
      obtain ⟨yz, hyze⟩ : ∃ yz, y * z = yz := ⟨_, rfl⟩
      have e1 : (y : Int) * (z : Int) = yz := by rw [← hyze]; simp
      rw [hyze] at ES hyz
      obtain ⟨C, hC⟩ : ∃ C, costTo lo f k = C := ⟨_, rfl⟩
      rw [hC] at ES hcl ⊢
      have w1 : IntKind.i64.wrap (yz : Int) = yz := IntWalk.i64_in _ (by omega)
      have w2 : IntKind.i64.wrap ((C : Int) + yz) = (C : Int) + yz := IntWalk.i64_in _ (by omega)
      have k0 : (0 : Int) ≤ k := by omega
      have kn : (k : Int) < n := by omega
      clear hC hyze hz hxe q1 hkl hx
      go_wp2_with fail
      go_quiet (fail)
      go_wp2_with fail
      go_roundw
      case rel => exact ⟨k + 1, _, by omega, by go_num, by rw [ES.out]; go_num, rfl⟩
      case measure => simp [intOf]; omega
    · obtain rfl : k = n := by omega
      obtain ⟨C, hC⟩ : ∃ C, costTo lo f k = C := ⟨_, rfl⟩
      rw [hC] at hcl ⊢
      have HC := Lib.hid hC
      clear hC
      go_wp2_with fail
      go_ret
      exact ⟨by rw [HC.out]; rfl, _, rfl⟩

set_option maxHeartbeats 1000000 in
theorem right_arg (A : Option Addr) (n c : Nat) (most : Int) (w : World) (he : most < 1 ∨ 15 < most) : Calls Try.prog 14 #[.slice A n c, .int .i64 most] w fun e w' => e = .returned (.tuple #[.int .i64 0, .int .i64 1]) ∧ w = w' := by
  by_cases h1 : most < 1
  · have d1 : decide (most < 1) = true := by simpa using h1
    clear he
    go_enter Try.func14, Try.ntmps14
    go_wp2_with fail
    go_ret2
    exact ⟨rfl, rfl⟩
  · have d1 : decide (most < 1) = false := by simpa using h1
    have h2 : 15 < most := he.resolve_left h1
    have d2 : decide (15 < most) = true := by simpa using h2
    clear he
    go_enter Try.func14, Try.ntmps14
    go_wp2_with fail
    go_ret2
    exact ⟨rfl, rfl⟩

/-- What the statements ask ahead: how many signs come, and why there are no lengths. -/
def rightVal (lo : List Int) (L : Nat) : Value :=
  if lo.any beyond = true then .tuple #[.int .i64 0, .int .i64 1] else .tuple #[.int .i64 (come lo : Nat), .int .i64 (if 2 ^ L < come lo ∨ 512 < lo.length then 4 else 0 : Nat)]

set_option maxRecDepth 100000 in
set_option maxHeartbeats 1000000 in
theorem right_go (A : Option Addr) (n c B : Nat) (lo : List Int) (hn : lo.length = n) (hl : n ≤ 1000) (L : Nat) (hL1 : 1 ≤ L) (hL : L ≤ 15) (w : World) (hs : Seen w B 1 A n c (iv lo)) : Calls Try.prog 14 #[.slice A n c, .int .i64 L] w fun e w' => e = .returned (rightVal lo L) ∧ w = w' := by
  have HS := Lib.hid hs; clear hs
  have HN := Lib.hid hn; clear hn
  have d1 : decide ((L : Int) < 1) = false := by simp; omega
  have d2 : decide ((15 : Int) < L) = false := by simp; omega
  have hP := pow_le15 hL
  have ep : (((2 ^ L : Nat) : Int)) = 2 ^ L := by simp
  obtain ⟨P, hPe⟩ : ∃ P, 2 ^ L = P := ⟨_, rfl⟩
  have HP := Lib.hid hPe
  rw [hPe] at hP ep
  clear hPe
  obtain ⟨rv, hrv⟩ : ∃ rv, rightVal lo L = rv := ⟨_, rfl⟩
  rw [hrv]
  have HRV := Lib.hid hrv; clear hrv
  go_enter Try.func14, Try.ntmps14
  go_wp2_with fail
  go_loop [6, 8, 17] (fun cn _ i => ∃ k : Nat, k ≤ n ∧ i = .int .i64 k ∧ cn = .int .i64 ((cm lo k).length : Nat) ∧ (lo.take k).any beyond = false) (fun _ _ i => n - (intOf i).toNat)
  case atStart => exact ⟨0, by omega, rfl, by simp [cm], rfl⟩
  case round =>
    obtain ⟨k, hk, rfl, rfl, hno⟩ := hrel
    have HNo := Lib.hid hno; clear hno
    have hcl := cm_len lo k
    by_cases hlt : k < n
    · obtain ⟨b, o, rfl, _, hc⟩ := HS.out.int HN.out hlt
      have hkl : k < lo.length := by rw [HN.out]; exact hlt
      have E1 : Hid ((lo.take (k + 1)).any beyond = beyond lo[k]) := Lib.hid (by rw [take_snoc lo k hkl, List.any_append, HNo.out]; simp)
      have E2 : Hid (beyond lo[k] = true → lo.any beyond = true) := Lib.hid fun h => List.any_eq_true.2 ⟨_, List.getElem_mem hkl, h⟩
      have E3 : Hid ((cm lo (k + 1)).length = (cm lo k).length + if 0 < lo[k] then 1 else 0) := Lib.hid (by
        rw [cm_succ, List.length_append]
        have e : lo.getD k 0 = lo[k] := by simp [List.getD, hkl]
        rw [e]
        split <;> rfl)
      obtain ⟨x, hx⟩ : ∃ x, lo[k] = x := ⟨_, rfl⟩
      rw [hx] at hc E1 E2 E3
      obtain ⟨C, hC⟩ : ∃ C, (cm lo k).length = C := ⟨_, rfl⟩
      rw [hC] at E3 hcl ⊢
      clear hx hkl hC
      have HBad : Hid (beyond x = true → rv = .tuple #[.int .i64 0, .int .i64 1]) := Lib.hid (fun h => by rw [← HRV.out]; unfold rightVal; rw [if_pos (E2.out h)])
      by_cases h0 : x < 0
      · have d0 : decide (x < 0) = true := by simpa using h0
        have e := Lib.hid (HBad.out (by simp [beyond, h0]))
        go_wp2_with fail
        go_ret2
        exact ⟨by rw [e.out]; rfl, rfl⟩
      · have d0 : decide (x < 0) = false := by simpa using h0
        by_cases h1 : 16777216 < x
        · have d3 : decide (16777216 < x) = true := by simpa using h1
          have e := Lib.hid (HBad.out (by simp [beyond, h1]))
          go_wp2_with fail
          go_ret2
          exact ⟨by rw [e.out]; rfl, rfl⟩
        · have d3 : decide (16777216 < x) = false := by simpa using h1
          have hbf : beyond x = false := by simp [beyond]; omega
          rw [hbf] at E1
          by_cases h2 : 0 < x
          · have d4 : decide (0 < x) = true := by simpa using h2
            rw [if_pos h2] at E3
            clear hbf
            go_wp2_with fail
            go_round
            case rel => exact ⟨k + 1, by omega, by go_num, by rw [E3.out]; go_num, E1.out⟩
            case measure => simp [intOf]; omega
          · have d4 : decide (0 < x) = false := by simpa using h2
            rw [if_neg h2] at E3
            clear hbf
            go_wp2_with fail
            go_round
            case rel => exact ⟨k + 1, by omega, by go_num, by rw [E3.out]; rfl, E1.out⟩
            case measure => simp [intOf]; omega
    · obtain rfl : k = n := by omega
      have HA : Hid (lo.any beyond = false) := Lib.hid (by have h := HNo.out; rwa [List.take_of_length_le (by rw [HN.out]; omega)] at h)
      have HCm : Hid ((cm lo k).length = come lo) := Lib.hid (by unfold come; rw [HN.out])
      obtain ⟨C, hC⟩ : ∃ C, (cm lo k).length = C := ⟨_, rfl⟩
      rw [hC] at HCm hcl ⊢
      clear hC
      have HV : Hid (rv = .tuple #[.int .i64 (C : Nat), .int .i64 (if P < C ∨ 512 < k then 4 else 0 : Nat)]) := Lib.hid (by
        rw [← HRV.out]
        unfold rightVal
        rw [if_neg (by rw [HA.out]; simp), HN.out, ← HCm.out, HP.out])
      by_cases h3 : P < C
      · have HV2 : Hid (rv = .tuple #[.int .i64 (C : Nat), .int .i64 4]) := Lib.hid (by rw [HV.out, if_pos (.inl h3)]; rfl)
        clear HV
        have h3' : decide ((2 : Int) ^ L < C) = true := by rw [← ep]; simp; exact h3
        go_wp2_with fail
        go_ret2
        exact ⟨by rw [HV2.out]; rfl, rfl⟩
      · have h3' : decide ((2 : Int) ^ L < C) = false := by rw [← ep]; simp; omega
        by_cases h4 : 512 < k
        · have HV2 : Hid (rv = .tuple #[.int .i64 (C : Nat), .int .i64 4]) := Lib.hid (by rw [HV.out, if_pos (.inr h4)]; rfl)
          clear HV
          have h4' : decide ((512 : Int) < k) = true := by simp; omega
          go_wp2_with fail
          go_ret2
          exact ⟨by rw [HV2.out]; rfl, rfl⟩
        · have HV2 : Hid (rv = .tuple #[.int .i64 (C : Nat), .int .i64 0]) := Lib.hid (by rw [HV.out, if_neg (by omega)]; rfl)
          clear HV
          have h4' : decide ((512 : Int) < k) = false := by simp; omega
          go_wp2_with fail
          go_ret2
          exact ⟨by rw [HV2.out]; rfl, rfl⟩
end Go.Proofs.Ytijjcecboepiiaa
