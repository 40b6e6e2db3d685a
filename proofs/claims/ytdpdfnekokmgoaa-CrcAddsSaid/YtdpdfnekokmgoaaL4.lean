/-
  The walk of CrcAdds: it answers true, and changes nothing that was there. Conditions: the slices are read as told (Seen).
-/
import Derived.Test.YtdpdfnekokmgoaaL1
namespace Go.Proofs.Ytdpdfnekokmgoaa
open Go.RowKit

/-- Two rows of bytes together, bit by bit. -/
def xorb (a b : List Nat) : List Nat := List.zipWith (fun x y => x ^^^ y) a b

theorem bitsOf_xor (x y n : Nat) : bitsOf (x ^^^ y) n = xorl (bitsOf x n) (bitsOf y n) := by
  induction n generalizing x y with
  | zero => rfl
  | succ n ih =>
    have e : xorl (bitsOf x (n + 1)) (bitsOf y (n + 1)) = ((x % 2 == 1) != (y % 2 == 1)) :: xorl (bitsOf (x / 2) n) (bitsOf (y / 2) n) := rfl
    rw [e, ← ih, ← xor_div2]
    show ((x ^^^ y) % 2 == 1) :: bitsOf ((x ^^^ y) / 2) n = _
    congr 1
    rw [xor_mod2]
    have hx : x % 2 = 0 ∨ x % 2 = 1 := by omega
    have hy : y % 2 = 0 ∨ y % 2 = 1 := by omega
    rcases hx with hx | hx <;> rcases hy with hy | hy <;> rw [hx, hy] <;> rfl
theorem unpack_xorb (a b : List Nat) (h : a.length = b.length) : unpack (xorb a b) = xorl (unpack a) (unpack b) := by
  induction a generalizing b with
  | nil =>
    cases b with
    | nil => rfl
    | cons y b => simp at h
  | cons x a ih =>
    cases b with
    | nil => simp at h
    | cons y b =>
      have e1 : xorb (x :: a) (y :: b) = (x ^^^ y) :: xorb a b := rfl
      have e2 : ∀ (z : Nat) (l : List Nat), unpack (z :: l) = bitsOf z 8 ++ unpack l := fun _ _ => rfl
      rw [e1, e2, e2, e2, ih b (by simpa using h), bitsOf_xor]
      unfold xorl
      rw [List.zipWith_append (by simp)]
@[simp] theorem xorb_length (a b : List Nat) (h : a.length = b.length) : (xorb a b).length = a.length := by simp [xorb, h]
theorem xorb_lt (a b : List Nat) (ha : ∀ x ∈ a, x < 256) (hb : ∀ x ∈ b, x < 256) : ∀ x ∈ xorb a b, x < 256 := by
  induction a generalizing b with
  | nil => simp [xorb]
  | cons x a ih =>
    cases b with
    | nil => simp [xorb]
    | cons y b =>
      intro z hz
      have e1 : xorb (x :: a) (y :: b) = (x ^^^ y) :: xorb a b := rfl
      rw [e1] at hz
      rcases List.mem_cons.1 hz with rfl | hz
      · exact Nat.xor_lt_two_pow (n := 8) (ha x (by simp)) (hb y (by simp))
      · exact ih b (fun u hu => ha u (by simp [hu])) (fun u hu => hb u (by simp [hu])) z hz

theorem crc_xor (bs : List Nat) (h : ∀ x ∈ bs, x < 256) : crc bs = feed 4294967295 (unpack bs) ^^^ 4294967295 := by
  unfold crc
  rw [flip32_xor _ (reg_lt _ _ (by omega) h), reg_feed _ _ h]

/-- Sums are linear. -/
theorem crc_adds (a b c : List Nat) (hab : a.length = b.length) (hbc : b.length = c.length) (ha : ∀ x ∈ a, x < 256) (hb : ∀ x ∈ b, x < 256) (hc : ∀ x ∈ c, x < 256) :
    crc (xorb (xorb a b) c) = crc a ^^^ crc b ^^^ crc c := by
  rw [crc_xor _ (xorb_lt _ _ (xorb_lt _ _ ha hb) hc), crc_xor a ha, crc_xor b hb, crc_xor c hc, unpack_xorb _ _ (by rw [xorb_length a b hab]; omega), unpack_xorb _ _ hab]
  have e : (4294967295 : Nat) = (4294967295 ^^^ 4294967295) ^^^ 4294967295 := rfl
  conv => lhs; rw [e]
  rw [feed_xor _ _ _ _ (by simp [xorl, hab]; omega), feed_xor _ _ _ _ (by simp [hab])]
  generalize feed 4294967295 (unpack a) = x
  generalize feed 4294967295 (unpack b) = y
  generalize feed 4294967295 (unpack c) = z
  rw [Nat.xor_self, Nat.zero_xor]
  generalize 4294967295 = t
  rw [Nat.xor_assoc x t, ← Nat.xor_assoc t y t, Nat.xor_comm t y, Nat.xor_assoc y t t, Nat.xor_self, Nat.xor_zero, Nat.xor_assoc, Nat.xor_assoc]

theorem min_run (n1 n2 n3 n : Nat) (h : n = min n1 (min n2 n3)) (ts : Array TypeId) (t : TypeId) (W : World) : (Builtin.min_ ts t #[.int .i64 n1, .int .i64 n2, .int .i64 n3]).run Try.prog W = .ok (.int .i64 n) W := by
  obtain ⟨m, hm⟩ : ∃ m : Nat, m = if n2 < n1 then n2 else n1 := ⟨_, rfl⟩
  have e1 : (Builtin.min2 (.int .i64 n1) (.int .i64 n2)).run Try.prog W = .ok (.int .i64 m) W := by
    rw [hm]
    simp [Builtin.min2]
    by_cases h2 : n2 < n1 <;> simp [h2]
  have e2 : (Builtin.min2 (.int .i64 m) (.int .i64 n3)).run Try.prog W = .ok (.int .i64 n) W := by
    have hn : n = if n3 < m then n3 else m := by
      rw [h, hm]
      split <;> split <;> omega
    rw [hn]
    simp [Builtin.min2]
    by_cases h2 : n3 < m <;> simp [h2]
  simp only [Builtin.min_, List.foldlM_cons, List.foldlM_nil, Sem.run_bind, e1, Result.andThen_ok, e2, Sem.run_pure]

theorem adds_long (A1 A2 A3 : Option Addr) (n1 c1 n2 c2 n3 c3 n : Nat) (hmin : n = min n1 (min n2 n3)) (hn : 2000 < n) (w : World) : Calls Try.prog 7 #[.slice A1 n1 c1, .slice A2 n2 c2, .slice A3 n3 c3] w (LawPost w) := by
  have hr := min_run n1 n2 n3 n hmin
  have hd : decide ((2000 : Int) < n) = true := by simp; omega
  clear hmin
  go_enter Try.func7, Try.ntmps7
  go_wp2_with fail
  refine (fixed_yes _).mono ?_; rintro e w1 ⟨rfl, hb1⟩
  have HB1 := Lib.hid hb1; clear hb1
  go_wp2_with fail
  go_ret
  exact ⟨rfl, HB1.out⟩

def AddsIn (w1 : World) (g n : Nat) (X : List Nat) (k : Nat) (wr : World) : Prop := Whole wr g 5 (bv (X.take k ++ List.replicate (n - k) 0)).toArray ∧ Below w1.heap.size w1 wr ∧ w1.heap.size ≤ g

theorem adds_set (X : List Nat) (n k : Nat) (hX : X.length = n) (hk : k < n) (x : Nat) (hx : X[k]? = some x) : (X.take k ++ List.replicate (n - k) 0).set k x = X.take (k + 1) ++ List.replicate (n - (k + 1)) 0 := by
  obtain ⟨hk2, rfl⟩ := List.getElem?_eq_some_iff.1 hx
  have hl : (X.take k).length = k := by simp; omega
  rw [List.set_append_right _ _ (by omega), hl, Nat.sub_self, List.take_succ_eq_append_getElem hk2, show n - k = (n - (k + 1)) + 1 by omega, List.replicate_succ, List.set_cons_zero, List.append_assoc]
  rfl
theorem xor_val (a b c : Nat) (ha : a < 256) (hb : b < 256) (hc : c < 256) : bits BinOp.xor IntKind.u8 (bits BinOp.xor IntKind.u8 (a : Int) (b : Int)) (c : Int) = ((a ^^^ b ^^^ c : Nat) : Int) := by
  have h1 : a ^^^ b < 2 ^ 8 := Nat.xor_lt_two_pow (n := 8) (by omega) (by omega)
  rw [u8_xor_nat _ _ ha hb, u8_xor_nat _ _ (by omega) hc]
theorem xor_u32 (a b c : Nat) (ha : a < 4294967296) (hb : b < 4294967296) (hc : c < 4294967296) : bits BinOp.xor IntKind.u32 (bits BinOp.xor IntKind.u32 (a : Int) (b : Int)) (c : Int) = ((a ^^^ b ^^^ c : Nat) : Int) := by
  have h1 : a ^^^ b < 2 ^ 32 := Nat.xor_lt_two_pow (n := 32) (by omega) (by omega)
  rw [u32_xor_nat _ _ ha hb, u32_xor_nat _ _ (by omega) hc]

set_option maxHeartbeats 4000000 in
theorem adds_short (A1 A2 A3 : Option Addr) (n1 c1 n2 c2 n3 c3 n : Nat) (hmin : n = min n1 (min n2 n3)) (hn : n ≤ 2000) (w : World)
    (bs1 bs2 bs3 : List Nat) (l1 : bs1.length = n1) (l2 : bs2.length = n2) (l3 : bs3.length = n3) (t1 : ∀ x ∈ bs1, x < 256) (t2 : ∀ x ∈ bs2, x < 256) (t3 : ∀ x ∈ bs3, x < 256)
    (s1 : Seen w w.heap.size 1 A1 n1 c1 (bv bs1)) (s2 : Seen w w.heap.size 1 A2 n2 c2 (bv bs2)) (s3 : Seen w w.heap.size 1 A3 n3 c3 (bv bs3)) : Calls Try.prog 7 #[.slice A1 n1 c1, .slice A2 n2 c2, .slice A3 n3 c3] w (LawPost w) := by
  obtain ⟨i0, hi0, hz0, hz1, hz2⟩ := info_parts byte_info
  have hO : i0.bytes * n ≤ 281474976710656 := by rw [hz2]; omega
  have hr := min_run n1 n2 n3 n hmin
  have hd : decide ((2000 : Int) < n) = false := by simp; omega
  have hn1 : n ≤ n1 := by omega
  have hn2 : n ≤ n2 := by omega
  have hn3 : n ≤ n3 := by omega
  clear hmin
  have Z1 := Lib.hid (s1.head hn1)
  have Z2 := Lib.hid (s2.head hn2)
  have Z3 := Lib.hid (s3.head hn3)
  have hc1 : n ≤ c1 := by have := s1.2.1; omega
  have hc2 : n ≤ c2 := by have := s2.2.1; omega
  have hc3 : n ≤ c3 := by have := s3.2.1; omega
  rw [bv_take] at Z1 Z2 Z3
  obtain ⟨a, ha⟩ : ∃ a, bs1.take n = a := ⟨_, rfl⟩
  obtain ⟨b, hb⟩ : ∃ b, bs2.take n = b := ⟨_, rfl⟩
  obtain ⟨c, hc⟩ : ∃ c, bs3.take n = c := ⟨_, rfl⟩
  rw [ha] at Z1
  rw [hb] at Z2
  rw [hc] at Z3
  have LA : Hid (a.length = n) := Lib.hid (by rw [← ha]; simp; omega)
  have LB : Hid (b.length = n) := Lib.hid (by rw [← hb]; simp; omega)
  have LC : Hid (c.length = n) := Lib.hid (by rw [← hc]; simp; omega)
  have TA : Hid (∀ x ∈ a, x < 256) := Lib.hid (by rw [← ha]; exact fun x hx => t1 x (List.mem_of_mem_take hx))
  have TB : Hid (∀ x ∈ b, x < 256) := Lib.hid (by rw [← hb]; exact fun x hx => t2 x (List.mem_of_mem_take hx))
  have TC : Hid (∀ x ∈ c, x < 256) := Lib.hid (by rw [← hc]; exact fun x hx => t3 x (List.mem_of_mem_take hx))
  clear ha hb hc t1 t2 t3 s1 s2 s3 l1 l2 l3
  obtain ⟨X, hX⟩ : ∃ X, xorb (xorb a b) c = X := ⟨_, rfl⟩
  have LX : Hid (X.length = n) := Lib.hid (by rw [← hX]; simp [xorb, LA.out, LB.out, LC.out])
  have TX : Hid (∀ x ∈ X, x < 256) := Lib.hid (by rw [← hX]; exact xorb_lt _ _ (xorb_lt _ _ TA.out TB.out) TC.out)
  have CX : Hid (crc X = crc a ^^^ crc b ^^^ crc c) := Lib.hid (by rw [← hX]; exact crc_adds a b c (by rw [LA.out, LB.out]) (by rw [LB.out, LC.out]) TA.out TB.out TC.out)
  have GX : Hid (∀ (k x y z : Nat), a[k]? = some x → b[k]? = some y → c[k]? = some z → X[k]? = some (x ^^^ y ^^^ z)) := Lib.hid (by
    intro k x y z hx hy hz
    rw [← hX]
    unfold xorb
    simp [List.getElem?_zipWith, hx, hy, hz])
  clear hX
  go_enter Try.func7, Try.ntmps7
  go_wp2_with fail
  refine (fixed_yes _).mono ?_; rintro e w1 ⟨rfl, hb1⟩
  have HB1 := Lib.hid hb1; clear hb1
  go_wp2_with (at_make; refine wpList_make_full _ rfl _ _ 22 rfl w1.heap.size 5 i0 _ 1 Try.underlying22 hi0 hz0 hz1 _ _ (n : Int) (n : Int) n rfl rfl rfl rfl hO (by simp only [maxLen]; omega) (Nat.le_refl _) ?_; intro w2 hown2 hg2)
  have H2 : Hid (AddsIn w1 w1.heap.size n X 0 w2) := Lib.hid ⟨by
      have h3 := copy_made hown2
      unfold Whole
      simpa [bv] using h3, (Below.refl _ _).grown hg2 (Nat.le_refl _) (by simp), Nat.le_refl _⟩
  clear hown2 hg2 hr hd hO
  go_loopw [9, 25] (fun _ i wr => ∃ k : Nat, k ≤ n ∧ i = .int .i64 k ∧ AddsIn w1 w1.heap.size n X k wr) (fun _ i _ => n - (intOf i).toNat)
  case atStart => exact ⟨0, Nat.zero_le _, rfl, H2.out⟩
  case round =>
    obtain ⟨k, hk, rfl, hin⟩ := hrel
    have HIn := Lib.hid hin
    have hbw : Below w.heap.size w wr := HB1.out.trans (hin.2.1.mono HB1.out.size)
    by_cases hlt : k < n
    · obtain ⟨b1, o1, u1, rfl, hb1, hu1, hcell1⟩ := (Z1.out.below hbw).at (k := k) hlt
      obtain ⟨b2, o2, u2, rfl, hb2, hu2, hcell2⟩ := (Z2.out.below hbw).at (k := k) hlt
      obtain ⟨b3, o3, u3, rfl, hb3, hu3, hcell3⟩ := (Z3.out.below hbw).at (k := k) hlt
      obtain ⟨x, hx⟩ : ∃ x, a[k]? = some x := ⟨_, List.getElem?_eq_getElem (by rw [LA.out]; exact hlt)⟩
      obtain ⟨y, hy⟩ : ∃ y, b[k]? = some y := ⟨_, List.getElem?_eq_getElem (by rw [LB.out]; exact hlt)⟩
      obtain ⟨z, hz⟩ : ∃ z, c[k]? = some z := ⟨_, List.getElem?_eq_getElem (by rw [LC.out]; exact hlt)⟩
      rw [bv_get? hx] at hu1
      rw [bv_get? hy] at hu2
      rw [bv_get? hz] at hu3
      cases hu1
      cases hu2
      cases hu3
      have hX2 := GX.out k x y z hx hy hz
      have hx2 := TA.out x (List.mem_of_getElem? hx)
      have hy2 := TB.out y (List.mem_of_getElem? hy)
      have hz3 := TC.out z (List.mem_of_getElem? hz)
      have AS := Lib.hid (adds_set X n k LX.out hlt _ hX2)
      have XV := Lib.hid (xor_val x y z hx2 hy2 hz3)
      have hfr := hin.1.frozen k
      have hold : ∃ old, wr.cell? ⟨w1.heap.size, k, none⟩ = some old := by
        rw [hin.1.cell, List.getElem?_toArray, List.getElem?_eq_getElem (by rw [bv_length]; have := LX.out; simp; omega)]
        exact ⟨_, rfl⟩
      obtain ⟨old, hold⟩ := hold
      clear hx hy hz hX2 hin hbw
      have hk0 : (0 : Int) ≤ k := by omega
      have hkn : (k : Int) < n := by omega
      have hk1 : k < n1 := by omega
      have hk2 : k < n2 := by omega
      have hk3 : k < n3 := by omega
      have hi1 : (k : Int) < n1 := by omega
      have hi2 : (k : Int) < n2 := by omega
      have hi3 : (k : Int) < n3 := by omega
      go_wp2
      go_region
      go_wp2
      go_roundw
      case rel =>
        obtain ⟨i1, i2, i3⟩ := HIn.out
        refine ⟨k + 1, by omega, by go_num, ?_, (i2.setCell (Nat.le_refl _) _).drew, i3⟩
        have h1 := i1.put k (.int .u8 ((x ^^^ y ^^^ z : Nat) : Int))
        rw [List.setIfInBounds_toArray, bv_set, AS.out] at h1
        rw [XV.out]
        exact h1
      case measure => simp [intOf]; omega
    · have hkn : k = n := by omega
      have S0 : Hid (Seen wr wr.heap.size 1 (some ⟨w1.heap.size, 0, none⟩) n n (bv X)) := Lib.hid (by
        have h5 := hin.1
        rw [hkn, Nat.sub_self, List.replicate_zero, List.append_nil, List.take_of_length_le (by rw [LX.out]; exact Nat.le_refl _)] at h5
        have h6 := seen_block h5
        rw [LX.out] at h6
        exact h6)
      have HBW := Lib.hid hbw
      have S1 := Lib.hid ((Z1.out.below hbw).more hbw.size)
      have S2 := Lib.hid ((Z2.out.below hbw).more hbw.size)
      have S3 := Lib.hid ((Z3.out.below hbw).more hbw.size)
      have B0 : Hid (Below wr.heap.size wr wr.drew) := Lib.hid (Below.refl _ _).drew
      have hcx := crc_lt X
      have hca := crc_lt a
      have hcb := crc_lt b
      have hcc := crc_lt c
      have XU := xor_u32 (crc a) (crc b) (crc c) hca hcb hcc
      have heq : (((crc X : Nat) : Int) == ((crc a ^^^ crc b ^^^ crc c : Nat) : Int)) = true := by rw [CX.out]; simp
      have hbel9 : n ≤ 9223372036854775807 := by omega
      have hkd : decide (k < n) = false := by simp; omega
      have h00 : (0 : Int) ≤ n := by omega
      have h01 : (n : Int) ≤ c1 := by omega
      have h02 : (n : Int) ≤ c2 := by omega
      have h03 : (n : Int) ≤ c3 := by omega
      clear hin hbw Z1 Z2 Z3 hkn HIn H2 GX hlt hk hn
      go_wp2_with fail
      clear hkd
      go_region_with (first
        | (go_at_call 9; refine (sum_any (some ⟨w1.heap.size, 0, none⟩) n n wr.heap.size X LX.out TX.out hbel9 wr.drew (by exact S0.out) (by exact Nat.le_refl _)).mono ?_; rintro e w3 ⟨rfl, hb3⟩; have B3 : Hid (Below wr.heap.size wr w3) := Lib.hid ⟨hb3.os, hb3.tape, hb3.output, hb3.size, hb3.block⟩; clear hb3)
        | (go_at_call 9; refine (sum_any A1 n c1 wr.heap.size a LA.out TA.out hbel9 w3 (S1.out.below B3.out) B3.out.size).mono ?_; rintro e w4 ⟨rfl, hb4⟩; have B4 := Lib.hid (B3.out.trans (hb4.mono B3.out.size)); clear hb4)
        | (go_at_call 9; refine (sum_any A2 n c2 wr.heap.size b LB.out TB.out hbel9 w4 (S2.out.below B4.out) B4.out.size).mono ?_; rintro e w5 ⟨rfl, hb5⟩; have B5 := Lib.hid (B4.out.trans (hb5.mono B4.out.size)); clear hb5)
        | (go_at_call 9; refine (sum_any A3 n c3 wr.heap.size c LC.out TC.out hbel9 w5 (S3.out.below B5.out) B5.out.size).mono ?_; rintro e w6 ⟨rfl, hb6⟩; have B6 := Lib.hid (B5.out.trans (hb6.mono B5.out.size)); clear hb6))
      all_goals
        go_wp2_with fail
        go_ret
        refine ⟨?_, HBW.out.trans (B6.out.mono HBW.out.size)⟩
        simp [Act.put]

theorem adds_law (A1 : Option Addr) (n1 c1 : Nat) (_ : n1 ≤ 9223372036854775807) (A2 : Option Addr) (n2 c2 : Nat) (_ : n2 ≤ 9223372036854775807) (A3 : Option Addr) (n3 c3 : Nat) (_ : n3 ≤ 9223372036854775807) (w : World)
    (h1 : ∃ bs : List Nat, bs.length = n1 ∧ (∀ y ∈ bs, y < 256) ∧ Seen w w.heap.size 1 A1 n1 c1 (bv bs)) (h2 : ∃ bs : List Nat, bs.length = n2 ∧ (∀ y ∈ bs, y < 256) ∧ Seen w w.heap.size 1 A2 n2 c2 (bv bs)) (h3 : ∃ bs : List Nat, bs.length = n3 ∧ (∀ y ∈ bs, y < 256) ∧ Seen w w.heap.size 1 A3 n3 c3 (bv bs)) :
    Calls Try.prog 7 #[.slice A1 n1 c1, .slice A2 n2 c2, .slice A3 n3 c3] w (LawPost w) := by
  obtain ⟨bs1, l1, t1, s1⟩ := h1
  obtain ⟨bs2, l2, t2, s2⟩ := h2
  obtain ⟨bs3, l3, t3, s3⟩ := h3
  by_cases hn : min n1 (min n2 n3) ≤ 2000
  · exact adds_short A1 A2 A3 n1 c1 n2 c2 n3 c3 _ rfl hn w bs1 bs2 bs3 l1 l2 l3 t1 t2 t3 s1 s2 s3
  · exact adds_long A1 A2 A3 n1 c1 n2 c2 n3 c3 _ rfl (by omega) w
end Go.Proofs.Ytdpdfnekokmgoaa
