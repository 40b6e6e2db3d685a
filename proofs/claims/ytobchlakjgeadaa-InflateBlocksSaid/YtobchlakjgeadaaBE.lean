/-
  The contract of bits: some bits of one part. Conditions: the part's rows are read as told (Seen), within the bounds of the statement.
-/
import Derived.Test.YtobchlakjgeadaaBD
import Derived.Test.YtobchlakjgeadaaRF
import Derived.Deep.RegionHeld3
namespace Go.Proofs.Ytobchlakjgeadaa
open Go.RowKit
set_option maxRecDepth 100000

theorem step_append_seen {P : Program} (w : World) {ops : Array Oper} {o : Oper} {a : Act} {K : Act → World → Prop} {Q : Exit → Act → World → Prop} {E : Prop} (hgd : o.guard = none) (s x : Operand) (t : TypeId)
    (ho : o.op = .call { callee := .builtin .append, args := #[s, x], argTypes := #[t, t] })
    (base : Nat) (e : TypeId) (i : TypeInfo) (z : Value) (size bytes : Nat) (ht : P.underlying t = some (.slice e)) (hi : P.info? e = some i) (hz : i.zero = some z)
    (hsize : i.size = size) (hby : i.bytes = bytes) (hzs : z.cells.size = size) (hsz : 0 < size)
    (v : Value) (n : Nat) (xs : List Value) (hs : a.eval s = v) (hown : w.ownsRow base e size v n xs)
    (B : Nat) (A : Option Addr) (m c : Nat) (news : List Value) (hx : a.eval x = .slice A m c) (hr : Seen w B size A m c news) (h1 : ∀ u ∈ news, u.oneCell' = true)
    (h63 : n + m ≤ maxLen) (hbytes : (n + m) * bytes ≤ 140737488355328) (hbase : base ≤ w.heap.size)
    (h : ∀ v' w', w'.ownsRow base e size v' (n + m) (xs ++ news) → w.grownBy w' v.ownBlock → (v'.ownBlock = v.ownBlock ∨ v'.ownBlock = some w.heap.size) → K (a.put o.dst v') w') :
    if Region.wanted o (yielded ops a.tmps) = true then Oper.wp P o a w K Q else E := by
  have hw : Region.wanted o (yielded ops a.tmps) = true := by simp [Region.wanted, hgd]
  rw [if_pos hw]
  obtain ⟨v', w', hrun, h2, h3, h4⟩ := run_append_seen (P := P) w base t o.type e i z size bytes ht hi hz hsize hby hzs hsz v n xs hown B A m c news hr h1 h63 hbytes hbase
  unfold Oper.wp
  simp [execOp, ho, resolve, invoke, builtin, hs, hx, hrun, Result.andThen]
  exact h v' w' h2 h3 h4


set_option maxHeartbeats 8000000 in
theorem part_bits (kd : Nat) (hkd : kd < 256) (la : Bool) (sp : Int) (Ar : Option Addr) (nr cr : Nat) (bs : List Nat) (hbs : bs.length = nr) (hnr : nr ≤ 100) (h256 : ∀ x ∈ bs, x < 256)
    (As : Option Addr) (ns cs : Nat) (ss : List Int) (hss : ss.length = ns) (hns : ns ≤ 40) (Am : Option Addr) (nm cm : Nat) (ms : List Nat) (hms : ms.length = nm) (hnm : nm ≤ 80) (h32 : ∀ u ∈ ms, u < 4294967296)
    (Al : Option Addr) (nl cl : Nat) (ls : List Int) (hls : ls.length = nl) (hnl : nl ≤ 286) (Af : Option Addr) (nf cf : Nat) (fs : List Int) (hfs : fs.length = nf) (hnf : nf ≤ 30) (B : Nat)
    (have_ : Nat) (hh : have_ ≤ 100000) (w : World) (hB : B ≤ w.heap.size)
    (s1 : Seen w B 1 Ar nr cr (bx bs)) (s2 : Seen w B 1 As ns cs (iv ss)) (s3 : Seen w B 1 Am nm cm (uv ms)) (s4 : Seen w B 1 Al nl cl (iv ls)) (s5 : Seen w B 1 Af nf cf (iv fs)) :
    Calls Try.prog 10 #[.agg (partV kd la (.slice Ar nr cr) (.slice As ns cs) (.slice Am nm cm) sp (.slice Al nl cl) (.slice Af nf cf)), .int .i64 have_] w (GivesBools 9000 w) := by
  obtain ⟨j0, hj0, hy0, hy1, hy2⟩ := info_parts bool_info
  have CS : Hid (∀ W, Below w.heap.size w W → ∀ (A1 : Option Addr) (n1 c1 : Nat) (A2 : Option Addr) (n2 c2 : Nat) (x y : List Int), x.length = n1 → y.length = n2 → n1 ≤ 1000 → n2 ≤ 1000 → 0 < n2 → Seen W W.heap.size 1 A1 n1 c1 (iv x) → Seen W W.heap.size 1 A2 n2 c2 (iv y) →
      Calls Try.prog 30 #[.agg (partV kd la (.slice Ar nr cr) (.slice As ns cs) (.slice Am nm cm) sp (.slice Al nl cl) (.slice Af nf cf)), .slice A1 n1 c1, .slice A2 n2 c2] W (GivesBools 2000 W)) := Lib.hid (fun W hW A1 n1 c1 A2 n2 c2 x y hx hy h1 h2 h3 q1 q2 =>
    signs_any kd la _ _ _ sp _ _ A1 n1 c1 A2 n2 c2 W.heap.size x y hx hy h1 h2 h3 As ns cs ss hss hns Am nm cm ms hms hnm h32 W q1 q2 ((s2.below (hW.mono hB)).more (Nat.le_trans hB hW.size)) ((s3.below (hW.mono hB)).more (Nat.le_trans hB hW.size)) (Nat.le_refl _) rfl rfl)
  have CH : Hid (∀ W, Below w.heap.size w W → Calls Try.prog 29 #[.slice Al nl cl, .slice Af nf cf] W (HeadRes nl nf W)) := Lib.hid (fun W hW => by
    by_cases h : nl < 257 ∨ 286 < nl ∨ nf < 1 ∨ 30 < nf
    · exact header_no Al nl cl Af nf cf h W
    · exact header_in Al nl cl Af nf cf B ls fs hls hfs (by omega) (by omega) (by omega) (by omega) W (s4.below (hW.mono hB)) (s5.below (hW.mono hB)) (Nat.le_trans hB hW.size))
  have CO : Hid (∀ W, Below w.heap.size w W → Calls Try.prog 21 #[.slice Ar nr cr] W (GivesRow W 4 1 (8 * nr) ((unpack bs).map .bool))) := Lib.hid (fun W hW => refOf_any Ar cr B bs nr hbs W (s1.below (hW.mono hB)) (Nat.le_trans hB hW.size) (by omega) h256)
  have CF := Lib.hid (fun W => rfixed_any W)
  have HU : Hid ((unpack bs).length = 8 * nr) := Lib.hid (by rw [unpack_length, hbs])
  have HS4 : Hid (∀ W, Below w.heap.size w W → Seen W W.heap.size 1 Al nl cl (iv ls)) := Lib.hid (fun W hW => (s4.below (hW.mono hB)).more (Nat.le_trans hB hW.size))
  have HS5 : Hid (∀ W, Below w.heap.size w W → Seen W W.heap.size 1 Af nf cf (iv fs)) := Lib.hid (fun W hW => (s5.below (hW.mono hB)).more (Nat.le_trans hB hW.size))
  have HLS := Lib.hid hls; have HFS := Lib.hid hfs
  clear s1 s2 s3 s4 s5 hbs h256 hss hms h32 hls hfs hns hnm hB
  unfold partV at CS ⊢
  obtain ⟨lv, hlv⟩ : ∃ lv : Nat, lv = (if la then 1 else 0) := ⟨_, rfl⟩
  have hlv2 : lv < 2 := by subst hlv; cases la <;> simp
  obtain ⟨kq, hkq⟩ : ∃ kq, kd % 4 = kq := ⟨_, rfl⟩
  have hkq4 : kq < 4 := by omega
  have ek1 : (kd : Int).tmod 4 = kq := by rw [Int.tmod_eq_emod_of_nonneg (by omega)]; omega
  have ek2 : (kd : Int) % 4 = kq := by omega
  have wk1 : IntKind.u8.wrap (kq : Int) = kq := by simp [IntKind.wrap, IntKind.signed, IntKind.bits]; omega
  have wk2 : IntKind.u32.wrap (kq : Int) = kq := by simp [IntKind.wrap, IntKind.signed, IntKind.bits]; omega
  have HP : Hid (Whole (w.alloc (.cells #[.int .u8 kd, .bool la, .slice Ar nr cr, .slice As ns cs, .slice Am nm cm, .int .i64 sp, .slice Al nl cl, .slice Af nf cf] 33)) w.heap.size 33 #[.int .u8 kd, .bool la, .slice Ar nr cr, .slice As ns cs, .slice Am nm cm, .int .i64 sp, .slice Al nl cl, .slice Af nf cf]) := Lib.hid (Whole.new _ _ _)
  have HBA : Hid (Below w.heap.size w (w.alloc (.cells #[.int .u8 kd, .bool la, .slice Ar nr cr, .slice As ns cs, .slice Am nm cm, .int .i64 sp, .slice Al nl cl, .slice Af nf cf] 33))) := Lib.hid ((Below.refl _ _).alloc (Nat.le_refl _) _)
  have C1 : Hid (∀ W, Calls Try.prog 28 #[.int .u32 lv, .int .i64 1] W (GivesRow W 4 1 1 ((bitsOf lv 1).map .bool))) := Lib.hid (fun W => bits_any lv 1 (by omega) (by omega) W)
  have C2 : Hid (∀ W, Calls Try.prog 28 #[.int .u32 kq, .int .i64 2] W (GivesRow W 4 1 2 ((bitsOf kq 2).map .bool))) := Lib.hid (fun W => bits_any kq 2 (by omega) (by omega) W)
  obtain ⟨X1, hX1⟩ : ∃ Z, bitsOf lv 1 = Z := ⟨_, rfl⟩
  obtain ⟨X2, hX2⟩ : ∃ Z, bitsOf kq 2 = Z := ⟨_, rfl⟩
  have LX1 : Hid (X1.length = 1) := Lib.hid (by rw [← hX1]; simp)
  have LX2 : Hid (X2.length = 2) := Lib.hid (by rw [← hX2]; simp)
  rw [hX1] at C1
  rw [hX2] at C2
  clear hX1 hX2 hkd
  obtain ⟨t, ht⟩ : ∃ t, sp.tmod 2 = t := ⟨_, rfl⟩
  have ht3 : t = -1 ∨ t = 0 ∨ t = 1 := by
    have h1 := Int.tmod_lt_of_pos sp (show (0 : Int) < 2 by omega)
    have h2 := Int.lt_tmod_of_pos sp (show (0 : Int) < 2 by omega)
    omega
  obtain ⟨y1, hy1'⟩ : ∃ y1, 65535 - nr = y1 := ⟨_, rfl⟩
  have ey1 : (65535 : Int) - nr = y1 := by omega
  obtain ⟨z, hz⟩ := Int.eq_ofNat_of_zero_le (show 0 ≤ (y1 : Int) + t by omega)
  have hz16 : z < 4294967296 := by omega
  have wt : IntKind.i64.wrap t = t := IntWalk.i64_in _ (by omega)
  have wy1 : IntKind.i64.wrap (y1 : Int) = y1 := IntWalk.i64_in _ (by omega)
  have wz : IntKind.i64.wrap (z : Int) = z := IntWalk.i64_in _ (by omega)
  have wz2 : IntKind.u32.wrap (z : Int) = z := by simp [IntKind.wrap, IntKind.signed, IntKind.bits]; omega
  have wn2 : IntKind.u32.wrap (nr : Int) = nr := by simp [IntKind.wrap, IntKind.signed, IntKind.bits]; omega
  have C3 : Hid (∀ W, Calls Try.prog 28 #[.int .u32 nr, .int .i64 16] W (GivesRow W 4 1 16 ((bitsOf nr 16).map .bool))) := Lib.hid (fun W => bits_any nr 16 (by omega) (by omega) W)
  have C4 : Hid (∀ W, Calls Try.prog 28 #[.int .u32 z, .int .i64 16] W (GivesRow W 4 1 16 ((bitsOf z 16).map .bool))) := Lib.hid (fun W => bits_any z 16 (by omega) (by omega) W)
  obtain ⟨X3, hX3⟩ : ∃ Z, bitsOf nr 16 = Z := ⟨_, rfl⟩
  obtain ⟨X4, hX4⟩ : ∃ Z, bitsOf z 16 = Z := ⟨_, rfl⟩
  have LX3 : Hid (X3.length = 16) := Lib.hid (by rw [← hX3]; simp)
  have LX4 : Hid (X4.length = 16) := Lib.hid (by rw [← hX4]; simp)
  rw [hX3] at C3
  rw [hX4] at C4
  obtain ⟨UB, hUB⟩ : ∃ U, unpack bs = U := ⟨_, rfl⟩
  rw [hUB] at CO HU
  clear hX3 hX4 hy1' hUB
  cases la with
  | true =>
    obtain rfl : lv = 1 := by simpa using hlv
    clear hlv
    go_enter Try.func10, Try.ntmps10
    go_wp2_with fail
    generalize w.alloc (.cells #[.int .u8 kd, .bool true, .slice Ar nr cr, .slice As ns cs, .slice Am nm cm, .int .i64 sp, .slice Al nl cl, .slice Af nf cf] 33) = W0 at *
    obtain ⟨gp, hgp⟩ : ∃ gp, w.heap.size = gp := ⟨_, rfl⟩
    rw [hgp] at HP
    simp only [hgp]
    have HGP := Lib.hid hgp
    clear hgp
    refine wp_region_held_drew (S := (fun W => Whole W gp 33 #[.int .u8 kd, .bool true, .slice Ar nr cr, .slice As ns cs, .slice Am nm cm, .int .i64 sp, .slice Al nl cl, .slice Af nf cf] ∧ Below w.heap.size w W)) (by kernel_rfl) ⟨HP.out.drew, ⟨HBA.out.os, HBA.out.tape, HBA.out.output, HBA.out.size, HBA.out.block⟩⟩ (fun hHeld => ?_)
    refine wpAnyH_take (i := 0) (oi := ⟨some 14, _, _, _, _, _⟩) (v := (.int .u32 1)) rfl (by kernel_rfl) (by kernel_rfl) (by kernel_rfl) (fun _ _ _ h => h) (Or.inl ⟨by rfl, ?hyat0⟩) (by assumption) ?restat0
    case hyat0 => intro W hSW; go_simp; try rfl
    try simp only [Act.put, List.setIfInBounds_toArray, List.set_cons_zero, List.set_cons_succ]
    refine wpAnyH_take (i := 2) (oi := ⟨some 16, _, _, _, _, _⟩) (v := ?vat2) rfl (by kernel_rfl) (by kernel_rfl) (by kernel_rfl) (fun _ _ _ h => h) (Or.inl ⟨by rfl, ?hyat2⟩) (by assumption) ?restat2
    case hyat2 => intro W hSW; go_simp; try rfl
    try simp only [Act.put, List.setIfInBounds_toArray, List.set_cons_zero, List.set_cons_succ]
    refine wpAnyH_take (i := 3) (oi := ⟨some 17, _, _, _, _, _⟩) (v := ?vat3) rfl (by kernel_rfl) (by kernel_rfl) (by kernel_rfl) (fun _ _ _ h => h) (Or.inl ⟨by rfl, ?hyat3⟩) (by assumption) ?restat3
    case hyat3 => intro W hSW; have q0 : W.cell? ⟨gp, 0, none⟩ = some (.int .u8 kd) := hSW.1.cell 0; go_simp; try rfl
    try simp only [Act.put, List.setIfInBounds_toArray, List.set_cons_zero, List.set_cons_succ]
    refine wpAnyH_take (i := 4) (oi := ⟨some 18, _, _, _, _, _⟩) (v := ?vat4) rfl (by kernel_rfl) (by kernel_rfl) (by kernel_rfl) (fun _ _ _ h => h) (Or.inl ⟨by rfl, ?hyat4⟩) (by assumption) ?restat4
    case hyat4 => intro W hSW; go_simp; try rfl
    try simp only [Act.put, List.setIfInBounds_toArray, List.set_cons_zero, List.set_cons_succ]
    refine wpAnyH_take (i := 5) (oi := ⟨some 19, _, _, _, _, _⟩) (v := ?vat5) rfl (by kernel_rfl) (by kernel_rfl) (by kernel_rfl) (fun _ _ _ h => h) (Or.inl ⟨by rfl, ?hyat5⟩) (by assumption) ?restat5
    case hyat5 => intro W hSW; go_simp; try rfl
    try simp only [Act.put, List.setIfInBounds_toArray, List.set_cons_zero, List.set_cons_succ]
    refine wpAnyH_ready (rs := [1]) (by kernel_rfl) (by simp) ?_
    refine AllReadyH.cons (o := ⟨some 15, _, _, _, _, _⟩) rfl (fun K hK => ?_) AllReadyH.nil
    go_simp
    refine (C1.out _).mono ?_
    rintro e w1 ⟨v1, rfl, hown1, hb1⟩
    obtain ⟨A1, c1, rfl, _⟩ := own_form hown1
    have HO1 := Lib.hid hown1; have HB1 := Lib.hid hb1; clear hown1 hb1
    refine hK.out _ _ ?_ (fun hHeld2 => ?_)
    · exact ⟨hHeld.1.only (Only.of_below HB1.out Nob) (fun h => h), hHeld.2.trans (HB1.out.mono hHeld.2.size)⟩
    clear hK K hHeld
    have hHeld := hHeld2; clear hHeld2
    try simp only [Act.put, List.setIfInBounds_toArray, List.set_cons_zero, List.set_cons_succ]
    refine wpAnyH_ready (rs := [6]) (by kernel_rfl) (by simp) ?_
    refine AllReadyH.cons (o := ⟨some 20, _, _, _, _, _⟩) rfl (fun K hK => ?_) AllReadyH.nil
    go_simp
    refine (C2.out _).mono ?_
    rintro e w2 ⟨v2, rfl, hown2, hb2⟩
    obtain ⟨A2, c2, rfl, _, hs2⟩ := own_seen hown2
    have HO2 := Lib.hid (own_only HO1.out (Only.of_below hb2 Nob) (fun _ _ h => h)); have HB2 := Lib.hid hb2; have HS2 := Lib.hid hs2; clear hown2 hb2 hs2 HO1
    refine hK.out _ _ ?_ (fun hHeld2 => ?_)
    · exact ⟨hHeld.1.only (Only.of_below HB2.out Nob) (fun h => h), hHeld.2.trans (HB2.out.mono hHeld.2.size)⟩
    clear hK K hHeld
    have hHeld := hHeld2; clear hHeld2
    try simp only [Act.put, List.setIfInBounds_toArray, List.set_cons_zero, List.set_cons_succ]
    refine wpAnyH_ready (rs := [7]) (by kernel_rfl) (by simp) ?_
    refine AllReadyH.cons (o := ⟨some 21, _, _, _, _, _⟩) rfl (fun K hK => ?_) AllReadyH.nil
    refine step_append_seen _ (by rfl) _ _ _ (by rfl) W0.heap.size 4 j0 _ 1 1 Try.underlying29 hj0 hy0 hy1 hy2 rfl (by omega) (.slice A1 1 c1) 1 (X1.map .bool) (by rfl) HO2.out _ A2 2 c2 (X2.map .bool) (by rfl) HS2.out (bools_one _) (by simp only [maxLen]; omega) (by omega) (Nat.le_trans HB1.out.size HB2.out.size) ?_
    intro v3 w3 hown3 hg3 hat3
    have HO3 := Lib.hid hown3; have HG3 := Lib.hid hg3; clear hown3 hg3 hat3
    refine hK.out _ _ ?_ (fun hHeld2 => ?_)
    · exact ⟨hHeld.1.grown HG3.out (fun e => own_ne_whole HO2.out hHeld.1 (by decide) _ e.symm rfl), hHeld.2.grown HG3.out hHeld.2.size (fun j hj => Nat.le_trans HBA.out.size (own_whole HO2.out hj).1)⟩
    clear hK K hHeld
    have hHeld := hHeld2; clear hHeld2
    try simp only [Act.put, List.setIfInBounds_toArray, List.set_cons_zero, List.set_cons_succ]
    refine wpAnyH_take (i := 8) (oi := ⟨some 6, _, _, _, _, _⟩) (v := ?vat8) rfl (by kernel_rfl) (by kernel_rfl) (by kernel_rfl) (fun _ _ _ h => h) (Or.inl ⟨by rfl, ?hyat8⟩) (by assumption) ?restat8
    case hyat8 => intro W hSW; go_simp; try rfl
    try simp only [Act.put, List.setIfInBounds_toArray, List.set_cons_zero, List.set_cons_succ]
    refine wpAnyH_done (by kernel_rfl) ?_ _
    have HP3 := Lib.hid hHeld.1
    have B3 := Lib.hid hHeld.2
    clear hHeld
    have HX : Hid ((X1 ++ X2).length = 3) := Lib.hid (by rw [List.length_append, LX1.out, LX2.out])
    have HR3 : Hid (w3.ownsRow w.heap.size 4 1 v3 3 ((X1 ++ X2).map .bool)) := Lib.hid (by rw [List.map_append]; exact own_base HO3.out HBA.out.size)
    obtain ⟨X, hX⟩ : ∃ X, X1 ++ X2 = X := ⟨_, rfl⟩
    rw [hX] at HX HR3
    obtain ⟨A3, c3, rfl, _⟩ := own_form HR3.out
    clear hX HO3 HB1 HB2 HS2 HO2 HG3 LX1 LX2 C1 C2 HP HBA
    have q0 : w3.cell? ⟨gp, 0, none⟩ = some (.int .u8 kd) := HP3.out.cell 0
    by_cases hk0 : kq = 0
    · subst hk0
      go_wp2_with fail
      clear q0
      go_loopg [6] ((8 - (have_ + 3) % 8) % 8) (fun j s wr => ∃ (X : List Bool) (k : Nat), X.length = k ∧ j = (8 - (have_ + k) % 8) % 8 ∧ k + j ≤ 10 ∧ wr.ownsRow w.heap.size 4 1 s k (X.map .bool) ∧ Whole wr gp 33 #[.int .u8 kd, .bool true, .slice Ar nr cr, .slice As ns cs, .slice Am nm cm, .int .i64 sp, .slice Al nl cl, .slice Af nf cf] ∧ Below w.heap.size w wr)
      case atStart => exact ⟨X, 3, HX.out, rfl, by omega, HR3.out, HP3.out, B3.out⟩
      case round =>
        obtain ⟨Y, k, hY, rfl, hk10, hown, hP, hbel⟩ := hrel
        obtain ⟨A, c, rfl, _⟩ := own_form hown
        obtain ⟨q, hq⟩ : ∃ q, have_ + k = q := ⟨_, rfl⟩
        have eq1 : (have_ : Int) + k = q := by omega
        have wq : IntKind.i64.wrap (q : Int) = q := IntWalk.i64_in _ (by omega)
        obtain ⟨r, hr⟩ : ∃ r, q % 8 = r := ⟨_, rfl⟩
        have er1 : (q : Int).tmod 8 = r := by rw [Int.tmod_eq_emod_of_nonneg (by omega)]; omega
        have er2 : (q : Int) % 8 = r := by omega
        have wrr : IntKind.i64.wrap (r : Int) = r := IntWalk.i64_in _ (by omega)
        have HO := Lib.hid hown; have HP := Lib.hid hP; have HB := Lib.hid hbel; have HY := Lib.hid hY
        have HQ := Lib.hid hq; have HR := Lib.hid hr
        clear hown hP hbel hY hq hr
        by_cases hr0 : r = 0
        · subst hr0
          have q2 := HP.out.cell 2
          simp only [List.getElem?_toArray, List.getElem?_cons_succ, List.getElem?_cons_zero] at q2
          go_wp2_with fail
          clear q2
          have HOd : Hid (wr.drew.ownsRow w.heap.size 4 1 (.slice A k c) k (Y.map .bool)) := Lib.hid HO.out
          refine wp_region_held_drew (S := (fun W => Whole W gp 33 #[.int .u8 kd, .bool true, .slice Ar nr cr, .slice As ns cs, .slice Am nm cm, .int .i64 sp, .slice Al nl cl, .slice Af nf cf] ∧ Below w.heap.size w W)) (by kernel_rfl) ⟨HP.out.drew, ⟨HB.out.os, HB.out.tape, HB.out.output, HB.out.size, HB.out.block⟩⟩ (fun hHeld => ?_)
          refine wpAnyH_take (i := 0) (oi := ⟨some 38, _, _, _, _, _⟩) (v := ?vbt0) rfl (by kernel_rfl) (by kernel_rfl) (by kernel_rfl) (fun _ _ _ h => h) (Or.inl ⟨by rfl, ?hybt0⟩) (by assumption) ?restbt0
          case hybt0 => intro W hSW; go_simp; try rfl
          try simp only [Act.put, List.setIfInBounds_toArray, List.set_cons_zero, List.set_cons_succ]
          refine wpAnyH_take (i := 1) (oi := ⟨some 39, _, _, _, _, _⟩) (v := ?vbt1) rfl (by kernel_rfl) (by kernel_rfl) (by kernel_rfl) (fun _ _ _ h => h) (Or.inl ⟨by rfl, ?hybt1⟩) (by assumption) ?restbt1
          case hybt1 => intro W hSW; go_simp; try rfl
          try simp only [Act.put, List.setIfInBounds_toArray, List.set_cons_zero, List.set_cons_succ]
          refine wpAnyH_take (i := 2) (oi := ⟨some 40, _, _, _, _, _⟩) (v := ?vbt2) rfl (by kernel_rfl) (by kernel_rfl) (by kernel_rfl) (fun _ _ _ h => h) (Or.inl ⟨by rfl, ?hybt2⟩) (by assumption) ?restbt2
          case hybt2 => intro W hSW; go_simp; try rfl
          try simp only [Act.put, List.setIfInBounds_toArray, List.set_cons_zero, List.set_cons_succ]
          refine wpAnyH_take (i := 5) (oi := ⟨some 43, _, _, _, _, _⟩) (v := ?vbt5) rfl (by kernel_rfl) (by kernel_rfl) (by kernel_rfl) (fun _ _ _ h => h) (Or.inl ⟨by rfl, ?hybt5⟩) (by assumption) ?restbt5
          case hybt5 => intro W hSW; go_simp; try rfl
          try simp only [Act.put, List.setIfInBounds_toArray, List.set_cons_zero, List.set_cons_succ]
          refine wpAnyH_take (i := 6) (oi := ⟨some 44, _, _, _, _, _⟩) (v := ?vbt6) rfl (by kernel_rfl) (by kernel_rfl) (by kernel_rfl) (fun _ _ _ h => h) (Or.inl ⟨by rfl, ?hybt6⟩) (by assumption) ?restbt6
          case hybt6 => intro W hSW; go_simp; try rfl
          try simp only [Act.put, List.setIfInBounds_toArray, List.set_cons_zero, List.set_cons_succ]
          refine wpAnyH_take (i := 7) (oi := ⟨some 45, _, _, _, _, _⟩) (v := ?vbt7) rfl (by kernel_rfl) (by kernel_rfl) (by kernel_rfl) (fun _ _ _ h => h) (Or.inl ⟨by rfl, ?hybt7⟩) (by assumption) ?restbt7
          case hybt7 => intro W hSW; go_simp; try rfl
          try simp only [Act.put, List.setIfInBounds_toArray, List.set_cons_zero, List.set_cons_succ]
          refine wpAnyH_take (i := 8) (oi := ⟨some 46, _, _, _, _, _⟩) (v := ?vbt8) rfl (by kernel_rfl) (by kernel_rfl) (by kernel_rfl) (fun _ _ _ h => h) (Or.inl ⟨by rfl, ?hybt8⟩) (by assumption) ?restbt8
          case hybt8 => intro W hSW; have q5 : W.cell? ⟨gp, 5, none⟩ = some (.int .i64 sp) := hSW.1.cell 5; go_simp; try rfl
          try simp only [Act.put, List.setIfInBounds_toArray, List.set_cons_zero, List.set_cons_succ]
          refine wpAnyH_take (i := 9) (oi := ⟨some 47, _, _, _, _, _⟩) (v := ?vbt9) rfl (by kernel_rfl) (by kernel_rfl) (by kernel_rfl) (fun _ _ _ h => h) (Or.inl ⟨by rfl, ?hybt9⟩) (by assumption) ?restbt9
          case hybt9 => intro W hSW; go_simp; try rfl
          try simp only [Act.put, List.setIfInBounds_toArray, List.set_cons_zero, List.set_cons_succ]
          refine wpAnyH_take (i := 10) (oi := ⟨some 48, _, _, _, _, _⟩) (v := ?vbt10) rfl (by kernel_rfl) (by kernel_rfl) (by kernel_rfl) (fun _ _ _ h => h) (Or.inl ⟨by rfl, ?hybt10⟩) (by assumption) ?restbt10
          case hybt10 => intro W hSW; go_simp; try rfl
          try simp only [Act.put, List.setIfInBounds_toArray, List.set_cons_zero, List.set_cons_succ]
          refine wpAnyH_take (i := 11) (oi := ⟨some 49, _, _, _, _, _⟩) (v := ?vbt11) rfl (by kernel_rfl) (by kernel_rfl) (by kernel_rfl) (fun _ _ _ h => h) (Or.inl ⟨by rfl, ?hybt11⟩) (by assumption) ?restbt11
          case hybt11 => intro W hSW; go_simp; try rfl
          try simp only [Act.put, List.setIfInBounds_toArray, List.set_cons_zero, List.set_cons_succ]
          refine wpAnyH_ready (rs := [3]) (by kernel_rfl) (by simp) ?_
          refine AllReadyH.cons (o := ⟨some 41, _, _, _, _, _⟩) rfl (fun K hK => ?_) AllReadyH.nil
          go_simp
          refine (C3.out _).mono ?_
          rintro e w5 ⟨v5, rfl, hown, hb⟩
          obtain ⟨Ac5, cc5, rfl, _, hs⟩ := own_seen hown
          have HO5 := Lib.hid (own_only HOd.out (Only.of_below hb Nob) (fun _ _ h => h)); have HB5 := Lib.hid hb; have HS5 := Lib.hid hs; clear hown hb hs
          refine hK.out _ _ ?_ (fun hHeld2 => ?_)
          · exact ⟨hHeld.1.only (Only.of_below HB5.out Nob) (fun h => h), hHeld.2.trans (HB5.out.mono hHeld.2.size)⟩
          clear hK K hHeld
          have hHeld := hHeld2; clear hHeld2
          try simp only [Act.put, List.setIfInBounds_toArray, List.set_cons_zero, List.set_cons_succ]
          refine wpAnyH_ready (rs := [4]) (by kernel_rfl) (by simp) ?_
          refine AllReadyH.cons (o := ⟨some 42, _, _, _, _, _⟩) rfl (fun K hK => ?_) AllReadyH.nil
          refine step_append_seen _ (by rfl) _ _ _ (by rfl) w.heap.size 4 j0 _ 1 1 Try.underlying29 hj0 hy0 hy1 hy2 rfl (by omega) (.slice A k c) k (Y.map .bool) (by rfl) HO5.out _ Ac5 16 cc5 (X3.map .bool) (by rfl) HS5.out (bools_one _) (by simp only [maxLen]; omega) (by omega) hHeld.2.size ?_
          intro v6 w6 hown6 hg6 hat6
          have HO6 : Hid (w6.ownsRow w.heap.size 4 1 v6 (k + 16) ((Y ++ X3).map .bool)) := Lib.hid (by rw [List.map_append]; exact hown6)
          have HG6 := Lib.hid hg6; clear hown6 hg6 hat6
          refine hK.out _ _ ?_ (fun hHeld2 => ?_)
          · exact ⟨hHeld.1.grown HG6.out (fun e => own_ne_whole HO5.out hHeld.1 (by decide) _ e.symm rfl), hHeld.2.grown HG6.out hHeld.2.size (fun j hj => (own_whole HO5.out hj).1)⟩
          clear hK K hHeld
          have hHeld := hHeld2; clear hHeld2
          try simp only [Act.put, List.setIfInBounds_toArray, List.set_cons_zero, List.set_cons_succ]
          obtain ⟨A6, c6, rfl, _⟩ := own_form HO6.out
          refine wpAnyH_ready (rs := [12]) (by kernel_rfl) (by simp) ?_
          refine AllReadyH.cons (o := ⟨some 50, _, _, _, _, _⟩) rfl (fun K hK => ?_) AllReadyH.nil
          go_simp
          refine (C4.out _).mono ?_
          rintro e w7 ⟨v7, rfl, hown, hb⟩
          obtain ⟨Ac7, cc7, rfl, _, hs⟩ := own_seen hown
          have HO7 := Lib.hid (own_only HO6.out (Only.of_below hb Nob) (fun _ _ h => h)); have HB7 := Lib.hid hb; have HS7 := Lib.hid hs; clear hown hb hs
          refine hK.out _ _ ?_ (fun hHeld2 => ?_)
          · exact ⟨hHeld.1.only (Only.of_below HB7.out Nob) (fun h => h), hHeld.2.trans (HB7.out.mono hHeld.2.size)⟩
          clear hK K hHeld
          have hHeld := hHeld2; clear hHeld2
          try simp only [Act.put, List.setIfInBounds_toArray, List.set_cons_zero, List.set_cons_succ]
          refine wpAnyH_ready (rs := [13]) (by kernel_rfl) (by simp) ?_
          refine AllReadyH.cons (o := ⟨some 51, _, _, _, _, _⟩) rfl (fun K hK => ?_) AllReadyH.nil
          refine step_append_seen _ (by rfl) _ _ _ (by rfl) w.heap.size 4 j0 _ 1 1 Try.underlying29 hj0 hy0 hy1 hy2 rfl (by omega) (.slice A6 (k + 16) c6) (k + 16) ((Y ++ X3).map .bool) (by rfl) HO7.out _ Ac7 16 cc7 (X4.map .bool) (by rfl) HS7.out (bools_one _) (by simp only [maxLen]; omega) (by omega) hHeld.2.size ?_
          intro v9 w9 hown9 hg9 hat9
          have HO9 : Hid (w9.ownsRow w.heap.size 4 1 v9 (k + 16 + 16) ((Y ++ X3 ++ X4).map .bool)) := Lib.hid (by rw [List.map_append]; exact hown9)
          have HG9 := Lib.hid hg9; clear hown9 hg9 hat9
          refine hK.out _ _ ?_ (fun hHeld2 => ?_)
          · exact ⟨hHeld.1.grown HG9.out (fun e => own_ne_whole HO7.out hHeld.1 (by decide) _ e.symm rfl), hHeld.2.grown HG9.out hHeld.2.size (fun j hj => (own_whole HO7.out hj).1)⟩
          clear hK K hHeld
          have hHeld := hHeld2; clear hHeld2
          try simp only [Act.put, List.setIfInBounds_toArray, List.set_cons_zero, List.set_cons_succ]
          obtain ⟨A10, c10, rfl, _⟩ := own_form HO9.out
          have HY9 : Hid ((Y ++ X3 ++ X4).length = k + 16 + 16) := Lib.hid (by rw [List.length_append, List.length_append, HY.out, LX3.out, LX4.out])
          obtain ⟨Y9, hY9⟩ : ∃ Z, Y ++ X3 ++ X4 = Z := ⟨_, rfl⟩
          rw [hY9] at HO9 HY9
          clear hY9
          refine wpAnyH_take (i := 14) (oi := ⟨some 6, _, _, _, _, _⟩) (v := ?vbt14) rfl (by kernel_rfl) (by kernel_rfl) (by kernel_rfl) (fun _ _ _ h => h) (Or.inl ⟨by rfl, ?hybt14⟩) (by assumption) ?restbt14
          case hybt14 => intro W hSW; go_simp; try rfl
          try simp only [Act.put, List.setIfInBounds_toArray, List.set_cons_zero, List.set_cons_succ]
          refine wpAnyH_done (by kernel_rfl) ?_ _
          have HP9 := Lib.hid hHeld.1
          have B9 := Lib.hid hHeld.2
          clear hHeld
          have q2 : w9.cell? ⟨gp, 2, none⟩ = some (.slice Ar nr cr) := HP9.out.cell 2
          go_wp2_with fail
          refine (CO.out _ B9.out).mono ?_
          rintro e wa ⟨va, rfl, howna, hba⟩
          obtain ⟨Aa, ca, rfl, _, hsa⟩ := own_seen howna
          have SA := Lib.hid hsa
          have OA := Lib.hid (own_only HO9.out (Only.of_below hba Nob) (fun _ _ h => h))
          have BA := Lib.hid (B9.out.trans (hba.mono B9.out.size))
          clear howna hsa hba q2
          have e8 : (8 : Int) * nr = ((8 * nr : Nat) : Int) := by omega
          go_wp2_with (at_builtin; refine wpList_append_seen _ rfl (.tmp 52) (.tmp 55) _ rfl w.heap.size 4 j0 _ 1 1 Try.underlying29 hj0 hy0 hy1 hy2 rfl (by omega) (.slice A10 (k + 16 + 16) c10) (k + 16 + 16) (Y9.map .bool) rfl OA.out _ Aa (8 * nr) ca (UB.map .bool) rfl SA.out (bools_one _) (by simp only [maxLen]; omega) (by omega) BA.out.size ?_; intro vb wb hownb hgb hatb)
          have HOB : Hid (wb.ownsRow w.heap.size 4 1 vb (Y9 ++ UB).length ((Y9 ++ UB).map .bool)) := Lib.hid (by rw [List.length_append, HY9.out, HU.out, List.map_append]; exact hownb)
          have BB := Lib.hid (BA.out.grown hgb BA.out.size (fun j hj => (own_whole OA.out hj).1))
          have HLB : Hid ((Y9 ++ UB).length ≤ 9000) := Lib.hid (by rw [List.length_append, HY9.out, HU.out]; omega)
          obtain ⟨YB, hYB⟩ : ∃ Z, Y9 ++ UB = Z := ⟨_, rfl⟩
          rw [hYB] at HOB HLB
          clear hownb hgb hatb hYB
          obtain ⟨Ab, cb, rfl, _⟩ := own_form HOB.out
          go_wp2_with fail
          go_ret
          exact ⟨YB, _, HLB.out, rfl, HOB.out, BB.out⟩
        · have dr : ((r : Int) == 0) = false := by simp; omega
          have dr' : (r == 0) = false := by simp; omega
          have HSN : Hid (Seen (wr.alloc (.cells #[.bool false] 4)) (wr.heap.size + 1) 1 (some ⟨wr.heap.size, 0, none⟩) 1 1 [.bool false]) := Lib.hid (seen_one _ 4 (.bool false))
          have hba : Below wr.heap.size wr (wr.alloc (.cells #[.bool false] 4)) := (Below.refl _ _).alloc (Nat.le_refl _) _
          have HOA := Lib.hid (own_only HO.out (Only.of_below hba Nob) (fun _ _ h => h))
          have HBA := Lib.hid (HB.out.trans (hba.mono HB.out.size))
          have HPA := Lib.hid (HP.out.only (Only.of_below hba Nob) (fun h => h))
          clear hba
          go_wp2_with (at_builtin; refine wpList_append_seen _ rfl (.tmp 32) (.tmp 33) _ rfl w.heap.size 4 j0 _ 1 1 Try.underlying29 hj0 hy0 hy1 hy2 rfl (by omega) (.slice A k c) k (Y.map .bool) rfl HOA.out _ _ 1 1 [.bool false] rfl HSN.out (by simp [Value.oneCell']) (by simp only [maxLen]; omega) (by omega) HBA.out.size ?_; intro v6 w6 hown6 hg6 hat6)
          have HP6 := Lib.hid (HPA.out.grown hg6 (fun e => own_ne_whole HOA.out HPA.out (by decide) _ e.symm rfl))
          have HB6 := Lib.hid (HBA.out.grown hg6 HBA.out.size (fun j hj => (own_whole HOA.out hj).1))
          have HO6 := Lib.hid hown6
          clear hown6 hg6 hat6
          have hm : (8 - (have_ + (k + 1)) % 8) % 8 + 1 = (8 - (have_ + k) % 8) % 8 := by
            have h1 := HQ.out; have h2 := HR.out
            subst h1 h2
            omega
          go_roundg ((8 - (have_ + (k + 1)) % 8) % 8)
          case measure => omega
          case rel => exact ⟨Y ++ [false], k + 1, by rw [List.length_append, HY.out]; rfl, rfl, by omega, by rw [List.map_append]; exact HO6.out, HP6.out, HB6.out⟩
    · have dk0 : ((kq : Int) == 0) = false := by simp; omega
      have dk0' : (kq == 0) = false := by simp; omega
      go_wp2_with fail
      refine (CF.out _).mono ?_
      rintro e w4 ⟨u4, v4, rfl, hu, hv, hb4⟩
      obtain ⟨Au, cu, rfl, _⟩ := own_form hu
      obtain ⟨Av, cv, rfl, _⟩ := own_form hv
      have HU4 := Lib.hid hu; have HV4 := Lib.hid hv
      have HP4 := Lib.hid (HP3.out.only (Only.of_below hb4 Nob) (fun h => h))
      have HR4 := Lib.hid (own_only HR3.out (Only.of_below hb4 Nob) (fun _ _ h => h))
      have B4 := Lib.hid (B3.out.trans (hb4.mono B3.out.size))
      clear hu hv hb4 HP3 HR3 B3 q0
      have q0 : w4.cell? ⟨gp, 0, none⟩ = some (.int .u8 kd) := HP4.out.cell 0
      by_cases hk2 : kq = 2
      · subst hk2
        go_wp2_with fail
        clear q0
        refine wp_region_held_drew (S := (fun W => Whole W gp 33 #[.int .u8 kd, .bool true, .slice Ar nr cr, .slice As ns cs, .slice Am nm cm, .int .i64 sp, .slice Al nl cl, .slice Af nf cf] ∧ Below w.heap.size w W)) (by kernel_rfl) ⟨HP4.out.drew, ⟨B4.out.os, B4.out.tape, B4.out.output, B4.out.size, B4.out.block⟩⟩ (fun hHeld => ?_)
        refine wpAnyH_take (i := 0) (oi := ⟨some 65, _, _, _, _, _⟩) (v := ?vct0) rfl (by kernel_rfl) (by kernel_rfl) (by kernel_rfl) (fun _ _ _ h => h) (Or.inl ⟨by rfl, ?hyct0⟩) (by assumption) ?restct0
        case hyct0 => intro W hSW; go_simp; try rfl
        try simp only [Act.put, List.setIfInBounds_toArray, List.set_cons_zero, List.set_cons_succ]
        refine wpAnyH_take (i := 1) (oi := ⟨some 66, _, _, _, _, _⟩) (v := ?vct1) rfl (by kernel_rfl) (by kernel_rfl) (by kernel_rfl) (fun _ _ _ h => h) (Or.inl ⟨by rfl, ?hyct1⟩) (by assumption) ?restct1
        case hyct1 => intro W hSW; have q6 : W.cell? ⟨gp, 6, none⟩ = some (.slice Al nl cl) := hSW.1.cell 6; go_simp; try rfl
        try simp only [Act.put, List.setIfInBounds_toArray, List.set_cons_zero, List.set_cons_succ]
        refine wpAnyH_take (i := 4) (oi := ⟨some 8, _, _, _, _, _⟩) (v := ?vct4) rfl (by kernel_rfl) (by kernel_rfl) (by kernel_rfl) (fun _ _ _ h => h) (Or.inl ⟨by rfl, ?hyct4⟩) (by assumption) ?restct4
        case hyct4 => intro W hSW; go_simp; try rfl
        try simp only [Act.put, List.setIfInBounds_toArray, List.set_cons_zero, List.set_cons_succ]
        refine wpAnyH_take (i := 2) (oi := ⟨some 67, _, _, _, _, _⟩) (v := ?vct2) rfl (by kernel_rfl) (by kernel_rfl) (by kernel_rfl) (fun _ _ _ h => h) (Or.inl ⟨by rfl, ?hyct2⟩) (by assumption) ?restct2
        case hyct2 => intro W hSW; go_simp; try rfl
        try simp only [Act.put, List.setIfInBounds_toArray, List.set_cons_zero, List.set_cons_succ]
        refine wpAnyH_take (i := 3) (oi := ⟨some 68, _, _, _, _, _⟩) (v := ?vct3) rfl (by kernel_rfl) (by kernel_rfl) (by kernel_rfl) (fun _ _ _ h => h) (Or.inl ⟨by rfl, ?hyct3⟩) (by assumption) ?restct3
        case hyct3 => intro W hSW; have q7 : W.cell? ⟨gp, 7, none⟩ = some (.slice Af nf cf) := hSW.1.cell 7; go_simp; try rfl
        try simp only [Act.put, List.setIfInBounds_toArray, List.set_cons_zero, List.set_cons_succ]
        refine wpAnyH_take (i := 5) (oi := ⟨some 9, _, _, _, _, _⟩) (v := ?vct5) rfl (by kernel_rfl) (by kernel_rfl) (by kernel_rfl) (fun _ _ _ h => h) (Or.inl ⟨by rfl, ?hyct5⟩) (by assumption) ?restct5
        case hyct5 => intro W hSW; go_simp; try rfl
        try simp only [Act.put, List.setIfInBounds_toArray, List.set_cons_zero, List.set_cons_succ]
        refine wpAnyH_done (by kernel_rfl) ?_ _
        have HRd : Hid (w4.drew.ownsRow w.heap.size 4 1 (.slice A3 3 c3) 3 (X.map .bool)) := Lib.hid HR4.out
        have HPd := Lib.hid hHeld.1
        have Bd := Lib.hid hHeld.2
        clear hHeld HP4 HR4 B4
        go_wp2_with fail
        refine (CH.out _ Bd.out).mono ?_
        rintro e w5 ⟨Lh, vh, ok, hLh, rfl, hownh, hbh, hok⟩
        have HR5 := Lib.hid (own_only HRd.out (Only.of_below hbh Nob) (fun _ _ h => h))
        have HP5 := Lib.hid (HPd.out.only (Only.of_below hbh Nob) (fun h => h))
        have B5 := Lib.hid (Bd.out.trans (hbh.mono Bd.out.size))
        obtain ⟨nH, hnH⟩ : ∃ nH, Lh.length = nH := ⟨_, rfl⟩
        have HNH := Lib.hid hnH
        rw [hnH] at hownh hLh
        obtain ⟨Ah, ch, rfl, _, hsh⟩ := own_seen hownh
        have SH := Lib.hid hsh
        clear hownh hbh hsh hnH HRd HPd Bd
        cases ok with
        | false =>
          go_wp2_with fail
          go_ret
          exact ⟨X, _, by rw [HX.out]; omega, rfl, by rw [HX.out]; exact HR5.out, B5.out⟩
        | true =>
          obtain ⟨h1, h2, h3, h4⟩ := hok rfl
          go_wp2_with (at_builtin; refine wpList_append_seen _ rfl (.tmp 78) (.tmp 79) _ rfl w.heap.size 4 j0 _ 1 1 Try.underlying29 hj0 hy0 hy1 hy2 rfl (by omega) (.slice A3 3 c3) 3 (X.map .bool) rfl HR5.out _ Ah nH ch (Lh.map .bool) rfl SH.out (bools_one _) (by simp only [maxLen]; omega) (by omega) B5.out.size ?_; intro v6 w6 hown6 hg6 hat6; (have HX6 : Hid ((X ++ Lh).length = 3 + nH) := Lib.hid (by rw [List.length_append, HX.out, HNH.out])); (have HR6 : Hid (w6.ownsRow w.heap.size 4 1 v6 (3 + nH) ((X ++ Lh).map .bool)) := Lib.hid (by rw [List.map_append]; exact hown6)); have HP6 := Lib.hid (HP5.out.grown hg6 (fun e => own_ne_whole HR5.out HP5.out (by decide) _ e.symm rfl)); have B6 := Lib.hid (B5.out.grown hg6 B5.out.size (fun j hj => (own_whole HR5.out hj).1)); clear hown6 hg6 hat6 HR5 HP5 B5 SH; obtain ⟨Z6, hZ6⟩ : ∃ Z, X ++ Lh = Z := ⟨_, rfl⟩; rw [hZ6] at HX6 HR6; obtain ⟨A6, c6, rfl, _⟩ := own_form HR6.out; clear hZ6; have p0 : w6.cell? ⟨gp, 0, none⟩ = some (.int .u8 kd) := HP6.out.cell 0; have p1 : w6.cell? ⟨gp, 1, none⟩ = some (.bool true) := HP6.out.cell 1; have p2 : w6.cell? ⟨gp, 2, none⟩ = some (.slice Ar nr cr) := HP6.out.cell 2; have p3 : w6.cell? ⟨gp, 3, none⟩ = some (.slice As ns cs) := HP6.out.cell 3; have p4 : w6.cell? ⟨gp, 4, none⟩ = some (.slice Am nm cm) := HP6.out.cell 4; have p5 : w6.cell? ⟨gp, 5, none⟩ = some (.int .i64 sp) := HP6.out.cell 5; have p6 : w6.cell? ⟨gp, 6, none⟩ = some (.slice Al nl cl) := HP6.out.cell 6; have p7 : w6.cell? ⟨gp, 7, none⟩ = some (.slice Af nf cf) := HP6.out.cell 7)
          refine (CS.out _ B6.out Al nl cl Af nf cf ls fs HLS.out HFS.out (by omega) (by omega) (by omega) (HS4.out _ B6.out) (HS5.out _ B6.out)).mono ?_
          rintro e wa ⟨Ls, va, hLs, rfl, howna, hba⟩
          obtain ⟨Aa, ca, rfl, _, hsa⟩ := own_seen howna
          have SA := Lib.hid hsa
          have OA := Lib.hid (own_only HR6.out (Only.of_below hba Nob) (fun _ _ h => h))
          have BA := Lib.hid (B6.out.trans (hba.mono B6.out.size))
          obtain ⟨nL, hnL⟩ : ∃ nL, Ls.length = nL := ⟨_, rfl⟩
          have HNL := Lib.hid hnL
          rw [hnL] at SA hLs ⊢
          clear howna hsa hba hnL
          go_wp2_with (at_builtin; refine wpList_append_seen _ rfl (.tmp 81) (.tmp 85) _ rfl w.heap.size 4 j0 _ 1 1 Try.underlying29 hj0 hy0 hy1 hy2 rfl (by omega) (.slice A6 (3 + nH) c6) (3 + nH) (Z6.map .bool) rfl OA.out _ Aa nL ca (Ls.map .bool) rfl SA.out (bools_one _) (by simp only [maxLen]; omega) (by omega) BA.out.size ?_; intro vb wb hownb hgb hatb)
          have HOB : Hid (wb.ownsRow w.heap.size 4 1 vb (Z6 ++ Ls).length ((Z6 ++ Ls).map .bool)) := Lib.hid (by rw [List.length_append, HX6.out, HNL.out, List.map_append]; exact hownb)
          have BB := Lib.hid (BA.out.grown hgb BA.out.size (fun j hj => (own_whole OA.out hj).1))
          have HLB : Hid ((Z6 ++ Ls).length ≤ 9000) := Lib.hid (by rw [List.length_append, HX6.out, HNL.out]; omega)
          obtain ⟨YB, hYB⟩ : ∃ Z, Z6 ++ Ls = Z := ⟨_, rfl⟩
          rw [hYB] at HOB HLB
          clear hownb hgb hatb hYB
          obtain ⟨Ab, cb, rfl, _⟩ := own_form HOB.out
          go_wp2_with fail
          go_ret
          exact ⟨YB, _, HLB.out, rfl, HOB.out, BB.out⟩
      · have dk2 : ((kq : Int) == 2) = false := by simp; omega
        have dk2' : (kq == 2) = false := by simp; omega
        have p0 : w4.cell? ⟨gp, 0, none⟩ = some (.int .u8 kd) := HP4.out.cell 0
        have p1 : w4.cell? ⟨gp, 1, none⟩ = some (.bool true) := HP4.out.cell 1
        have p2 : w4.cell? ⟨gp, 2, none⟩ = some (.slice Ar nr cr) := HP4.out.cell 2
        have p3 : w4.cell? ⟨gp, 3, none⟩ = some (.slice As ns cs) := HP4.out.cell 3
        have p4 : w4.cell? ⟨gp, 4, none⟩ = some (.slice Am nm cm) := HP4.out.cell 4
        have p5 : w4.cell? ⟨gp, 5, none⟩ = some (.int .i64 sp) := HP4.out.cell 5
        have p6 : w4.cell? ⟨gp, 6, none⟩ = some (.slice Al nl cl) := HP4.out.cell 6
        have p7 : w4.cell? ⟨gp, 7, none⟩ = some (.slice Af nf cf) := HP4.out.cell 7
        go_wp2_with fail
        refine (CS.out _ B4.out Au 288 cu Av 32 cv fixL fixD (by kernel_rfl) (by kernel_rfl) (by omega) (by omega) (by omega) (Seen.of_own HU4.out) (Seen.of_own HV4.out)).mono ?_
        rintro e wa ⟨Ls, va, hLs, rfl, howna, hba⟩
        obtain ⟨Aa, ca, rfl, _, hsa⟩ := own_seen howna
        have SA := Lib.hid hsa
        have OA := Lib.hid (own_only HR4.out (Only.of_below hba Nob) (fun _ _ h => h))
        have BA := Lib.hid (B4.out.trans (hba.mono B4.out.size))
        obtain ⟨nL, hnL⟩ : ∃ nL, Ls.length = nL := ⟨_, rfl⟩
        have HNL := Lib.hid hnL
        rw [hnL] at SA hLs ⊢
        clear howna hsa hba hnL
        go_wp2_with (at_builtin; refine wpList_append_seen _ rfl (.tmp 81) (.tmp 85) _ rfl w.heap.size 4 j0 _ 1 1 Try.underlying29 hj0 hy0 hy1 hy2 rfl (by omega) (.slice A3 3 c3) 3 (X.map .bool) rfl OA.out _ Aa nL ca (Ls.map .bool) rfl SA.out (bools_one _) (by simp only [maxLen]; omega) (by omega) BA.out.size ?_; intro vb wb hownb hgb hatb)
        have HOB : Hid (wb.ownsRow w.heap.size 4 1 vb (X ++ Ls).length ((X ++ Ls).map .bool)) := Lib.hid (by rw [List.length_append, HX.out, HNL.out, List.map_append]; exact hownb)
        have BB := Lib.hid (BA.out.grown hgb BA.out.size (fun j hj => (own_whole OA.out hj).1))
        have HLB : Hid ((X ++ Ls).length ≤ 9000) := Lib.hid (by rw [List.length_append, HX.out, HNL.out]; omega)
        obtain ⟨YB, hYB⟩ : ∃ Z, X ++ Ls = Z := ⟨_, rfl⟩
        rw [hYB] at HOB HLB
        clear hownb hgb hatb hYB
        obtain ⟨Ab, cb, rfl, _⟩ := own_form HOB.out
        go_wp2_with fail
        go_ret
        exact ⟨YB, _, HLB.out, rfl, HOB.out, BB.out⟩
  | false =>
    obtain rfl : lv = 0 := by simpa using hlv
    clear hlv
    go_enter Try.func10, Try.ntmps10
    go_wp2_with fail
    generalize w.alloc (.cells #[.int .u8 kd, .bool false, .slice Ar nr cr, .slice As ns cs, .slice Am nm cm, .int .i64 sp, .slice Al nl cl, .slice Af nf cf] 33) = W0 at *
    obtain ⟨gp, hgp⟩ : ∃ gp, w.heap.size = gp := ⟨_, rfl⟩
    rw [hgp] at HP
    simp only [hgp]
    have HGP := Lib.hid hgp
    clear hgp
    refine wp_region_held_drew (S := (fun W => Whole W gp 33 #[.int .u8 kd, .bool false, .slice Ar nr cr, .slice As ns cs, .slice Am nm cm, .int .i64 sp, .slice Al nl cl, .slice Af nf cf] ∧ Below w.heap.size w W)) (by kernel_rfl) ⟨HP.out.drew, ⟨HBA.out.os, HBA.out.tape, HBA.out.output, HBA.out.size, HBA.out.block⟩⟩ (fun hHeld => ?_)
    refine wpAnyH_take (i := 0) (oi := ⟨some 14, _, _, _, _, _⟩) (v := (.int .u32 0)) rfl (by kernel_rfl) (by kernel_rfl) (by kernel_rfl) (fun _ _ _ h => h) (Or.inl ⟨by rfl, ?hyaf0⟩) (by assumption) ?restaf0
    case hyaf0 => intro W hSW; go_simp; try rfl
    try simp only [Act.put, List.setIfInBounds_toArray, List.set_cons_zero, List.set_cons_succ]
    refine wpAnyH_take (i := 2) (oi := ⟨some 16, _, _, _, _, _⟩) (v := ?vaf2) rfl (by kernel_rfl) (by kernel_rfl) (by kernel_rfl) (fun _ _ _ h => h) (Or.inl ⟨by rfl, ?hyaf2⟩) (by assumption) ?restaf2
    case hyaf2 => intro W hSW; go_simp; try rfl
    try simp only [Act.put, List.setIfInBounds_toArray, List.set_cons_zero, List.set_cons_succ]
    refine wpAnyH_take (i := 3) (oi := ⟨some 17, _, _, _, _, _⟩) (v := ?vaf3) rfl (by kernel_rfl) (by kernel_rfl) (by kernel_rfl) (fun _ _ _ h => h) (Or.inl ⟨by rfl, ?hyaf3⟩) (by assumption) ?restaf3
    case hyaf3 => intro W hSW; have q0 : W.cell? ⟨gp, 0, none⟩ = some (.int .u8 kd) := hSW.1.cell 0; go_simp; try rfl
    try simp only [Act.put, List.setIfInBounds_toArray, List.set_cons_zero, List.set_cons_succ]
    refine wpAnyH_take (i := 4) (oi := ⟨some 18, _, _, _, _, _⟩) (v := ?vaf4) rfl (by kernel_rfl) (by kernel_rfl) (by kernel_rfl) (fun _ _ _ h => h) (Or.inl ⟨by rfl, ?hyaf4⟩) (by assumption) ?restaf4
    case hyaf4 => intro W hSW; go_simp; try rfl
    try simp only [Act.put, List.setIfInBounds_toArray, List.set_cons_zero, List.set_cons_succ]
    refine wpAnyH_take (i := 5) (oi := ⟨some 19, _, _, _, _, _⟩) (v := ?vaf5) rfl (by kernel_rfl) (by kernel_rfl) (by kernel_rfl) (fun _ _ _ h => h) (Or.inl ⟨by rfl, ?hyaf5⟩) (by assumption) ?restaf5
    case hyaf5 => intro W hSW; go_simp; try rfl
    try simp only [Act.put, List.setIfInBounds_toArray, List.set_cons_zero, List.set_cons_succ]
    refine wpAnyH_ready (rs := [1]) (by kernel_rfl) (by simp) ?_
    refine AllReadyH.cons (o := ⟨some 15, _, _, _, _, _⟩) rfl (fun K hK => ?_) AllReadyH.nil
    go_simp
    refine (C1.out _).mono ?_
    rintro e w1 ⟨v1, rfl, hown1, hb1⟩
    obtain ⟨A1, c1, rfl, _⟩ := own_form hown1
    have HO1 := Lib.hid hown1; have HB1 := Lib.hid hb1; clear hown1 hb1
    refine hK.out _ _ ?_ (fun hHeld2 => ?_)
    · exact ⟨hHeld.1.only (Only.of_below HB1.out Nob) (fun h => h), hHeld.2.trans (HB1.out.mono hHeld.2.size)⟩
    clear hK K hHeld
    have hHeld := hHeld2; clear hHeld2
    try simp only [Act.put, List.setIfInBounds_toArray, List.set_cons_zero, List.set_cons_succ]
    refine wpAnyH_ready (rs := [6]) (by kernel_rfl) (by simp) ?_
    refine AllReadyH.cons (o := ⟨some 20, _, _, _, _, _⟩) rfl (fun K hK => ?_) AllReadyH.nil
    go_simp
    refine (C2.out _).mono ?_
    rintro e w2 ⟨v2, rfl, hown2, hb2⟩
    obtain ⟨A2, c2, rfl, _, hs2⟩ := own_seen hown2
    have HO2 := Lib.hid (own_only HO1.out (Only.of_below hb2 Nob) (fun _ _ h => h)); have HB2 := Lib.hid hb2; have HS2 := Lib.hid hs2; clear hown2 hb2 hs2 HO1
    refine hK.out _ _ ?_ (fun hHeld2 => ?_)
    · exact ⟨hHeld.1.only (Only.of_below HB2.out Nob) (fun h => h), hHeld.2.trans (HB2.out.mono hHeld.2.size)⟩
    clear hK K hHeld
    have hHeld := hHeld2; clear hHeld2
    try simp only [Act.put, List.setIfInBounds_toArray, List.set_cons_zero, List.set_cons_succ]
    refine wpAnyH_ready (rs := [7]) (by kernel_rfl) (by simp) ?_
    refine AllReadyH.cons (o := ⟨some 21, _, _, _, _, _⟩) rfl (fun K hK => ?_) AllReadyH.nil
    refine step_append_seen _ (by rfl) _ _ _ (by rfl) W0.heap.size 4 j0 _ 1 1 Try.underlying29 hj0 hy0 hy1 hy2 rfl (by omega) (.slice A1 1 c1) 1 (X1.map .bool) (by rfl) HO2.out _ A2 2 c2 (X2.map .bool) (by rfl) HS2.out (bools_one _) (by simp only [maxLen]; omega) (by omega) (Nat.le_trans HB1.out.size HB2.out.size) ?_
    intro v3 w3 hown3 hg3 hat3
    have HO3 := Lib.hid hown3; have HG3 := Lib.hid hg3; clear hown3 hg3 hat3
    refine hK.out _ _ ?_ (fun hHeld2 => ?_)
    · exact ⟨hHeld.1.grown HG3.out (fun e => own_ne_whole HO2.out hHeld.1 (by decide) _ e.symm rfl), hHeld.2.grown HG3.out hHeld.2.size (fun j hj => Nat.le_trans HBA.out.size (own_whole HO2.out hj).1)⟩
    clear hK K hHeld
    have hHeld := hHeld2; clear hHeld2
    try simp only [Act.put, List.setIfInBounds_toArray, List.set_cons_zero, List.set_cons_succ]
    refine wpAnyH_take (i := 8) (oi := ⟨some 6, _, _, _, _, _⟩) (v := ?vaf8) rfl (by kernel_rfl) (by kernel_rfl) (by kernel_rfl) (fun _ _ _ h => h) (Or.inl ⟨by rfl, ?hyaf8⟩) (by assumption) ?restaf8
    case hyaf8 => intro W hSW; go_simp; try rfl
    try simp only [Act.put, List.setIfInBounds_toArray, List.set_cons_zero, List.set_cons_succ]
    refine wpAnyH_done (by kernel_rfl) ?_ _
    have HP3 := Lib.hid hHeld.1
    have B3 := Lib.hid hHeld.2
    clear hHeld
    have HX : Hid ((X1 ++ X2).length = 3) := Lib.hid (by rw [List.length_append, LX1.out, LX2.out])
    have HR3 : Hid (w3.ownsRow w.heap.size 4 1 v3 3 ((X1 ++ X2).map .bool)) := Lib.hid (by rw [List.map_append]; exact own_base HO3.out HBA.out.size)
    obtain ⟨X, hX⟩ : ∃ X, X1 ++ X2 = X := ⟨_, rfl⟩
    rw [hX] at HX HR3
    obtain ⟨A3, c3, rfl, _⟩ := own_form HR3.out
    clear hX HO3 HB1 HB2 HS2 HO2 HG3 LX1 LX2 C1 C2 HP HBA
    have q0 : w3.cell? ⟨gp, 0, none⟩ = some (.int .u8 kd) := HP3.out.cell 0
    by_cases hk0 : kq = 0
    · subst hk0
      go_wp2_with fail
      clear q0
      go_loopg [6] ((8 - (have_ + 3) % 8) % 8) (fun j s wr => ∃ (X : List Bool) (k : Nat), X.length = k ∧ j = (8 - (have_ + k) % 8) % 8 ∧ k + j ≤ 10 ∧ wr.ownsRow w.heap.size 4 1 s k (X.map .bool) ∧ Whole wr gp 33 #[.int .u8 kd, .bool false, .slice Ar nr cr, .slice As ns cs, .slice Am nm cm, .int .i64 sp, .slice Al nl cl, .slice Af nf cf] ∧ Below w.heap.size w wr)
      case atStart => exact ⟨X, 3, HX.out, rfl, by omega, HR3.out, HP3.out, B3.out⟩
      case round =>
        obtain ⟨Y, k, hY, rfl, hk10, hown, hP, hbel⟩ := hrel
        obtain ⟨A, c, rfl, _⟩ := own_form hown
        obtain ⟨q, hq⟩ : ∃ q, have_ + k = q := ⟨_, rfl⟩
        have eq1 : (have_ : Int) + k = q := by omega
        have wq : IntKind.i64.wrap (q : Int) = q := IntWalk.i64_in _ (by omega)
        obtain ⟨r, hr⟩ : ∃ r, q % 8 = r := ⟨_, rfl⟩
        have er1 : (q : Int).tmod 8 = r := by rw [Int.tmod_eq_emod_of_nonneg (by omega)]; omega
        have er2 : (q : Int) % 8 = r := by omega
        have wrr : IntKind.i64.wrap (r : Int) = r := IntWalk.i64_in _ (by omega)
        have HO := Lib.hid hown; have HP := Lib.hid hP; have HB := Lib.hid hbel; have HY := Lib.hid hY
        have HQ := Lib.hid hq; have HR := Lib.hid hr
        clear hown hP hbel hY hq hr
        by_cases hr0 : r = 0
        · subst hr0
          have q2 := HP.out.cell 2
          simp only [List.getElem?_toArray, List.getElem?_cons_succ, List.getElem?_cons_zero] at q2
          go_wp2_with fail
          clear q2
          have HOd : Hid (wr.drew.ownsRow w.heap.size 4 1 (.slice A k c) k (Y.map .bool)) := Lib.hid HO.out
          refine wp_region_held_drew (S := (fun W => Whole W gp 33 #[.int .u8 kd, .bool false, .slice Ar nr cr, .slice As ns cs, .slice Am nm cm, .int .i64 sp, .slice Al nl cl, .slice Af nf cf] ∧ Below w.heap.size w W)) (by kernel_rfl) ⟨HP.out.drew, ⟨HB.out.os, HB.out.tape, HB.out.output, HB.out.size, HB.out.block⟩⟩ (fun hHeld => ?_)
          refine wpAnyH_take (i := 0) (oi := ⟨some 38, _, _, _, _, _⟩) (v := ?vbf0) rfl (by kernel_rfl) (by kernel_rfl) (by kernel_rfl) (fun _ _ _ h => h) (Or.inl ⟨by rfl, ?hybf0⟩) (by assumption) ?restbf0
          case hybf0 => intro W hSW; go_simp; try rfl
          try simp only [Act.put, List.setIfInBounds_toArray, List.set_cons_zero, List.set_cons_succ]
          refine wpAnyH_take (i := 1) (oi := ⟨some 39, _, _, _, _, _⟩) (v := ?vbf1) rfl (by kernel_rfl) (by kernel_rfl) (by kernel_rfl) (fun _ _ _ h => h) (Or.inl ⟨by rfl, ?hybf1⟩) (by assumption) ?restbf1
          case hybf1 => intro W hSW; go_simp; try rfl
          try simp only [Act.put, List.setIfInBounds_toArray, List.set_cons_zero, List.set_cons_succ]
          refine wpAnyH_take (i := 2) (oi := ⟨some 40, _, _, _, _, _⟩) (v := ?vbf2) rfl (by kernel_rfl) (by kernel_rfl) (by kernel_rfl) (fun _ _ _ h => h) (Or.inl ⟨by rfl, ?hybf2⟩) (by assumption) ?restbf2
          case hybf2 => intro W hSW; go_simp; try rfl
          try simp only [Act.put, List.setIfInBounds_toArray, List.set_cons_zero, List.set_cons_succ]
          refine wpAnyH_take (i := 5) (oi := ⟨some 43, _, _, _, _, _⟩) (v := ?vbf5) rfl (by kernel_rfl) (by kernel_rfl) (by kernel_rfl) (fun _ _ _ h => h) (Or.inl ⟨by rfl, ?hybf5⟩) (by assumption) ?restbf5
          case hybf5 => intro W hSW; go_simp; try rfl
          try simp only [Act.put, List.setIfInBounds_toArray, List.set_cons_zero, List.set_cons_succ]
          refine wpAnyH_take (i := 6) (oi := ⟨some 44, _, _, _, _, _⟩) (v := ?vbf6) rfl (by kernel_rfl) (by kernel_rfl) (by kernel_rfl) (fun _ _ _ h => h) (Or.inl ⟨by rfl, ?hybf6⟩) (by assumption) ?restbf6
          case hybf6 => intro W hSW; go_simp; try rfl
          try simp only [Act.put, List.setIfInBounds_toArray, List.set_cons_zero, List.set_cons_succ]
          refine wpAnyH_take (i := 7) (oi := ⟨some 45, _, _, _, _, _⟩) (v := ?vbf7) rfl (by kernel_rfl) (by kernel_rfl) (by kernel_rfl) (fun _ _ _ h => h) (Or.inl ⟨by rfl, ?hybf7⟩) (by assumption) ?restbf7
          case hybf7 => intro W hSW; go_simp; try rfl
          try simp only [Act.put, List.setIfInBounds_toArray, List.set_cons_zero, List.set_cons_succ]
          refine wpAnyH_take (i := 8) (oi := ⟨some 46, _, _, _, _, _⟩) (v := ?vbf8) rfl (by kernel_rfl) (by kernel_rfl) (by kernel_rfl) (fun _ _ _ h => h) (Or.inl ⟨by rfl, ?hybf8⟩) (by assumption) ?restbf8
          case hybf8 => intro W hSW; have q5 : W.cell? ⟨gp, 5, none⟩ = some (.int .i64 sp) := hSW.1.cell 5; go_simp; try rfl
          try simp only [Act.put, List.setIfInBounds_toArray, List.set_cons_zero, List.set_cons_succ]
          refine wpAnyH_take (i := 9) (oi := ⟨some 47, _, _, _, _, _⟩) (v := ?vbf9) rfl (by kernel_rfl) (by kernel_rfl) (by kernel_rfl) (fun _ _ _ h => h) (Or.inl ⟨by rfl, ?hybf9⟩) (by assumption) ?restbf9
          case hybf9 => intro W hSW; go_simp; try rfl
          try simp only [Act.put, List.setIfInBounds_toArray, List.set_cons_zero, List.set_cons_succ]
          refine wpAnyH_take (i := 10) (oi := ⟨some 48, _, _, _, _, _⟩) (v := ?vbf10) rfl (by kernel_rfl) (by kernel_rfl) (by kernel_rfl) (fun _ _ _ h => h) (Or.inl ⟨by rfl, ?hybf10⟩) (by assumption) ?restbf10
          case hybf10 => intro W hSW; go_simp; try rfl
          try simp only [Act.put, List.setIfInBounds_toArray, List.set_cons_zero, List.set_cons_succ]
          refine wpAnyH_take (i := 11) (oi := ⟨some 49, _, _, _, _, _⟩) (v := ?vbf11) rfl (by kernel_rfl) (by kernel_rfl) (by kernel_rfl) (fun _ _ _ h => h) (Or.inl ⟨by rfl, ?hybf11⟩) (by assumption) ?restbf11
          case hybf11 => intro W hSW; go_simp; try rfl
          try simp only [Act.put, List.setIfInBounds_toArray, List.set_cons_zero, List.set_cons_succ]
          refine wpAnyH_ready (rs := [3]) (by kernel_rfl) (by simp) ?_
          refine AllReadyH.cons (o := ⟨some 41, _, _, _, _, _⟩) rfl (fun K hK => ?_) AllReadyH.nil
          go_simp
          refine (C3.out _).mono ?_
          rintro e w5 ⟨v5, rfl, hown, hb⟩
          obtain ⟨Ac5, cc5, rfl, _, hs⟩ := own_seen hown
          have HO5 := Lib.hid (own_only HOd.out (Only.of_below hb Nob) (fun _ _ h => h)); have HB5 := Lib.hid hb; have HS5 := Lib.hid hs; clear hown hb hs
          refine hK.out _ _ ?_ (fun hHeld2 => ?_)
          · exact ⟨hHeld.1.only (Only.of_below HB5.out Nob) (fun h => h), hHeld.2.trans (HB5.out.mono hHeld.2.size)⟩
          clear hK K hHeld
          have hHeld := hHeld2; clear hHeld2
          try simp only [Act.put, List.setIfInBounds_toArray, List.set_cons_zero, List.set_cons_succ]
          refine wpAnyH_ready (rs := [4]) (by kernel_rfl) (by simp) ?_
          refine AllReadyH.cons (o := ⟨some 42, _, _, _, _, _⟩) rfl (fun K hK => ?_) AllReadyH.nil
          refine step_append_seen _ (by rfl) _ _ _ (by rfl) w.heap.size 4 j0 _ 1 1 Try.underlying29 hj0 hy0 hy1 hy2 rfl (by omega) (.slice A k c) k (Y.map .bool) (by rfl) HO5.out _ Ac5 16 cc5 (X3.map .bool) (by rfl) HS5.out (bools_one _) (by simp only [maxLen]; omega) (by omega) hHeld.2.size ?_
          intro v6 w6 hown6 hg6 hat6
          have HO6 : Hid (w6.ownsRow w.heap.size 4 1 v6 (k + 16) ((Y ++ X3).map .bool)) := Lib.hid (by rw [List.map_append]; exact hown6)
          have HG6 := Lib.hid hg6; clear hown6 hg6 hat6
          refine hK.out _ _ ?_ (fun hHeld2 => ?_)
          · exact ⟨hHeld.1.grown HG6.out (fun e => own_ne_whole HO5.out hHeld.1 (by decide) _ e.symm rfl), hHeld.2.grown HG6.out hHeld.2.size (fun j hj => (own_whole HO5.out hj).1)⟩
          clear hK K hHeld
          have hHeld := hHeld2; clear hHeld2
          try simp only [Act.put, List.setIfInBounds_toArray, List.set_cons_zero, List.set_cons_succ]
          obtain ⟨A6, c6, rfl, _⟩ := own_form HO6.out
          refine wpAnyH_ready (rs := [12]) (by kernel_rfl) (by simp) ?_
          refine AllReadyH.cons (o := ⟨some 50, _, _, _, _, _⟩) rfl (fun K hK => ?_) AllReadyH.nil
          go_simp
          refine (C4.out _).mono ?_
          rintro e w7 ⟨v7, rfl, hown, hb⟩
          obtain ⟨Ac7, cc7, rfl, _, hs⟩ := own_seen hown
          have HO7 := Lib.hid (own_only HO6.out (Only.of_below hb Nob) (fun _ _ h => h)); have HB7 := Lib.hid hb; have HS7 := Lib.hid hs; clear hown hb hs
          refine hK.out _ _ ?_ (fun hHeld2 => ?_)
          · exact ⟨hHeld.1.only (Only.of_below HB7.out Nob) (fun h => h), hHeld.2.trans (HB7.out.mono hHeld.2.size)⟩
          clear hK K hHeld
          have hHeld := hHeld2; clear hHeld2
          try simp only [Act.put, List.setIfInBounds_toArray, List.set_cons_zero, List.set_cons_succ]
          refine wpAnyH_ready (rs := [13]) (by kernel_rfl) (by simp) ?_
          refine AllReadyH.cons (o := ⟨some 51, _, _, _, _, _⟩) rfl (fun K hK => ?_) AllReadyH.nil
          refine step_append_seen _ (by rfl) _ _ _ (by rfl) w.heap.size 4 j0 _ 1 1 Try.underlying29 hj0 hy0 hy1 hy2 rfl (by omega) (.slice A6 (k + 16) c6) (k + 16) ((Y ++ X3).map .bool) (by rfl) HO7.out _ Ac7 16 cc7 (X4.map .bool) (by rfl) HS7.out (bools_one _) (by simp only [maxLen]; omega) (by omega) hHeld.2.size ?_
          intro v9 w9 hown9 hg9 hat9
          have HO9 : Hid (w9.ownsRow w.heap.size 4 1 v9 (k + 16 + 16) ((Y ++ X3 ++ X4).map .bool)) := Lib.hid (by rw [List.map_append]; exact hown9)
          have HG9 := Lib.hid hg9; clear hown9 hg9 hat9
          refine hK.out _ _ ?_ (fun hHeld2 => ?_)
          · exact ⟨hHeld.1.grown HG9.out (fun e => own_ne_whole HO7.out hHeld.1 (by decide) _ e.symm rfl), hHeld.2.grown HG9.out hHeld.2.size (fun j hj => (own_whole HO7.out hj).1)⟩
          clear hK K hHeld
          have hHeld := hHeld2; clear hHeld2
          try simp only [Act.put, List.setIfInBounds_toArray, List.set_cons_zero, List.set_cons_succ]
          obtain ⟨A10, c10, rfl, _⟩ := own_form HO9.out
          have HY9 : Hid ((Y ++ X3 ++ X4).length = k + 16 + 16) := Lib.hid (by rw [List.length_append, List.length_append, HY.out, LX3.out, LX4.out])
          obtain ⟨Y9, hY9⟩ : ∃ Z, Y ++ X3 ++ X4 = Z := ⟨_, rfl⟩
          rw [hY9] at HO9 HY9
          clear hY9
          refine wpAnyH_take (i := 14) (oi := ⟨some 6, _, _, _, _, _⟩) (v := ?vbf14) rfl (by kernel_rfl) (by kernel_rfl) (by kernel_rfl) (fun _ _ _ h => h) (Or.inl ⟨by rfl, ?hybf14⟩) (by assumption) ?restbf14
          case hybf14 => intro W hSW; go_simp; try rfl
          try simp only [Act.put, List.setIfInBounds_toArray, List.set_cons_zero, List.set_cons_succ]
          refine wpAnyH_done (by kernel_rfl) ?_ _
          have HP9 := Lib.hid hHeld.1
          have B9 := Lib.hid hHeld.2
          clear hHeld
          have q2 : w9.cell? ⟨gp, 2, none⟩ = some (.slice Ar nr cr) := HP9.out.cell 2
          go_wp2_with fail
          refine (CO.out _ B9.out).mono ?_
          rintro e wa ⟨va, rfl, howna, hba⟩
          obtain ⟨Aa, ca, rfl, _, hsa⟩ := own_seen howna
          have SA := Lib.hid hsa
          have OA := Lib.hid (own_only HO9.out (Only.of_below hba Nob) (fun _ _ h => h))
          have BA := Lib.hid (B9.out.trans (hba.mono B9.out.size))
          clear howna hsa hba q2
          have e8 : (8 : Int) * nr = ((8 * nr : Nat) : Int) := by omega
          go_wp2_with (at_builtin; refine wpList_append_seen _ rfl (.tmp 52) (.tmp 55) _ rfl w.heap.size 4 j0 _ 1 1 Try.underlying29 hj0 hy0 hy1 hy2 rfl (by omega) (.slice A10 (k + 16 + 16) c10) (k + 16 + 16) (Y9.map .bool) rfl OA.out _ Aa (8 * nr) ca (UB.map .bool) rfl SA.out (bools_one _) (by simp only [maxLen]; omega) (by omega) BA.out.size ?_; intro vb wb hownb hgb hatb)
          have HOB : Hid (wb.ownsRow w.heap.size 4 1 vb (Y9 ++ UB).length ((Y9 ++ UB).map .bool)) := Lib.hid (by rw [List.length_append, HY9.out, HU.out, List.map_append]; exact hownb)
          have BB := Lib.hid (BA.out.grown hgb BA.out.size (fun j hj => (own_whole OA.out hj).1))
          have HLB : Hid ((Y9 ++ UB).length ≤ 9000) := Lib.hid (by rw [List.length_append, HY9.out, HU.out]; omega)
          obtain ⟨YB, hYB⟩ : ∃ Z, Y9 ++ UB = Z := ⟨_, rfl⟩
          rw [hYB] at HOB HLB
          clear hownb hgb hatb hYB
          obtain ⟨Ab, cb, rfl, _⟩ := own_form HOB.out
          go_wp2_with fail
          go_ret
          exact ⟨YB, _, HLB.out, rfl, HOB.out, BB.out⟩
        · have dr : ((r : Int) == 0) = false := by simp; omega
          have dr' : (r == 0) = false := by simp; omega
          have HSN : Hid (Seen (wr.alloc (.cells #[.bool false] 4)) (wr.heap.size + 1) 1 (some ⟨wr.heap.size, 0, none⟩) 1 1 [.bool false]) := Lib.hid (seen_one _ 4 (.bool false))
          have hba : Below wr.heap.size wr (wr.alloc (.cells #[.bool false] 4)) := (Below.refl _ _).alloc (Nat.le_refl _) _
          have HOA := Lib.hid (own_only HO.out (Only.of_below hba Nob) (fun _ _ h => h))
          have HBA := Lib.hid (HB.out.trans (hba.mono HB.out.size))
          have HPA := Lib.hid (HP.out.only (Only.of_below hba Nob) (fun h => h))
          clear hba
          go_wp2_with (at_builtin; refine wpList_append_seen _ rfl (.tmp 32) (.tmp 33) _ rfl w.heap.size 4 j0 _ 1 1 Try.underlying29 hj0 hy0 hy1 hy2 rfl (by omega) (.slice A k c) k (Y.map .bool) rfl HOA.out _ _ 1 1 [.bool false] rfl HSN.out (by simp [Value.oneCell']) (by simp only [maxLen]; omega) (by omega) HBA.out.size ?_; intro v6 w6 hown6 hg6 hat6)
          have HP6 := Lib.hid (HPA.out.grown hg6 (fun e => own_ne_whole HOA.out HPA.out (by decide) _ e.symm rfl))
          have HB6 := Lib.hid (HBA.out.grown hg6 HBA.out.size (fun j hj => (own_whole HOA.out hj).1))
          have HO6 := Lib.hid hown6
          clear hown6 hg6 hat6
          have hm : (8 - (have_ + (k + 1)) % 8) % 8 + 1 = (8 - (have_ + k) % 8) % 8 := by
            have h1 := HQ.out; have h2 := HR.out
            subst h1 h2
            omega
          go_roundg ((8 - (have_ + (k + 1)) % 8) % 8)
          case measure => omega
          case rel => exact ⟨Y ++ [false], k + 1, by rw [List.length_append, HY.out]; rfl, rfl, by omega, by rw [List.map_append]; exact HO6.out, HP6.out, HB6.out⟩
    · have dk0 : ((kq : Int) == 0) = false := by simp; omega
      have dk0' : (kq == 0) = false := by simp; omega
      go_wp2_with fail
      refine (CF.out _).mono ?_
      rintro e w4 ⟨u4, v4, rfl, hu, hv, hb4⟩
      obtain ⟨Au, cu, rfl, _⟩ := own_form hu
      obtain ⟨Av, cv, rfl, _⟩ := own_form hv
      have HU4 := Lib.hid hu; have HV4 := Lib.hid hv
      have HP4 := Lib.hid (HP3.out.only (Only.of_below hb4 Nob) (fun h => h))
      have HR4 := Lib.hid (own_only HR3.out (Only.of_below hb4 Nob) (fun _ _ h => h))
      have B4 := Lib.hid (B3.out.trans (hb4.mono B3.out.size))
      clear hu hv hb4 HP3 HR3 B3 q0
      have q0 : w4.cell? ⟨gp, 0, none⟩ = some (.int .u8 kd) := HP4.out.cell 0
      by_cases hk2 : kq = 2
      · subst hk2
        go_wp2_with fail
        clear q0
        refine wp_region_held_drew (S := (fun W => Whole W gp 33 #[.int .u8 kd, .bool false, .slice Ar nr cr, .slice As ns cs, .slice Am nm cm, .int .i64 sp, .slice Al nl cl, .slice Af nf cf] ∧ Below w.heap.size w W)) (by kernel_rfl) ⟨HP4.out.drew, ⟨B4.out.os, B4.out.tape, B4.out.output, B4.out.size, B4.out.block⟩⟩ (fun hHeld => ?_)
        refine wpAnyH_take (i := 0) (oi := ⟨some 65, _, _, _, _, _⟩) (v := ?vcf0) rfl (by kernel_rfl) (by kernel_rfl) (by kernel_rfl) (fun _ _ _ h => h) (Or.inl ⟨by rfl, ?hycf0⟩) (by assumption) ?restcf0
        case hycf0 => intro W hSW; go_simp; try rfl
        try simp only [Act.put, List.setIfInBounds_toArray, List.set_cons_zero, List.set_cons_succ]
        refine wpAnyH_take (i := 1) (oi := ⟨some 66, _, _, _, _, _⟩) (v := ?vcf1) rfl (by kernel_rfl) (by kernel_rfl) (by kernel_rfl) (fun _ _ _ h => h) (Or.inl ⟨by rfl, ?hycf1⟩) (by assumption) ?restcf1
        case hycf1 => intro W hSW; have q6 : W.cell? ⟨gp, 6, none⟩ = some (.slice Al nl cl) := hSW.1.cell 6; go_simp; try rfl
        try simp only [Act.put, List.setIfInBounds_toArray, List.set_cons_zero, List.set_cons_succ]
        refine wpAnyH_take (i := 4) (oi := ⟨some 8, _, _, _, _, _⟩) (v := ?vcf4) rfl (by kernel_rfl) (by kernel_rfl) (by kernel_rfl) (fun _ _ _ h => h) (Or.inl ⟨by rfl, ?hycf4⟩) (by assumption) ?restcf4
        case hycf4 => intro W hSW; go_simp; try rfl
        try simp only [Act.put, List.setIfInBounds_toArray, List.set_cons_zero, List.set_cons_succ]
        refine wpAnyH_take (i := 2) (oi := ⟨some 67, _, _, _, _, _⟩) (v := ?vcf2) rfl (by kernel_rfl) (by kernel_rfl) (by kernel_rfl) (fun _ _ _ h => h) (Or.inl ⟨by rfl, ?hycf2⟩) (by assumption) ?restcf2
        case hycf2 => intro W hSW; go_simp; try rfl
        try simp only [Act.put, List.setIfInBounds_toArray, List.set_cons_zero, List.set_cons_succ]
        refine wpAnyH_take (i := 3) (oi := ⟨some 68, _, _, _, _, _⟩) (v := ?vcf3) rfl (by kernel_rfl) (by kernel_rfl) (by kernel_rfl) (fun _ _ _ h => h) (Or.inl ⟨by rfl, ?hycf3⟩) (by assumption) ?restcf3
        case hycf3 => intro W hSW; have q7 : W.cell? ⟨gp, 7, none⟩ = some (.slice Af nf cf) := hSW.1.cell 7; go_simp; try rfl
        try simp only [Act.put, List.setIfInBounds_toArray, List.set_cons_zero, List.set_cons_succ]
        refine wpAnyH_take (i := 5) (oi := ⟨some 9, _, _, _, _, _⟩) (v := ?vcf5) rfl (by kernel_rfl) (by kernel_rfl) (by kernel_rfl) (fun _ _ _ h => h) (Or.inl ⟨by rfl, ?hycf5⟩) (by assumption) ?restcf5
        case hycf5 => intro W hSW; go_simp; try rfl
        try simp only [Act.put, List.setIfInBounds_toArray, List.set_cons_zero, List.set_cons_succ]
        refine wpAnyH_done (by kernel_rfl) ?_ _
        have HRd : Hid (w4.drew.ownsRow w.heap.size 4 1 (.slice A3 3 c3) 3 (X.map .bool)) := Lib.hid HR4.out
        have HPd := Lib.hid hHeld.1
        have Bd := Lib.hid hHeld.2
        clear hHeld HP4 HR4 B4
        go_wp2_with fail
        refine (CH.out _ Bd.out).mono ?_
        rintro e w5 ⟨Lh, vh, ok, hLh, rfl, hownh, hbh, hok⟩
        have HR5 := Lib.hid (own_only HRd.out (Only.of_below hbh Nob) (fun _ _ h => h))
        have HP5 := Lib.hid (HPd.out.only (Only.of_below hbh Nob) (fun h => h))
        have B5 := Lib.hid (Bd.out.trans (hbh.mono Bd.out.size))
        obtain ⟨nH, hnH⟩ : ∃ nH, Lh.length = nH := ⟨_, rfl⟩
        have HNH := Lib.hid hnH
        rw [hnH] at hownh hLh
        obtain ⟨Ah, ch, rfl, _, hsh⟩ := own_seen hownh
        have SH := Lib.hid hsh
        clear hownh hbh hsh hnH HRd HPd Bd
        cases ok with
        | false =>
          go_wp2_with fail
          go_ret
          exact ⟨X, _, by rw [HX.out]; omega, rfl, by rw [HX.out]; exact HR5.out, B5.out⟩
        | true =>
          obtain ⟨h1, h2, h3, h4⟩ := hok rfl
          go_wp2_with (at_builtin; refine wpList_append_seen _ rfl (.tmp 78) (.tmp 79) _ rfl w.heap.size 4 j0 _ 1 1 Try.underlying29 hj0 hy0 hy1 hy2 rfl (by omega) (.slice A3 3 c3) 3 (X.map .bool) rfl HR5.out _ Ah nH ch (Lh.map .bool) rfl SH.out (bools_one _) (by simp only [maxLen]; omega) (by omega) B5.out.size ?_; intro v6 w6 hown6 hg6 hat6; (have HX6 : Hid ((X ++ Lh).length = 3 + nH) := Lib.hid (by rw [List.length_append, HX.out, HNH.out])); (have HR6 : Hid (w6.ownsRow w.heap.size 4 1 v6 (3 + nH) ((X ++ Lh).map .bool)) := Lib.hid (by rw [List.map_append]; exact hown6)); have HP6 := Lib.hid (HP5.out.grown hg6 (fun e => own_ne_whole HR5.out HP5.out (by decide) _ e.symm rfl)); have B6 := Lib.hid (B5.out.grown hg6 B5.out.size (fun j hj => (own_whole HR5.out hj).1)); clear hown6 hg6 hat6 HR5 HP5 B5 SH; obtain ⟨Z6, hZ6⟩ : ∃ Z, X ++ Lh = Z := ⟨_, rfl⟩; rw [hZ6] at HX6 HR6; obtain ⟨A6, c6, rfl, _⟩ := own_form HR6.out; clear hZ6; have p0 : w6.cell? ⟨gp, 0, none⟩ = some (.int .u8 kd) := HP6.out.cell 0; have p1 : w6.cell? ⟨gp, 1, none⟩ = some (.bool false) := HP6.out.cell 1; have p2 : w6.cell? ⟨gp, 2, none⟩ = some (.slice Ar nr cr) := HP6.out.cell 2; have p3 : w6.cell? ⟨gp, 3, none⟩ = some (.slice As ns cs) := HP6.out.cell 3; have p4 : w6.cell? ⟨gp, 4, none⟩ = some (.slice Am nm cm) := HP6.out.cell 4; have p5 : w6.cell? ⟨gp, 5, none⟩ = some (.int .i64 sp) := HP6.out.cell 5; have p6 : w6.cell? ⟨gp, 6, none⟩ = some (.slice Al nl cl) := HP6.out.cell 6; have p7 : w6.cell? ⟨gp, 7, none⟩ = some (.slice Af nf cf) := HP6.out.cell 7)
          refine (CS.out _ B6.out Al nl cl Af nf cf ls fs HLS.out HFS.out (by omega) (by omega) (by omega) (HS4.out _ B6.out) (HS5.out _ B6.out)).mono ?_
          rintro e wa ⟨Ls, va, hLs, rfl, howna, hba⟩
          obtain ⟨Aa, ca, rfl, _, hsa⟩ := own_seen howna
          have SA := Lib.hid hsa
          have OA := Lib.hid (own_only HR6.out (Only.of_below hba Nob) (fun _ _ h => h))
          have BA := Lib.hid (B6.out.trans (hba.mono B6.out.size))
          obtain ⟨nL, hnL⟩ : ∃ nL, Ls.length = nL := ⟨_, rfl⟩
          have HNL := Lib.hid hnL
          rw [hnL] at SA hLs ⊢
          clear howna hsa hba hnL
          go_wp2_with (at_builtin; refine wpList_append_seen _ rfl (.tmp 81) (.tmp 85) _ rfl w.heap.size 4 j0 _ 1 1 Try.underlying29 hj0 hy0 hy1 hy2 rfl (by omega) (.slice A6 (3 + nH) c6) (3 + nH) (Z6.map .bool) rfl OA.out _ Aa nL ca (Ls.map .bool) rfl SA.out (bools_one _) (by simp only [maxLen]; omega) (by omega) BA.out.size ?_; intro vb wb hownb hgb hatb)
          have HOB : Hid (wb.ownsRow w.heap.size 4 1 vb (Z6 ++ Ls).length ((Z6 ++ Ls).map .bool)) := Lib.hid (by rw [List.length_append, HX6.out, HNL.out, List.map_append]; exact hownb)
          have BB := Lib.hid (BA.out.grown hgb BA.out.size (fun j hj => (own_whole OA.out hj).1))
          have HLB : Hid ((Z6 ++ Ls).length ≤ 9000) := Lib.hid (by rw [List.length_append, HX6.out, HNL.out]; omega)
          obtain ⟨YB, hYB⟩ : ∃ Z, Z6 ++ Ls = Z := ⟨_, rfl⟩
          rw [hYB] at HOB HLB
          clear hownb hgb hatb hYB
          obtain ⟨Ab, cb, rfl, _⟩ := own_form HOB.out
          go_wp2_with fail
          go_ret
          exact ⟨YB, _, HLB.out, rfl, HOB.out, BB.out⟩
      · have dk2 : ((kq : Int) == 2) = false := by simp; omega
        have dk2' : (kq == 2) = false := by simp; omega
        have p0 : w4.cell? ⟨gp, 0, none⟩ = some (.int .u8 kd) := HP4.out.cell 0
        have p1 : w4.cell? ⟨gp, 1, none⟩ = some (.bool false) := HP4.out.cell 1
        have p2 : w4.cell? ⟨gp, 2, none⟩ = some (.slice Ar nr cr) := HP4.out.cell 2
        have p3 : w4.cell? ⟨gp, 3, none⟩ = some (.slice As ns cs) := HP4.out.cell 3
        have p4 : w4.cell? ⟨gp, 4, none⟩ = some (.slice Am nm cm) := HP4.out.cell 4
        have p5 : w4.cell? ⟨gp, 5, none⟩ = some (.int .i64 sp) := HP4.out.cell 5
        have p6 : w4.cell? ⟨gp, 6, none⟩ = some (.slice Al nl cl) := HP4.out.cell 6
        have p7 : w4.cell? ⟨gp, 7, none⟩ = some (.slice Af nf cf) := HP4.out.cell 7
        go_wp2_with fail
        refine (CS.out _ B4.out Au 288 cu Av 32 cv fixL fixD (by kernel_rfl) (by kernel_rfl) (by omega) (by omega) (by omega) (Seen.of_own HU4.out) (Seen.of_own HV4.out)).mono ?_
        rintro e wa ⟨Ls, va, hLs, rfl, howna, hba⟩
        obtain ⟨Aa, ca, rfl, _, hsa⟩ := own_seen howna
        have SA := Lib.hid hsa
        have OA := Lib.hid (own_only HR4.out (Only.of_below hba Nob) (fun _ _ h => h))
        have BA := Lib.hid (B4.out.trans (hba.mono B4.out.size))
        obtain ⟨nL, hnL⟩ : ∃ nL, Ls.length = nL := ⟨_, rfl⟩
        have HNL := Lib.hid hnL
        rw [hnL] at SA hLs ⊢
        clear howna hsa hba hnL
        go_wp2_with (at_builtin; refine wpList_append_seen _ rfl (.tmp 81) (.tmp 85) _ rfl w.heap.size 4 j0 _ 1 1 Try.underlying29 hj0 hy0 hy1 hy2 rfl (by omega) (.slice A3 3 c3) 3 (X.map .bool) rfl OA.out _ Aa nL ca (Ls.map .bool) rfl SA.out (bools_one _) (by simp only [maxLen]; omega) (by omega) BA.out.size ?_; intro vb wb hownb hgb hatb)
        have HOB : Hid (wb.ownsRow w.heap.size 4 1 vb (X ++ Ls).length ((X ++ Ls).map .bool)) := Lib.hid (by rw [List.length_append, HX.out, HNL.out, List.map_append]; exact hownb)
        have BB := Lib.hid (BA.out.grown hgb BA.out.size (fun j hj => (own_whole OA.out hj).1))
        have HLB : Hid ((X ++ Ls).length ≤ 9000) := Lib.hid (by rw [List.length_append, HX.out, HNL.out]; omega)
        obtain ⟨YB, hYB⟩ : ∃ Z, X ++ Ls = Z := ⟨_, rfl⟩
        rw [hYB] at HOB HLB
        clear hownb hgb hatb hYB
        obtain ⟨Ab, cb, rfl, _⟩ := own_form HOB.out
        go_wp2_with fail
        go_ret
        exact ⟨YB, _, HLB.out, rfl, HOB.out, BB.out⟩
end Go.Proofs.Ytobchlakjgeadaa
