/-
  PoolReads: which pool any bytes tell, where the cursor stands then, and what is wrong, is what the document says. No conditions.
-/
import Derived.Test.YtmojclbejmnikaaPU
import Derived.Test.YtmojclbejmnikaaYE
namespace Go.Proofs.Ytmojclbejmnikaa
open Go Go.RowKit
set_option maxRecDepth 100000

/-- What was read stands as a pool of its own, or is none. -/
theorem res_seen {W : World} {base : Nat} {v : Value} {o : Option (List Raw)} (h1 : o = none → v = .slice none 0 0) (h2 : ∀ l, o = some l → W.ownsRow base 47 5 v l.length (rv l)) :
    ∃ A n c, v = .slice A n c ∧ (o.getD []).length = n ∧ n ≤ 9223372036854775807 ∧ Seen W W.heap.size 5 A n c (rv (o.getD [])) := by
  cases o with
  | none => exact ⟨none, 0, 0, h1 rfl, rfl, by omega, rfl, Nat.le_refl _, .inl ⟨rfl, rfl⟩⟩
  | some l =>
    obtain ⟨A, c, rfl, hc, hs⟩ := own_seen (h2 l rfl)
    exact ⟨A, l.length, c, rfl, rfl, by have := hs.2.1; unfold maxLen at hc; omega, hs⟩
theorem sameM_self (l : List Raw) : sameM l l = true := (sameM_true l l).2 rfl

set_option maxHeartbeats 16000000 in
theorem reads_law (A : Option Addr) (n c : Nat) (hm : c ≤ 9223372036854775807) (w : World) (hp : ∃ bs : List Nat, bs.length = n ∧ (∀ y ∈ bs, y < 256) ∧ Seen w w.heap.size 1 A n c (bv bs)) :
    Calls Try.prog 3 #[.slice A n c] w (Gives w (.bool true)) := by
  obtain ⟨bs, hn, h256, hs⟩ := hp
  have FX := Lib.hid (fixed_any w)
  have HS := Lib.hid hs
  by_cases hlen : 800 < n
  · have d1 : decide ((800 : Int) < (n : Int)) = true := decide_eq_true (by omega)
    have d2 : decide (800 < n) = true := decide_eq_true hlen
    clear hs hlen
    go_enter Try.func3, Try.ntmps3
    go_wp2_with fail
    refine FX.out.mono ?_
    rintro e w1 ⟨rfl, hb1⟩
    have B1 := Lib.hid hb1
    clear hb1
    go_wp2_with fail
    go_ret
    exact ⟨rfl, B1.out⟩
  have d1 : decide ((800 : Int) < (n : Int)) = false := decide_eq_false (by omega)
  have d2 : decide (800 < n) = false := decide_eq_false hlen
  have hn8 : n ≤ 800 := by omega
  clear hs hlen
  go_enter Try.func3, Try.ntmps3
  go_wp2_with fail
  refine FX.out.mono ?_
  rintro e w1 ⟨rfl, hb1⟩
  have S1 := Lib.hid (HS.out.below hb1)
  have B1 := Lib.hid hb1
  have NC := Lib.hid (newC_any A c w.heap.size bs w1 (by rw [hn]; exact S1.out) B1.out.size (by omega))
  rw [hn] at NC
  clear hb1
  go_wp2_with fail
  refine NC.out.mono ?_
  rintro e w2 ⟨gc, sv, rfl, C2, hb2⟩
  have S2 := Lib.hid (S1.out.below (hb2.mono B1.out.size))
  have B2 := Lib.hid (B1.out.trans (hb2.mono B1.out.size))
  obtain ⟨w3, hw3⟩ : ∃ W, w2.alloc (.cells #[.slice A n c, .int .i64 0, .int .i64 0] 29) = W := ⟨_, rfl⟩
  obtain ⟨gr, hgr⟩ : ∃ q, w2.heap.size = q := ⟨_, rfl⟩
  have R3 : Hid (RCur w3 gr A c bs 0 0) := Lib.hid (by unfold RCur; rw [hn, ← hw3, ← hgr]; exact Whole.new w2 29 _)
  have b3 : Below w2.heap.size w2 w3 := hw3 ▸ (Below.refl _ _).alloc (Nat.le_refl _) _
  have C3 := Lib.hid (C2.only (Only.of_below b3 Nob) (fun _ _ h => h))
  have hle : Hid (w.heap.size ≤ gr) := Lib.hid (hgr ▸ B2.out.size)
  have S3 := Lib.hid (S2.out.below (b3.mono B2.out.size))
  have B3 := Lib.hid (B2.out.trans (b3.mono B2.out.size))
  have hcr : Hid (gc ≠ gr ∧ w.heap.size ≤ gc) := Lib.hid ⟨by have := C2.2.1.lt; omega, by have := C2.1; have := B1.out.size; omega⟩
  have RD := Lib.hid (pread_any w1.heap.size gc sv bs w3 C3.out (by omega) h256)
  clear C2 hb2 b3
  go_wp2_with fail
  refine RD.out.mono ?_
  rintro e w4 ⟨v4, rfl, C4', O4, hn4, hl4⟩
  have C4 := Lib.hid C4'
  have R4 : Hid (RCur w4 gr A c bs 0 0) := Lib.hid (Whole.only R3.out O4 (fun e => hcr.out.1 e.symm))
  have S4 := Lib.hid (S3.out.only O4 B3.out.size (fun k hk e => by have := hcr.out.2; omega))
  have B4 := Lib.hid (B3.out.trans (O4.below B3.out.size (fun k e => by have := hcr.out.2; omega)))
  have RR := Lib.hid (read_any gr w.heap.size A c bs w4 R4.out (by rw [hn]; exact S4.out) hle.out (by omega) hm h256)
  have hrow4 := Lib.hid (And.intro hn4 hl4)
  clear C4' O4 hn4 hl4
  go_wp2_with fail
  refine RR.out.mono ?_
  rintro e w5 ⟨v5, rfl, R5', O5, hn5, hl5⟩
  have R5 := Lib.hid R5'
  have C5 : Hid (CursorAt w5 w1.heap.size gc sv bs (readM bs).2.1 (readM bs).2.2) := Lib.hid ⟨C4.out.1, C4.out.2.1.only O5 hcr.out.1, own_only C4.out.2.2 O5 (fun k hk => own_ne_whole C4.out.2.2 R4.out (by decide) k hk)⟩
  have B5 := Lib.hid (B4.out.trans (O5.below B4.out.size (fun k e => by have := hle.out; omega)))
  obtain ⟨A4, n4, c4, rfl, hln4, hm4, hs4⟩ := res_seen (W := w5) (base := w3.heap.size) (v := v4) (o := (readM bs).1) hrow4.out.1 (fun l h => own_only (hrow4.out.2 l h) O5 (fun k hk => own_ne_whole (hrow4.out.2 l h) R4.out (by decide) k hk))
  obtain ⟨A5, n5, c5, rfl, hln5, hm5, hs5⟩ := res_seen hn5 hl5
  have SM := Lib.hid (same_any ((readM bs).1.getD []) ((readM bs).1.getD []) A4 A5 n4 c4 n5 c5 w5.heap.size hln4 hln5 hm4 hm5 w5.drew (hs4.below (Below.refl _ _).drew) (hs5.below (Below.refl _ _).drew) (Nat.le_refl _))
  rw [sameM_self] at SM
  generalize (readM bs).2.1 = a at C5 R5
  generalize (readM bs).2.2 = err at C5 R5
  clear R5' O5 hn5 hl5 hs4 hs5
  have c1 : w5.cell? ⟨gr, 1, none⟩ = some (.int .i64 a) := R5.out.c1
  have c2 : w5.cell? ⟨gr, 2, none⟩ = some (.int .i64 err) := R5.out.c2
  have bb : (err == err) = true := beq_self_eq_true _
  have ba : ((a : Int) == (a : Int)) = true := beq_self_eq_true _
  go_upto_region 7 with fail
  by_cases he : err = 0
  · have q1 : (err != 0) = false := by rw [he]; rfl
    have HE := Lib.hid he
    clear he
    go_region_held3 (fun w' => w'.cell? ⟨gr, 1, none⟩ = some (.int .i64 a) ∧ w'.cell? ⟨gr, 2, none⟩ = some (.int .i64 err)) (first | exact ⟨c1, c2⟩ | exact ⟨d1', d2'⟩ | go_keep)
      (first
        | (go_at_call 12; refine (atC_any w1.heap.size gc sv bs a err w6 C6.out).mono ?_; rintro e w8 ⟨rfl, rfl⟩)
        | (go_at_call 11; refine (errC_any w1.heap.size gc sv bs a err w6 C6.out).mono ?_; rintro e w7 ⟨rfl, rfl⟩)
        | (go_at_call 10; refine SM.out.mono ?_; rintro e w6 ⟨rfl, b6⟩; have C6 := Lib.hid (C5.out.only (Only.of_below ((Below.refl _ _).drew.trans b6) Nob) (fun _ _ h => h)); have R6 := Lib.hid (Whole.bel (Whole.drew R5.out) b6); have d1' : w6.cell? ⟨gr, 1, none⟩ = some (.int .i64 a) := RCur.c1 R6.out; have d2' : w6.cell? ⟨gr, 2, none⟩ = some (.int .i64 err) := RCur.c2 R6.out; have B6 := Lib.hid (B5.out.drew.trans (b6.mono B5.out.size)); clear b6)
        | fail)
    go_wp2_with fail
    go_ret
    exact ⟨rfl, B6.out⟩
  · have q1 : (err != 0) = true := by rw [bne_iff_ne]; exact he
    have HE := Lib.hid he
    clear he
    refine wp_region_held_drew (S := (fun w' => w'.cell? ⟨gr, 1, none⟩ = some (.int .i64 a) ∧ w'.cell? ⟨gr, 2, none⟩ = some (.int .i64 err))) (by kernel_rfl) ⟨c1, c2⟩ (fun hHeld => ?_)
    refine wpAnyH_take (i := 0) (oi := ⟨some 21, _, _, _, _, _⟩) (v := ?vn0) rfl (by kernel_rfl) (by kernel_rfl) (by kernel_rfl) (fun _ _ _ h => h) (Or.inl ⟨by rfl, ?hyn0⟩) (by assumption) ?restn0
    case hyn0 => intro W hSW; go_simp; try rfl
    try simp only [Act.put, List.setIfInBounds_toArray, List.set_cons_zero, List.set_cons_succ]
    refine wpAnyH_take (i := 1) (oi := ⟨some 22, _, _, _, _, _⟩) (v := ?vn1) rfl (by kernel_rfl) (by kernel_rfl) (by kernel_rfl) (fun _ _ _ h => h) (Or.inl ⟨by rfl, ?hyn1⟩) (by assumption) ?restn1
    case hyn1 => intro W hSW; go_simp; try rfl
    try simp only [Act.put, List.setIfInBounds_toArray, List.set_cons_zero, List.set_cons_succ]
    refine wpAnyH_ready (rs := [2]) (by kernel_rfl) (by simp) ?_
    refine AllReadyH.cons (o := ⟨some 23, _, _, _, _, _⟩) rfl (fun K hK => ?_) AllReadyH.nil
    go_simp
    refine SM.out.mono ?_
    rintro e w6 ⟨rfl, b6⟩
    have C6 := Lib.hid (C5.out.only (Only.of_below ((Below.refl _ _).drew.trans b6) Nob) (fun _ _ h => h))
    have R6 := Lib.hid (Whole.bel (Whole.drew R5.out) b6)
    have B6 := Lib.hid (B5.out.drew.trans (b6.mono B5.out.size))
    clear b6
    refine hK.out _ _ ?_ (fun hHeld2 => ?_)
    · exact ⟨RCur.c1 R6.out, RCur.c2 R6.out⟩
    clear hK K hHeld
    have hHeld := hHeld2; clear hHeld2
    try simp only [Act.put, List.setIfInBounds_toArray, List.set_cons_zero, List.set_cons_succ]
    refine wpAnyH_take (i := 3) (oi := ⟨some 24, _, _, _, _, _⟩) (v := ?vn3) rfl (by kernel_rfl) (by kernel_rfl) (by kernel_rfl) (fun _ _ _ h => h) (Or.inl ⟨by rfl, ?hyn3⟩) (by assumption) ?restn3
    case hyn3 => intro W hSW; go_simp; try rfl
    try simp only [Act.put, List.setIfInBounds_toArray, List.set_cons_zero, List.set_cons_succ]
    refine wpAnyH_take (i := 4) (oi := ⟨some 25, _, _, _, _, _⟩) (v := ?vn4) rfl (by kernel_rfl) (by kernel_rfl) (by kernel_rfl) (fun _ _ _ h => h) (Or.inl ⟨by rfl, ?hyn4⟩) (by assumption) ?restn4
    case hyn4 => intro W hSW; go_simp; try rfl
    try simp only [Act.put, List.setIfInBounds_toArray, List.set_cons_zero, List.set_cons_succ]
    refine wpAnyH_take (i := 6) (oi := ⟨some 27, _, _, _, _, _⟩) (v := ?vn6) rfl (by kernel_rfl) (by kernel_rfl) (by kernel_rfl) (fun _ _ _ h => h) (Or.inl ⟨by rfl, ?hyn6⟩) (by assumption) ?restn6
    case hyn6 => intro W hSW; go_simp; try rfl
    try simp only [Act.put, List.setIfInBounds_toArray, List.set_cons_zero, List.set_cons_succ]
    refine wpAnyH_take (i := 7) (oi := ⟨some 28, _, _, _, _, _⟩) (v := ?vn7) rfl (by kernel_rfl) (by kernel_rfl) (by kernel_rfl) (fun _ _ _ h => h) (Or.inl ⟨by rfl, ?hyn7⟩) (by assumption) ?restn7
    case hyn7 => intro W hSW; go_simp; try rfl
    try simp only [Act.put, List.setIfInBounds_toArray, List.set_cons_zero, List.set_cons_succ]
    refine wpAnyH_take (i := 8) (oi := ⟨some 29, _, _, _, _, _⟩) (v := ?vn8) rfl (by kernel_rfl) (by kernel_rfl) (by kernel_rfl) (fun _ _ _ h => h) (Or.inl ⟨by rfl, ?hyn8⟩) (by assumption) ?restn8
    case hyn8 => intro W hSW; go_simp; try rfl
    try simp only [Act.put, List.setIfInBounds_toArray, List.set_cons_zero, List.set_cons_succ]
    refine wpAnyH_take (i := 9) (oi := ⟨some 30, _, _, _, _, _⟩) (v := ?vn9) rfl (by kernel_rfl) (by kernel_rfl) (by kernel_rfl) (fun _ _ _ h => h) (Or.inl ⟨by rfl, ?hyn9⟩) (by assumption) ?restn9
    case hyn9 => intro W hSW; have q := hSW.2; go_simp; try rfl
    try simp only [Act.put, List.setIfInBounds_toArray, List.set_cons_zero, List.set_cons_succ]
    refine wpAnyH_ready (rs := [5]) (by kernel_rfl) (by simp) ?_
    refine AllReadyH.cons (o := ⟨some 26, _, _, _, _, _⟩) rfl (fun K hK => ?_) AllReadyH.nil
    go_simp
    refine (errC_any w1.heap.size gc sv bs a err w6 C6.out).mono ?_
    rintro e w7 ⟨rfl, rfl⟩
    refine hK.out _ _ ?_ (fun hHeld2 => ?_)
    · exact ⟨RCur.c1 R6.out, RCur.c2 R6.out⟩
    clear hK K hHeld
    have hHeld := hHeld2; clear hHeld2
    try simp only [Act.put, List.setIfInBounds_toArray, List.set_cons_zero, List.set_cons_succ]
    refine wpAnyH_take (i := 10) (oi := ⟨some 31, _, _, _, _, _⟩) (v := ?vn10) rfl (by kernel_rfl) (by kernel_rfl) (by kernel_rfl) (fun _ _ _ h => h) (Or.inl ⟨by rfl, ?hyn10⟩) (by assumption) ?restn10
    case hyn10 => intro W hSW; go_simp; try rfl
    try simp only [Act.put, List.setIfInBounds_toArray, List.set_cons_zero, List.set_cons_succ]
    refine wpAnyH_take (i := 11) (oi := ⟨some 32, _, _, _, _, _⟩) (v := ?vn11) rfl (by kernel_rfl) (by kernel_rfl) (by kernel_rfl) (fun _ _ _ h => h) (Or.inl ⟨by rfl, ?hyn11⟩) (by assumption) ?restn11
    case hyn11 => intro W hSW; go_simp; try rfl
    try simp only [Act.put, List.setIfInBounds_toArray, List.set_cons_zero, List.set_cons_succ]
    refine wpAnyH_take (i := 12) (oi := ⟨some 33, _, _, _, _, _⟩) (v := ?vn12) rfl (by kernel_rfl) (by kernel_rfl) (by kernel_rfl) (fun _ _ _ h => h) (Or.inl ⟨by rfl, ?hyn12⟩) (by assumption) ?restn12
    case hyn12 => intro W hSW; go_simp; try rfl
    try simp only [Act.put, List.setIfInBounds_toArray, List.set_cons_zero, List.set_cons_succ]
    refine wpAnyH_take (i := 13) (oi := ⟨some 34, _, _, _, _, _⟩) (v := ?vn13) rfl (by kernel_rfl) (by kernel_rfl) (by kernel_rfl) (fun _ _ _ h => h) (Or.inl ⟨by rfl, ?hyn13⟩) (by assumption) ?restn13
    case hyn13 => intro W hSW; go_simp; try rfl
    try simp only [Act.put, List.setIfInBounds_toArray, List.set_cons_zero, List.set_cons_succ]
    refine wpAnyH_take (i := 14) (oi := ⟨some 35, _, _, _, _, _⟩) (v := ?vn14) rfl (by kernel_rfl) (by kernel_rfl) (by kernel_rfl) (fun _ _ _ h => h) (Or.inl ⟨by rfl, ?hyn14⟩) (by assumption) ?restn14
    case hyn14 => intro W hSW; go_simp; try rfl
    try simp only [Act.put, List.setIfInBounds_toArray, List.set_cons_zero, List.set_cons_succ]
    refine wpAnyH_take (i := 15) (oi := ⟨some 36, _, _, _, _, _⟩) (v := ?vn15) rfl (by kernel_rfl) (by kernel_rfl) (by kernel_rfl) (fun _ _ _ h => h) (Or.inl ⟨by rfl, ?hyn15⟩) (by assumption) ?restn15
    case hyn15 => intro W hSW; go_simp; try rfl
    try simp only [Act.put, List.setIfInBounds_toArray, List.set_cons_zero, List.set_cons_succ]
    refine wpAnyH_take (i := 16) (oi := ⟨some 37, _, _, _, _, _⟩) (v := ?vn16) rfl (by kernel_rfl) (by kernel_rfl) (by kernel_rfl) (fun _ _ _ h => h) (Or.inl ⟨by rfl, ?hyn16⟩) (by assumption) ?restn16
    case hyn16 => intro W hSW; have q := hSW.2; go_simp; try rfl
    try simp only [Act.put, List.setIfInBounds_toArray, List.set_cons_zero, List.set_cons_succ]
    refine wpAnyH_take (i := 17) (oi := ⟨some 38, _, _, _, _, _⟩) (v := ?vn17) rfl (by kernel_rfl) (by kernel_rfl) (by kernel_rfl) (fun _ _ _ h => h) (Or.inl ⟨by rfl, ?hyn17⟩) (by assumption) ?restn17
    case hyn17 => intro W hSW; go_simp; try rfl
    try simp only [Act.put, List.setIfInBounds_toArray, List.set_cons_zero, List.set_cons_succ]
    refine wpAnyH_take (i := 18) (oi := ⟨some 39, _, _, _, _, _⟩) (v := ?vn18) rfl (by kernel_rfl) (by kernel_rfl) (by kernel_rfl) (fun _ _ _ h => h) (Or.inl ⟨by rfl, ?hyn18⟩) (by assumption) ?restn18
    case hyn18 => intro W hSW; go_simp; try rfl
    try simp only [Act.put, List.setIfInBounds_toArray, List.set_cons_zero, List.set_cons_succ]
    refine wpAnyH_take (i := 19) (oi := ⟨some 40, _, _, _, _, _⟩) (v := undef) rfl (by kernel_rfl) (by kernel_rfl) (by kernel_rfl) (fun _ _ _ h => h) (Or.inr ⟨by rfl, rfl⟩) (by assumption) ?restn19
    try simp only [Act.put, List.setIfInBounds_toArray, List.set_cons_zero, List.set_cons_succ]
    refine wpAnyH_take (i := 20) (oi := ⟨some 41, _, _, _, _, _⟩) (v := undef) rfl (by kernel_rfl) (by kernel_rfl) (by kernel_rfl) (fun _ _ _ h => h) (Or.inr ⟨by rfl, rfl⟩) (by assumption) ?restn20
    try simp only [Act.put, List.setIfInBounds_toArray, List.set_cons_zero, List.set_cons_succ]
    refine wpAnyH_take (i := 21) (oi := ⟨some 42, _, _, _, _, _⟩) (v := undef) rfl (by kernel_rfl) (by kernel_rfl) (by kernel_rfl) (fun _ _ _ h => h) (Or.inr ⟨by rfl, rfl⟩) (by assumption) ?restn21
    try simp only [Act.put, List.setIfInBounds_toArray, List.set_cons_zero, List.set_cons_succ]
    refine wpAnyH_take (i := 22) (oi := ⟨some 43, _, _, _, _, _⟩) (v := undef) rfl (by kernel_rfl) (by kernel_rfl) (by kernel_rfl) (fun _ _ _ h => h) (Or.inr ⟨by rfl, rfl⟩) (by assumption) ?restn22
    try simp only [Act.put, List.setIfInBounds_toArray, List.set_cons_zero, List.set_cons_succ]
    refine wpAnyH_take (i := 23) (oi := ⟨some 44, _, _, _, _, _⟩) (v := undef) rfl (by kernel_rfl) (by kernel_rfl) (by kernel_rfl) (fun _ _ _ h => h) (Or.inr ⟨by rfl, rfl⟩) (by assumption) ?restn23
    try simp only [Act.put, List.setIfInBounds_toArray, List.set_cons_zero, List.set_cons_succ]
    refine wpAnyH_take (i := 24) (oi := ⟨some 45, _, _, _, _, _⟩) (v := undef) rfl (by kernel_rfl) (by kernel_rfl) (by kernel_rfl) (fun _ _ _ h => h) (Or.inr ⟨by rfl, rfl⟩) (by assumption) ?restn24
    try simp only [Act.put, List.setIfInBounds_toArray, List.set_cons_zero, List.set_cons_succ]
    refine wpAnyH_take (i := 25) (oi := ⟨some 46, _, _, _, _, _⟩) (v := undef) rfl (by kernel_rfl) (by kernel_rfl) (by kernel_rfl) (fun _ _ _ h => h) (Or.inr ⟨by rfl, rfl⟩) (by assumption) ?restn25
    try simp only [Act.put, List.setIfInBounds_toArray, List.set_cons_zero, List.set_cons_succ]
    refine wpAnyH_take (i := 26) (oi := ⟨some 47, _, _, _, _, _⟩) (v := ?vn26) rfl (by kernel_rfl) (by kernel_rfl) (by kernel_rfl) (fun _ _ _ h => h) (Or.inl ⟨by rfl, ?hyn26⟩) (by assumption) ?restn26
    case hyn26 => intro W hSW; go_simp; try rfl
    try simp only [Act.put, List.setIfInBounds_toArray, List.set_cons_zero, List.set_cons_succ]
    refine wpAnyH_take (i := 27) (oi := ⟨some 48, _, _, _, _, _⟩) (v := ?vn27) rfl (by kernel_rfl) (by kernel_rfl) (by kernel_rfl) (fun _ _ _ h => h) (Or.inl ⟨by rfl, ?hyn27⟩) (by assumption) ?restn27
    case hyn27 => intro W hSW; go_simp; try rfl
    try simp only [Act.put, List.setIfInBounds_toArray, List.set_cons_zero, List.set_cons_succ]
    refine wpAnyH_take (i := 28) (oi := ⟨some 2, _, _, _, _, _⟩) (v := ?vn28) rfl (by kernel_rfl) (by kernel_rfl) (by kernel_rfl) (fun _ _ _ h => h) (Or.inl ⟨by rfl, ?hyn28⟩) (by assumption) ?restn28
    case hyn28 => intro W hSW; go_simp; try rfl
    try simp only [Act.put, List.setIfInBounds_toArray, List.set_cons_zero, List.set_cons_succ]
    refine wpAnyH_done (by kernel_rfl) ?_ _
    go_wp2_with fail
    go_ret
    exact ⟨rfl, B6.out⟩
end Go.Proofs.Ytmojclbejmnikaa
