/-
  The document's Inflate. Conditions: the bytes are read as told (Seen), at most a hundred thousand.
-/
import Derived.Test.YtobchlakjgeadaaRK
import Derived.Test.YtobchlakjgeadaaRF
import Derived.Test.YtobchlakjgeadaaTE
import Derived.Test.YtobchlakjgeadaaZ
namespace Go.Proofs.Ytobchlakjgeadaa
open Go.RowKit
set_option maxRecDepth 100000

theorem rinflate_arg (A : Option Addr) (n cp : Nat) (most : Int) (h : most < 0 ∨ 16777216 < most) (w : World) :
    Calls Try.prog 9 #[.slice A n cp, .int .i64 most] w fun e w' => e = .returned (.tuple #[.slice none 0 0, .int .i64 0, .int .i64 1]) ∧ w = w' := by
  by_cases h1 : most < 0
  · clear h
    go_enter Try.func9, Try.ntmps9
    go_wp2
    go_ret3
    exact ⟨rfl, rfl⟩
  · have h2 : 16777216 < most := h.resolve_left h1
    have d1 : decide (most < 0) = false := decide_eq_false h1
    have d2 : decide (16777216 < most) = true := decide_eq_true h2
    clear h
    go_enter Try.func9, Try.ntmps9
    go_wp2
    go_ret3
    exact ⟨rfl, rfl⟩

/-- Within the document's Inflate. -/
def RIIn (c : Rx) (w : World) (la b : Nat) (u : List Nat) (ov : Value) (e : Nat) (wr : World) : Prop :=
  RSt c wr ov b u e ∧ Fq c.B0 w wr ∧ (e = 0 → la = 0 → ∀ r, Runs (blockStep c.L c.most) (b, u) r → Runs (blockStep c.L c.most) (0, []) r) ∧ (e = 0 → la ≠ 0 → Runs (blockStep c.L c.most) (0, []) (.ok (b, u))) ∧ (e ≠ 0 → e < 100 ∧ Runs (blockStep c.L c.most) (0, []) (.er e))
def imeas (n la b e : Nat) : Nat := if e = 0 ∧ la = 0 then n - b + 1 else 0

/-- A block is done: what stands then. -/
theorem ri_next {c : Rx} {w wr w' : World} {b v k l : Nat} {u : List Nat} {R : Rs (Nat × List Nat)} {q : Ending} (HK : ∀ r, Runs (blockStep c.L c.most) (b, u) r → Runs (blockStep c.L c.most) (0, []) r) (hb : bitsAt c.L b 3 = .ok v) (hk : v / 2 = k) (hl : v % 2 = l) (hR : kindAt c.L c.most k (b + 3) u = R) (hf : Fq c.B0 w wr) (hpl : b ≤ 8 * c.bs.length) (h : RRes c R wr q w') :
    q = .returned (.tuple #[]) ∧ ∃ b' u' ov' e', RIIn c w l b' u' ov' e' w' ∧ imeas (8 * c.bs.length) l b' e' < 8 * c.bs.length - b + 1 := by
  obtain ⟨rfl, hf2, hc⟩ := h
  refine ⟨rfl, ?_⟩
  have hB := block_ok (most := c.most) (o := u) hb hk hl
  rw [hR] at hB
  rcases hc with ⟨a', o', ov', rfl, hs⟩ | ⟨er, a', o', ov', e0, e1, rfl, hs⟩
  · have hge := (kind_ok hR).1
    have hp := hs.place
    refine ⟨a', o', ov', 0, ⟨hs, hf.trans hf2, fun _ hl0 r hr => ?_, fun _ hl0 => ?_, fun h => absurd rfl h⟩, ?_⟩
    · simp only at hB
      rw [if_neg (by omega)] at hB
      exact HK r (.go hB hr)
    · simp only at hB
      rw [if_pos (by omega)] at hB
      exact HK _ (.fin hB)
    · unfold imeas
      split <;> omega
  · refine ⟨a', o', ov', er, ⟨hs, hf.trans hf2, fun h => by omega, fun h => by omega, fun _ => ⟨e1, HK _ (.er hB)⟩⟩, ?_⟩
    unfold imeas
    rw [if_neg (by omega)]
    omega

theorem fixL_256 : fixL.getD 256 0 ≠ 0 := by decide +kernel

set_option maxHeartbeats 4000000 in
theorem rinflate_any (A : Option Addr) (n cp B : Nat) (bs : List Nat) (most : Nat) (hm : most ≤ 16777216) (hn : bs.length = n) (hl : n ≤ 100000) (h256 : ∀ x ∈ bs, x < 256) (w : World) (hs : Seen w B 1 A n cp (bx bs)) (hB : B ≤ w.heap.size) :
    Calls Try.prog 9 #[.slice A n cp, .int .i64 most] w (InfRes (unpack bs) most w) := by
  have HS := Lib.hid hs; clear hs
  have HN := Lib.hid hn; clear hn
  have H256 := Lib.hid h256; clear h256
  have d1 : decide ((most : Int) < 0) = false := decide_eq_false (by omega)
  have d2 : decide (16777216 < (most : Int)) = false := decide_eq_false (by omega)
  unfold InfRes
  go_enter Try.func9, Try.ntmps9
  go_wp2_with fail
  refine (refOf_any A cp B bs n HN.out w HS.out hB hl H256.out).mono ?_
  rintro r w1 ⟨sv, rfl, hown, hb1⟩
  obtain ⟨As, cs, rfl, _⟩ := own_form hown
  have hsz := hb1.size
  obtain ⟨c, hc⟩ : ∃ c : Rx, c = ⟨w.heap.size, w1.heap.size + 2, w1.heap.size + 1, w1.heap.size, .slice As (8 * n) cs, bs, most⟩ := ⟨_, rfl⟩
  have hg : c.Good := by
    subst hc
    exact ⟨by show bs.length ≤ 100000; rw [HN.out]; exact hl, H256.out, hm, by show w1.heap.size < w1.heap.size + 2; omega, by show w1.heap.size + 1 < w1.heap.size + 2; omega, by show w.heap.size ≤ w1.heap.size + 1; omega, by show w.heap.size ≤ w1.heap.size + 2; omega⟩
  have hSt : RSt c ((w1.alloc (.cells #[.slice As (8 * n) cs, .int .i64 0] 59)).alloc (.cells #[.pointer (some ⟨w1.heap.size, 0, none⟩), .slice none 0 0, .int .i64 most, .int .i64 0] 61)) (.slice none 0 0) 0 [] 0 := by
    subst hc
    refine ⟨?_, ⟨by exact hsz, (Whole.new w1 59 _).alloc _, ?_⟩, World.ownsRow_nil _ _ _ _, by simp, by omega, by simp⟩
    · have := Whole.new (w1.alloc (.cells #[.slice As (8 * n) cs, .int .i64 0] 59)) 61 #[.pointer (some ⟨w1.heap.size, 0, none⟩), .slice none 0 0, .int .i64 most, .int .i64 0]
      simpa using this
    · have h2 := (hown.alloc (.cells #[.slice As (8 * n) cs, .int .i64 0] 59)).alloc (.cells #[.pointer (some ⟨w1.heap.size, 0, none⟩), .slice none 0 0, .int .i64 most, .int .i64 0] 61)
      have e : (unpack bs).length = 8 * n := by simp [HN.out]
      show World.ownsRow _ _ 4 1 _ (unpack bs).length _
      rw [e]
      exact h2
  have hBB : Below w.heap.size w ((w1.alloc (.cells #[.slice As (8 * n) cs, .int .i64 0] 59)).alloc (.cells #[.pointer (some ⟨w1.heap.size, 0, none⟩), .slice none 0 0, .int .i64 most, .int .i64 0] 61)) := (hb1.alloc hsz _).alloc (by simp; omega) _
  have H0 : Hid (RIIn c w 0 0 [] (.slice none 0 0) 0 ((w1.alloc (.cells #[.slice As (8 * n) cs, .int .i64 0] 59)).alloc (.cells #[.pointer (some ⟨w1.heap.size, 0, none⟩), .slice none 0 0, .int .i64 most, .int .i64 0] 61))) := Lib.hid ⟨hSt, Fq.of_below hBB _, fun _ _ r h => h, fun _ h => absurd rfl h, fun h => absurd rfl h⟩
  have hcgs : w1.heap.size + 1 = c.gs := by rw [hc]
  have ecL : Hid (c.L = unpack bs) := Lib.hid (by rw [hc])
  have ecM : Hid (c.most = most) := Lib.hid (by rw [hc])
  have ecB : Hid (c.B0 = w.heap.size) := Lib.hid (by rw [hc])
  have ecB1 : Hid (w.heap.size ≤ c.B1) := Lib.hid (by rw [hc]; show w.heap.size ≤ w1.heap.size + 2; omega)
  have ecR : Hid (c.bs = bs) := Lib.hid (by rw [hc])
  have eN : 8 * c.bs.length = 8 * n := by rw [ecR.out, HN.out]
  clear hown hb1 hSt hsz hBB hc
  go_wp2_with fail
  try rw [hcgs]
  clear hcgs
  go_loopg [8, 9, 10, 11, 12, 13] (imeas (8 * c.bs.length) 0 0 0) (fun k la _ _ _ _ _ wr => ∃ (lt b : Nat) (u : List Nat) (ov : Value) (e : Nat), k = imeas (8 * c.bs.length) lt b e ∧ la = .int .i64 lt ∧ RIIn c w lt b u ov e wr)
  case atStart => exact ⟨0, 0, [], _, 0, rfl, rfl, H0.out⟩
  case round =>
    obtain ⟨lt, b, u, ov, e, rfl, rfl, hin⟩ := hrel
    have hpl := hin.1.place
    have HS0 := Lib.hid hin.1
    have HF0 := Lib.hid hin.2.1
    have HIn := Lib.hid hin; clear hin
    by_cases he : e = 0
    · subst he
      by_cases hlt : lt = 0
      · subst hlt
        have HK := Lib.hid (HIn.out.2.2.1 rfl rfl)
        have q3 := HS0.out.c3
        go_wp2_with fail
        refine (rget_any hg ov b u 1 (by omega) _ HS0.out).mono ?_
        rintro r w2 ⟨v1, er, b1, rfl, hs2, hf2, hc2⟩
        have S2 := Lib.hid hs2; have F2 := Lib.hid (HF0.out.trans hf2)
        clear hs2 hf2 q3
        rcases hc2 with ⟨rfl, hb1, hv1, rfl⟩ | ⟨rfl, rfl, hb1⟩
        · have lv1 : v1 < 2 := hv1
          have HB1 := Lib.hid hb1
          clear hb1 hv1
          go_wp2_with fail
          refine (rget_any hg ov (b + 1) u 2 (by omega) _ S2.out).mono ?_
          rintro r w3 ⟨v2, er, b2, rfl, hs3, hf3, hc3⟩
          have S3 := Lib.hid hs3; have F3 := Lib.hid (F2.out.trans hf3)
          clear hs3 hf3
          rcases hc3 with ⟨rfl, hb2, hv2, rfl⟩ | ⟨rfl, rfl, hb2⟩
          · have lv2 : v2 < 4 := hv2
            have HB3 := Lib.hid (bits_two HB1.out hb2)
            have HE1 : Hid ((v1 + 2 ^ 1 * v2) / 2 = v2) := Lib.hid (by show (v1 + 2 * v2) / 2 = v2; omega)
            have HE2 : Hid ((v1 + 2 ^ 1 * v2) % 2 = v1) := Lib.hid (by show (v1 + 2 * v2) % 2 = v1; omega)
            clear hb2 hv2
            have z3 := S3.out.c3
            have hk4 : v2 = 0 ∨ v2 = 1 ∨ v2 = 2 ∨ v2 = 3 := by omega
            rcases hk4 with rfl | rfl | rfl | rfl
            · have CB := Lib.hid (rstored_any hg ov (b + 1 + 2) u w3 S3.out)
              go_wp2_with fail
              refine CB.out.mono ?_
              rintro r w4 hres
              obtain ⟨rfl, b', u', ov', e', hnx, hms⟩ := ri_next HK.out HB3.out HE1.out HE2.out (by rw [kindAt]) F3.out hpl hres
              have NX := Lib.hid hnx
              clear hnx hres
              go_wp2_with fail
              go_roundg (imeas (8 * c.bs.length) v1 b' e')
              case rel => exact ⟨v1, b', u', ov', e', rfl, rfl, NX.out⟩
              case measure => unfold imeas at hms ⊢; rw [if_pos (⟨rfl, rfl⟩ : 0 = 0 ∧ 0 = 0)]; exact hms
            · go_wp2_with fail
              refine (rfixed_any w3).mono ?_
              rintro r w4 ⟨x, y, rfl, hx, hy, hb4⟩
              obtain ⟨Ax, cx, rfl, _, hsx⟩ := own_seen hx
              obtain ⟨Ay, cy, rfl, _, hsy⟩ := own_seen hy
              have SX := Lib.hid hsx; have SY := Lib.hid hsy; have B4 := Lib.hid hb4
              clear hx hy hsx hsy hb4
              have S4 := Lib.hid (S3.out.below B4.out)
              have F4 := Lib.hid (F3.out.trans (Fq.of_below B4.out _))
              go_wp2_with fail
              refine (rsigns_good hg ov (b + 1 + 2) u fixL fixD 288 32 rfl rfl (by omega) (by omega) (by omega) fixL_kind fixD_kind fixL_256 Ax Ay cx cy w4 SX.out SY.out S4.out).mono ?_
              rintro r w5 hres
              obtain ⟨rfl, b', u', ov', e', hnx, hms⟩ := ri_next HK.out HB3.out HE1.out HE2.out (by rw [kindAt]) F4.out hpl hres
              have NX := Lib.hid hnx
              clear hnx hres
              go_wp2_with fail
              go_roundg (imeas (8 * c.bs.length) v1 b' e')
              case rel => exact ⟨v1, b', u', ov', e', rfl, rfl, NX.out⟩
              case measure => unfold imeas at hms ⊢; rw [if_pos (⟨rfl, rfl⟩ : 0 = 0 ∧ 0 = 0)]; exact hms
            · go_wp2_with fail
              refine (rdynamic_any hg ov (b + 1 + 2) u w3 S3.out).mono ?_
              rintro r w4 ⟨x, y, rfl, hf4, hc4⟩
              have F4 := Lib.hid (F3.out.trans hf4)
              clear hf4
              rcases hc4 with ⟨a1, ns, nd, l, A1, A2, k1, k2, g1, g2, g3, g4, g5, hD, rfl, rfl, hsx, hsy, hs4⟩ | ⟨er, a1, e0, e1, hD, hs4⟩
              · have SX := Lib.hid hsx; have SY := Lib.hid hsy; have S4 := Lib.hid hs4; have HD := Lib.hid hD
                clear hsx hsy hs4 hD
                go_wp2_with fail
                refine (rsigns_any hg ov a1 u (l.take ns) (l.drop ns) ns nd (by simp; omega) (by simp; omega) (by omega) (by omega) (by omega) A1 A2 k1 k2 w4 SX.out SY.out S4.out).mono ?_
                rintro r w5 hres
                have hKD : kindAt c.L c.most 2 (b + 3) u = (if (l.take ns).getD 256 0 = 0 ∨ kindOf (l.take ns) = 0 ∨ kindOf (l.drop ns) = 0 then .er 12 else runF (signStep (l.take ns) (l.drop ns) c.L c.most) (a1, u)) := by
                  have h1 : kindAt c.L c.most 2 (b + 3) u = dynR c.L c.most (b + 3) u := rfl
                  rw [h1, HD.out, dynTail]
                  have h2 : (l.take ns).getD 256 0 = l.getD 256 0 := by
                    simp only [List.getD, List.getElem?_take]
                    rw [if_pos (by omega)]
                  rw [h2]
                obtain ⟨rfl, b', u', ov', e', hnx, hms⟩ := ri_next HK.out HB3.out HE1.out HE2.out hKD F4.out hpl hres
                have NX := Lib.hid hnx
                clear hnx hres
                go_wp2_with fail
                go_roundg (imeas (8 * c.bs.length) v1 b' e')
                case rel => exact ⟨v1, b', u', ov', e', rfl, rfl, NX.out⟩
                case measure => unfold imeas at hms ⊢; rw [if_pos (⟨rfl, rfl⟩ : 0 = 0 ∧ 0 = 0)]; exact hms
              · have S4 := Lib.hid hs4; have HD := Lib.hid hD
                clear hs4 hD
                have z4 := S4.out.c3
                clear z3
                go_wp2_with fail
                refine (rsigns_no ov a1 u er (by omega) _ _ w4 S4.out).mono ?_
                rintro r w5 ⟨rfl, rfl⟩
                have hKD : kindAt c.L c.most 2 (b + 3) u = .er er := (show kindAt c.L c.most 2 (b + 3) u = dynR c.L c.most (b + 3) u from rfl).trans (HD.out c.most u)
                have hres : RRes c (.er er) w4 (.returned (.tuple #[])) w4 := ⟨rfl, Fq.refl _ _, .inr ⟨er, a1, u, ov, e0, e1, rfl, S4.out⟩⟩
                obtain ⟨_, b', u', ov', e', hnx, hms⟩ := ri_next HK.out HB3.out HE1.out HE2.out hKD F4.out hpl hres
                have NX := Lib.hid hnx
                clear hnx hres hKD z4
                go_wp2_with fail
                go_roundg (imeas (8 * c.bs.length) v1 b' e')
                case rel => exact ⟨v1, b', u', ov', e', rfl, rfl, NX.out⟩
                case measure => unfold imeas at hms ⊢; rw [if_pos (⟨rfl, rfl⟩ : 0 = 0 ∧ 0 = 0)]; exact hms
            · have CF := Lib.hid (rfail_only hg ov (b + 1 + 2) u 0 2 w3 S3.out)
              go_wp2_with fail
              refine CF.out.mono ?_
              rintro r w4 ⟨rfl, hs4, hf4, _⟩
              have hs4' : RSt c w4 ov (b + 1 + 2) u 2 := hs4
              have hKD : kindAt c.L c.most 3 (b + 3) u = .er 2 := by rw [kindAt]
              have hres : RRes c (.er 2) w3 (.returned (.tuple #[])) w4 := ⟨rfl, hf4, .inr ⟨2, b + 1 + 2, u, ov, by omega, by omega, rfl, hs4'⟩⟩
              obtain ⟨_, b', u', ov', e', hnx, hms⟩ := ri_next HK.out HB3.out HE1.out HE2.out hKD F3.out hpl hres
              have NX := Lib.hid hnx
              clear hnx hres hKD hs4 hs4' hf4
              go_wp2_with fail
              go_roundg (imeas (8 * c.bs.length) v1 b' e')
              case rel => exact ⟨v1, b', u', ov', e', rfl, rfl, NX.out⟩
              case measure => unfold imeas at hms ⊢; rw [if_pos (⟨rfl, rfl⟩ : 0 = 0 ∧ 0 = 0)]; exact hms
          · have HRu := Lib.hid (HK.out _ (.er (block_er (bits_two_er2 (p := 1) (q := 2) hb2))))
            clear hb2
            have z3 := S3.out.c3
            go_wp2_with fail
            go_still (by kernel_rfl)
            go_wp2_with fail
            go_ret3
            refine .inr ⟨6, by omega, by omega, ?_, rfl, ?_⟩
            · have h := HRu.out
              rwa [ecL.out, ecM.out] at h
            · have h := F3.out.drew.below (by rw [ecB.out]; exact Nat.le_refl _)
              rwa [ecB.out] at h
        · have HRu := Lib.hid (HK.out _ (.er (block_er (bits_two_er1 (p := 1) (q := 2) hb1))))
          clear hb1
          go_wp2_with fail
          refine ((rget_no ov b1 u 6 2 (by omega) _ S2.out).mono (fun _ _ h => (⟨h.1, h.2.symm⟩ : _ ∧ w2 = _))).mono ?_
          rintro r w3 ⟨rfl, rfl⟩
          have z3 := S2.out.c3
          go_wp2_with fail
          go_still (by kernel_rfl)
          go_wp2_with fail
          go_ret3
          refine .inr ⟨6, by omega, by omega, ?_, rfl, ?_⟩
          · have h := HRu.out
            rwa [ecL.out, ecM.out] at h
          · have h := F2.out.drew.below (by rw [ecB.out]; exact Nat.le_refl _)
            rwa [ecB.out] at h
      · have HRu := Lib.hid (HIn.out.2.2.2.1 rfl hlt)
        have q0 := HS0.out.c0
        have q1 := HS0.out.c1
        have q3 := HS0.out.c3
        have qr : wr.cell? ⟨c.gr, 1, none⟩ = some (.int .i64 b) := HS0.out.rd.c1
        obtain ⟨Ao, co, rfl, _⟩ := own_form HS0.out.out
        have y1 : (lt == 0) = false := by simpa using hlt
        have y2 : ((lt : Int) == 0) = false := by simp; omega
        have y3 : ¬ (lt : Int) = 0 := by omega
        obtain ⟨b7, hb7⟩ : ∃ t, b + 7 = t := ⟨_, rfl⟩
        have wb7 : (b : Int) + 7 = b7 := by omega
        obtain ⟨rr, hrr⟩ : ∃ t, (b + 7) / 8 = t := ⟨_, rfl⟩
        have wr8 : (b7 : Int) / 8 = rr := by omega
        have wr8' : (b7 : Int).tdiv 8 = rr := by rw [Int.tdiv_eq_ediv_of_nonneg (by omega)]; omega
        have wb7' : IntKind.i64.wrap (b7 : Int) = b7 := IntWalk.i64_in _ (by omega)
        have wrr : IntKind.i64.wrap (rr : Int) = rr := IntWalk.i64_in _ (by omega)
        have HRR := Lib.hid hrr
        clear hb7 hrr
        go_wp2_with fail
        go_still (by kernel_rfl)
        go_wp2_with fail
        go_ret3
        refine .inl ⟨b, u, .slice Ao u.length co, ?_, ?_, ?_, by rw [HRR.out]; rfl, ?_, ?_⟩
        · have h := HRu.out
          rwa [ecL.out, ecM.out] at h
        · simp; rw [HN.out]; omega
        · have h := HS0.out.room
          rwa [ecM.out] at h
        · exact own_base HS0.out.out ecB1.out
        · have h := HF0.out.drew.below (by rw [ecB.out]; exact Nat.le_refl _)
          rwa [ecB.out] at h
    · obtain ⟨e1, hrun⟩ := HIn.out.2.2.2.2 he
      have HRu := Lib.hid hrun; clear hrun
      have y4 : (e == 0) = false := by simpa using he
      have y5 : ((e : Int) == 0) = false := by simp; omega
      have y6 : ¬ (e : Int) = 0 := by omega
      by_cases hlt : lt = 0
      · subst hlt
        have z3 := HS0.out.c3
        go_wp2_with fail
        go_still (by kernel_rfl)
        go_wp2_with fail
        go_ret3
        refine .inr ⟨e, by omega, e1, ?_, rfl, ?_⟩
        · have h := HRu.out
          rwa [ecL.out, ecM.out] at h
        · have h := HF0.out.drew.below (by rw [ecB.out]; exact Nat.le_refl _)
          rwa [ecB.out] at h
      · have y1 : (lt == 0) = false := by simpa using hlt
        have y2 : ((lt : Int) == 0) = false := by simp; omega
        have y3 : ¬ (lt : Int) = 0 := by omega
        have z3 := HS0.out.c3
        go_wp2_with fail
        go_still (by kernel_rfl)
        go_wp2_with fail
        go_ret3
        refine .inr ⟨e, by omega, e1, ?_, rfl, ?_⟩
        · have h := HRu.out
          rwa [ecL.out, ecM.out] at h
        · have h := HF0.out.drew.below (by rw [ecB.out]; exact Nat.le_refl _)
          rwa [ecB.out] at h
end Go.Proofs.Ytobchlakjgeadaa
