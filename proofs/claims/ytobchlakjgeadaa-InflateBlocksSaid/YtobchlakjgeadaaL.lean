/-
  A code's Get. Conditions: each theorem names the range of its arguments.
-/
import Derived.Test.YtobchlakjgeadaaK
import Derived.Deep.LoopGhost
namespace Go.Proofs.Ytobchlakjgeadaa
open Go.RowKit
set_option maxRecDepth 100000


theorem cc_count (l : List Int) (n : Nat) (A1 : Option Addr) (c1 : Nat) (A2 : Option Addr) (c2 : Nat) (A3 : Option Addr) (c3 : Nat) (k : Nat) (hk : k < 16) :
    (cc l n A1 c1 A2 c2 A3 c3)[2 + k]? = some (.int .i64 (ct k l : Nat)) := by
  unfold cc
  rw [Array.getElem?_append_left (by simp; omega), Array.getElem?_append_right (by simp)]
  simp only [List.size_toArray, List.length_cons, List.length_nil]
  rw [show 2 + k - (0 + 1 + 1) = k by omega]
  exact ra_get _ k hk
theorem cc_signs (l : List Int) (n : Nat) (A1 : Option Addr) (c1 : Nat) (A2 : Option Addr) (c2 : Nat) (A3 : Option Addr) (c3 : Nat) :
    (cc l n A1 c1 A2 c2 A3 c3)[18]? = some (.slice A3 (words l) c3) := by
  unfold cc
  rw [Array.getElem?_append_right (by simp)]
  simp
theorem cc_lens (l : List Int) (n : Nat) (A1 : Option Addr) (c1 : Nat) (A2 : Option Addr) (c2 : Nat) (A3 : Option Addr) (c3 : Nat) :
    (cc l n A1 c1 A2 c2 A3 c3)[0]? = some (.slice A1 n c1) ∧ (cc l n A1 c1 A2 c2 A3 c3)[1]? = some (.slice A2 n c2) := by
  unfold cc
  rw [Array.getElem?_append_left (by simp), Array.getElem?_append_left (by simp), Array.getElem?_append_left (by simp), Array.getElem?_append_left (by simp)]
  exact ⟨rfl, rfl⟩

/-- What find answers: a place, or an error. -/
def lookVal (l : List Int) : Look → Value
  | .found n v => .tuple #[.int .i64 (bas l n + (v - fst l n) : Nat), .int .i64 0]
  | .code => .tuple #[.int .i64 0, .int .i64 12]
  | .fin => .tuple #[.int .i64 0, .int .i64 6]
def lookLen : Look → Nat
  | .found n _ => n
  | _ => 0
def FindRes (w : World) (l : List Int) (Br gr : Nat) (sv : Value) (bs : List Nat) (a : Nat) (e : Ending) (w' : World) : Prop :=
  e = .returned (lookVal l (lookup l ((unpack bs).drop a))) ∧ (∀ n v, lookup l ((unpack bs).drop a) = .found n v → ReaderAt w' Br gr sv bs (a + n)) ∧ Only (fun k => k = gr) w w'

def FindIn (w : World) (l : List Int) (Br gr : Nat) (sv : Value) (bs : List Nat) (a : Nat) (k v : Nat) (wr : World) : Prop :=
  a + k ≤ 8 * bs.length ∧ v < 2 ^ k ∧ upTo l k ≤ v ∧ lookup l ((unpack bs).drop a) = look l ((unpack bs).drop a) (16 - k) k v ∧ ReaderAt wr Br gr sv bs (a + k) ∧ Only (fun k => k = gr) w wr

set_option maxHeartbeats 1000000 in
set_option maxRecDepth 100000 in
theorem find_any (B g : Nat) (l : List Int) (n : Nat) (hn : l.length = n) (hl : n ≤ 1000) (hr : kindOf l ≠ 0) (Br gr : Nat) (sv : Value) (bs : List Nat) (a : Nat) (w : World) (hc : CodeAt w B g l n) (hR : ReaderAt w Br gr sv bs a) (hgr : B ≤ gr)
    (hb : bs.length ≤ 1000000) (h256 : ∀ x ∈ bs, x < 256) (ha : a ≤ 8 * bs.length) :
    Calls Try.prog 70 #[.pointer (some ⟨g, 0, none⟩), .pointer (some ⟨gr, 0, none⟩)] w (FindRes w l Br gr sv bs a) := by
  obtain ⟨A1, c1, A2, c2, A3, c3, h1, h2, h3, h4, h5, h6⟩ := hc
  have H1 := Lib.hid h1; clear h1 h4 h5 h6
  have HN := Lib.hid hn; clear hn
  have HOK := Lib.hid (right_ok hr)
  have HR := Lib.hid hr; clear hr
  have HRd := Lib.hid hR; clear hR
  have H256 := Lib.hid h256; clear h256
  have hwords : words l ≤ 1000 := by have := words_le l; have := HN.out; omega
  have H0 : Hid (FindIn w l Br gr sv bs a 0 0 w) := Lib.hid ⟨by omega, by simp, by rw [upTo_zero]; exact Nat.le_refl _, rfl, HRd.out, Only.refl _ _⟩
  go_enter Try.func70, Try.ntmps70
  go_wp2_with fail
  go_loopw [6, 7, 8, 10, 11, 12, 18] (fun pl fi wo _ _ _ i wr => ∃ k v : Nat, k ≤ 15 ∧ i = .int .i64 k ∧ pl = .int .i64 (bas l (k + 1) : Nat) ∧ fi = .int .i64 (fst l (k + 1) : Nat) ∧ wo = .int .i64 (v : Nat) ∧ FindIn w l Br gr sv bs a k v wr) (fun _ _ _ _ _ _ i _ => 15 - (intOf i).toNat)
  case atStart => exact ⟨0, 0, by omega, rfl, by simp [bas, ct_zero], by simp [fst, ct_zero], rfl, H0.out⟩
  case round =>
    obtain ⟨k, v, hk, rfl, rfl, rfl, rfl, hin⟩ := hrel
    have HW : Hid (Whole wr g 120 (cc l n A1 c1 A2 c2 A3 c3)) := Lib.hid (H1.out.only hin.2.2.2.2.2 (by omega))
    have hbm : bas l (k + 1) ≤ words l := by have h := bas_mono l (show k + 1 ≤ 16 by omega); rwa [bas_words l HOK.out] at h
    have hv := hin.2.1
    have hak := hin.1
    have hp := pow_le15 hk
    have hv2 : v < 32768 := by omega
    have hup := upTo_le HR.out k hk
    have hf2 : fst l (k + 1) ≤ 65536 := by show 2 * upTo l k ≤ 65536; omega
    have hfv : fst l (k + 1) ≤ 2 * v := by have := hin.2.2.1; show 2 * upTo l k ≤ 2 * v; omega
    clear hv hp hup
    have HIn := Lib.hid hin; clear hin
    by_cases hlt : k < 15
    · have hck : wr.cell? ⟨g, 3 + k, none⟩ = some (.int .i64 (ct (k + 1) l : Nat)) := by
        have := (HW.out.cell (2 + (k + 1))).trans (cc_count l n A1 c1 A2 c2 A3 c3 (k + 1) (by omega))
        rwa [show 2 + (k + 1) = 3 + k by omega] at this
      have hcs : wr.cell? ⟨g, 18, none⟩ = some (.slice A3 (words l) c3) := (HW.out.cell 18).trans (cc_signs l n A1 c1 A2 c2 A3 c3)
      have EU : Hid (upTo l (k + 1) = fst l (k + 1) + ct (k + 1) l) := Lib.hid rfl
      have EF : Hid (fst l (k + 1 + 1) = 2 * (fst l (k + 1) + ct (k + 1) l)) := Lib.hid rfl
      have EB : Hid (bas l (k + 1 + 1) = bas l (k + 1) + ct (k + 1) l) := Lib.hid rfl
      have hct : ct (k + 1) l ≤ 1000 := by have := ct_le (k + 1) l; have := HN.out; omega
      obtain ⟨bk, hbk⟩ : ∃ bk, bas l (k + 1) = bk := ⟨_, rfl⟩
      obtain ⟨fk, hfk⟩ : ∃ fk, fst l (k + 1) = fk := ⟨_, rfl⟩
      obtain ⟨ck, hckk⟩ : ∃ ck, ct (k + 1) l = ck := ⟨_, rfl⟩
      obtain ⟨nw, hnw⟩ : ∃ nw, words l = nw := ⟨_, rfl⟩
      rw [hbk] at hbm EB ⊢
      rw [hfk] at hf2 hfv EU EF ⊢
      rw [hckk] at hck hct EU EF EB
      rw [hnw] at hbm hwords hcs
      have HBK := Lib.hid hbk; clear hbk
      have HFK := Lib.hid hfk; clear hfk
      have HCK := Lib.hid hckk; clear hckk
      have HNW := Lib.hid hnw; clear hnw
      by_cases hw : nw ≤ bk
      · obtain rfl : bk = nw := by omega
        go_wp2_with fail
        go_ret2
        have e : lookup l ((unpack bs).drop a) = .code := by
          rw [HIn.out.2.2.2.1, show 16 - k = (15 - k) + 1 by omega, look_code (by rw [HNW.out, HBK.out]; omega)]
        exact ⟨by rw [e]; rfl, (by rw [e]; intro n v h; cases h), HIn.out.2.2.2.2.2⟩
      · have dw : (bk == nw) = false := by simp; omega
        have dw' : ((bk : Int) == nw) = false := by simp; omega
        by_cases hend : a + k = 8 * bs.length
        · have HE := Lib.hid hend; clear hend
          go_wp2_with (go_at_call 35; refine (get_end Br gr sv bs (a + k) 1 _ HIn.out.2.2.2.2.1 hb (by omega) (by omega) (by have := HE.out; omega)).mono ?_; rintro e w1 ⟨rfl, rfl⟩)
          go_ret2
          have e : lookup l ((unpack bs).drop a) = .fin := by
            rw [HIn.out.2.2.2.1, show 16 - k = (15 - k) + 1 by omega, look_fin (by rw [HNW.out, HBK.out]; omega) (by simp; have := HE.out; omega)]
          exact ⟨by rw [e]; rfl, (by rw [e]; intro n v h; cases h), HIn.out.2.2.2.2.2.drew⟩
        · have hkb : k < ((unpack bs).drop a).length := by simp; omega
          obtain ⟨b, hbit⟩ : ∃ b, ((unpack bs).drop a)[k] = b := ⟨_, rfl⟩
          have hnum : num (((unpack bs).drop (a + k)).take 1) = b.toNat := by
            have e1 : ((unpack bs).drop (a + k)).take 1 = [b] := by
              rw [← List.drop_drop, List.drop_eq_getElem_cons hkb, hbit]; rfl
            rw [e1]; cases b <;> rfl
          have HNum := Lib.hid hnum; clear hnum
          have hlk : lookup l ((unpack bs).drop a) = if 2 * v + b.toNat < upTo l (k + 1) then .found (k + 1) (2 * v + b.toNat) else look l ((unpack bs).drop a) (16 - (k + 1)) (k + 1) (2 * v + b.toNat) := by
            rw [HIn.out.2.2.2.1, show 16 - k = (16 - (k + 1)) + 1 by omega, look_step (by rw [HNW.out, HBK.out]; omega) hkb, hbit]
          have HLk := Lib.hid hlk; clear hlk
          have hb1 : b.toNat ≤ 1 := by cases b <;> simp
          have hvb : 2 * v + b.toNat < 2 ^ (k + 1) := by have := HIn.out.2.1; rw [Nat.pow_succ]; omega
          have HVB := Lib.hid hvb; clear hvb
          clear hbit hkb
          obtain ⟨x, hx⟩ : ∃ x, b.toNat = x := ⟨_, rfl⟩
          rw [hx] at HNum HLk hb1 HVB
          clear hx
          have wx : IntKind.i64.wrap (x : Int) = x := IntWalk.i64_in _ (by omega)
          by_cases hfo : 2 * v + x < fk + ck
          · have hfo' : decide (2 * (v : Int) + x < fk + ck) = true := by simp; omega
            go_wp2_with (go_at_call 35; refine (get_yes Br gr sv bs (a + k) 1 _ HIn.out.2.2.2.2.1 hb H256.out (by omega) (by omega)).mono ?_; rintro e w1 ⟨rfl, hG⟩; rw [HNum.out]; have HG := Lib.hid hG; clear hG)
            go_ret2
            have e : lookup l ((unpack bs).drop a) = .found (k + 1) (2 * v + x) := by rw [HLk.out, if_pos (by rw [EU.out]; exact hfo)]
            refine ⟨by rw [e]; simp only [lookVal, HBK.out, HFK.out]; go_num, ?_, HIn.out.2.2.2.2.2.trans HG.out.2⟩
            rw [e]
            intro n v h
            injection h with h1 h2
            rw [← h1, ← Nat.add_assoc]
            exact HG.out.1
          · have hfo' : decide (2 * (v : Int) + x < fk + ck) = false := by simp; omega
            go_wp2_with (go_at_call 35; refine (get_yes Br gr sv bs (a + k) 1 _ HIn.out.2.2.2.2.1 hb H256.out (by omega) (by omega)).mono ?_; rintro e w1 ⟨rfl, hG⟩; rw [HNum.out]; have HG := Lib.hid hG; clear hG)
            go_roundw
            case rel =>
              refine ⟨k + 1, 2 * v + x, by omega, by go_num, by rw [EB.out]; go_num, by rw [EF.out]; go_num, by go_num, ?_⟩
              refine ⟨by omega, HVB.out, by rw [EU.out]; omega, ?_, by rw [← Nat.add_assoc]; exact HG.out.1, HIn.out.2.2.2.2.2.trans HG.out.2⟩
              rw [HLk.out, if_neg (by rw [EU.out]; exact hfo)]
            case measure => simp [intOf]; omega
    · have e15 : Hid (k = 15) := Lib.hid (by omega)
      obtain ⟨bk, hbk⟩ : ∃ bk, bas l (k + 1) = bk := ⟨_, rfl⟩
      obtain ⟨fk, hfk⟩ : ∃ fk, fst l (k + 1) = fk := ⟨_, rfl⟩
      rw [hbk, hfk]
      clear hfk hbk
      go_wp2_with fail
      go_ret2
      have e : lookup l ((unpack bs).drop a) = .code := by
        rw [HIn.out.2.2.2.1, show 16 - k = (15 - k) + 1 by omega, look_code (by rw [e15.out, bas_words l HOK.out]; exact Nat.le_refl _)]
      exact ⟨by rw [e]; rfl, (by rw [e]; intro n v h; cases h), HIn.out.2.2.2.2.2⟩


theorem codeGet_nil (v : Value) (w : World) : Calls Try.prog 61 #[.pointer none, v] w fun e w' => e = .returned (.tuple #[.int .i64 0, .int .i64 1]) ∧ w = w' := by
  go_enter Try.func61, Try.ntmps61
  go_wp2
  go_ret2
  exact ⟨rfl, rfl⟩
/-- What Get answers: the sign whose word comes next, or an error. -/
def CodeGot (l : List Int) (bits : List Bool) (j : Nat) (er : Nat) (m : Nat) : Prop :=
  match lookup l bits with
  | .found n v => j < l.length ∧ len l j = n ∧ wv l j = v ∧ er = 0 ∧ m = n
  | .code => j = 0 ∧ er = 12 ∧ m = 0
  | .fin => j = 0 ∧ er = 6 ∧ m = 0
def CodeGetRes (w : World) (l : List Int) (Br gr : Nat) (sv : Value) (bs : List Nat) (a : Nat) (e : Ending) (w' : World) : Prop :=
  ∃ j er m, CodeGot l ((unpack bs).drop a) j er m ∧ e = .returned (.tuple #[.int .i64 (j : Nat), .int .i64 (er : Nat)]) ∧ ReaderAt w' Br gr sv bs (a + m) ∧ Only (fun k => k = gr) w w'

theorem ReaderAt.only {w w' : World} {B g : Nat} {sv : Value} {bs : List Nat} {a : Nat} {S : Nat → Prop} (h : ReaderAt w B g sv bs a) (ho : Only S w w') (hg : ¬ S g) (hs : ∀ k, sv.ownBlock = some k → ¬ S k) : ReaderAt w' B g sv bs a :=
  ⟨h.1, h.2.1.only ho hg, own_only h.2.2 ho hs⟩

set_option maxHeartbeats 1000000 in
set_option maxRecDepth 100000 in
theorem codeGet_any (B g : Nat) (l : List Int) (n : Nat) (hn : l.length = n) (hl : n ≤ 1000) (hr : kindOf l ≠ 0) (Br gr : Nat) (sv : Value) (bs : List Nat) (a : Nat) (w : World) (hc : CodeOwn w B g l n) (hR : ReaderAt w Br gr sv bs a)
    (hb : bs.length ≤ 1000000) (h256 : ∀ x ∈ bs, x < 256) (ha : a ≤ 8 * bs.length) :
    Calls Try.prog 61 #[.pointer (some ⟨g, 0, none⟩), .pointer (some ⟨gr, 0, none⟩)] w (CodeGetRes w l Br gr sv bs a) := by
  have HC := Lib.hid hc.seen
  obtain ⟨A1, c1, A2, c2, A3, c3, h1, _, h4, h5, h6⟩ := hc
  have h3 : w.heap.size ≤ w.heap.size := Nat.le_refl _
  have HSep : Hid (g ≠ gr ∧ ∀ k, (Value.slice A3 (words l) c3).ownBlock = some k → k ≠ gr) := Lib.hid ⟨h1.ne hR.2.1 (by decide), own_ne_whole h6 hR.2.1 (by decide)⟩
  have H6 := Lib.hid (Seen.of_own h6)
  have H1 := Lib.hid h1
  have hcs : w.cell? ⟨g, 18, none⟩ = some (.slice A3 (words l) c3) := (h1.cell 18).trans (cc_signs l n A1 c1 A2 c2 A3 c3)
  clear h1 h4 h5 h6
  have HN := Lib.hid hn; clear hn
  have HOK := Lib.hid (right_ok hr)
  have HR := Lib.hid hr; clear hr
  have r0 : w.cell? ⟨gr, 0, none⟩ = some sv := hR.2.1.cell 0
  have r1 : w.cell? ⟨gr, 1, none⟩ = some (.int .i64 a) := hR.2.1.cell 1
  have rl := hR.2.1.lt
  have HRd := Lib.hid hR; clear hR
  have H256 := Lib.hid h256; clear h256
  have hwords : words l ≤ 1000 := by have := words_le l; have := HN.out; omega
  by_cases hw : words l = 0
  · have HW := Lib.hid hw
    rw [hw] at hcs
    clear hw
    go_enter Try.func61, Try.ntmps61
    go_wp2
    go_ret2
    have e : lookup l ((unpack bs).drop a) = .code := look_code (by rw [HW.out]; omega)
    exact ⟨0, 12, 0, by unfold CodeGot; rw [e]; exact ⟨rfl, rfl, rfl⟩, rfl, HRd.out, Only.refl _ _⟩
  · obtain ⟨nw, hnw⟩ : ∃ nw, words l = nw := ⟨_, rfl⟩
    rw [hnw] at hw hwords hcs
    have HNW := Lib.hid hnw; clear hnw
    have dw : (nw == 0) = false := by simp; omega
    have dw' : ((nw : Int) == 0) = false := by simp; omega
    obtain ⟨As, cs, rfl, _⟩ := own_form HRd.out.2.2
    go_enter Try.func61, Try.ntmps61
    go_wp2_with fail
    have hW : Below w.heap.size w (w.alloc (.cells #[.slice As bs.length cs, .int .i64 a] 75)) := (Below.refl _ _).alloc (Nat.le_refl _) _
    refine (find_any w.heap.size g l n HN.out hl HR.out Br w.heap.size (.slice As bs.length cs) bs a _ (HC.out.below (hW.mono h3)) ⟨Nat.le_trans HRd.out.1 (Nat.le_of_lt rl), Whole.new _ _ _, HRd.out.2.2.alloc _⟩ h3 hb H256.out ha).mono ?_
    rintro e w1 ⟨rfl, hf, hO⟩
    have hO1 : Only Nob w w1 := ⟨hO.os, hO.tape, hO.output, Nat.le_trans hW.size hO.size, fun i hi _ => (hO.block i (by simp; omega) (by omega)).trans (hW.block i hi)⟩
    have HO := Lib.hid hO1; clear hO1 hW hO
    have HRd1 := Lib.hid (HRd.out.only HO.out (fun h => h) (fun _ _ h => h))
    cases hLk : lookup l ((unpack bs).drop a) with
    | code =>
      have HLk := Lib.hid hLk; clear hLk hf
      simp only [lookVal]
      go_wp2
      go_ret2
      exact ⟨0, 12, 0, by unfold CodeGot; rw [HLk.out]; exact ⟨rfl, rfl, rfl⟩, rfl, HRd1.out, HO.out.mono (fun _ _ h => h.elim)⟩
    | fin =>
      have HLk := Lib.hid hLk; clear hLk hf
      simp only [lookVal]
      go_wp2
      go_ret2
      exact ⟨0, 6, 0, by unfold CodeGot; rw [HLk.out]; exact ⟨rfl, rfl, rfl⟩, rfl, HRd1.out, HO.out.mono (fun _ _ h => h.elim)⟩
    | found m v =>
      have HLk := Lib.hid hLk
      have hf1 := Lib.hid (hf m v hLk)
      obtain ⟨l1, l2, l3, l4⟩ := lookup_found hLk
      obtain ⟨j, j1, j2, j3, j4, j5⟩ := sign_of HR.out m v l2 l3
      have hpos : pos l j < nw := by have := pos_lt HOK.out j j1 (by omega); rwa [HNW.out] at this
      have hs1 := H6.out.only HO.out h3 (fun _ _ h => h)
      obtain ⟨b, o, u, q1, q2, q3, q4⟩ := hs1.at (k := pos l j) (by rw [HNW.out]; exact hpos)
      have hu : u = .int .i64 (j : Nat) := by
        unfold srow at q3
        rw [mr_get _ _ _ (by rw [HNW.out]; exact hpos), ← HN.out, sg_at HOK.out l.length (Nat.le_refl _) j j1 (by omega)] at q3
        injection q3 with q3; exact q3.symm
      subst hu q1
      have hcs1 := HO.out.cell hcs (fun h => h)
      have f0 : w1.cell? ⟨w.heap.size, 0, none⟩ = some (.slice As bs.length cs) := hf1.out.2.1.cell 0
      have f1 : w1.cell? ⟨w.heap.size, 1, none⟩ = some (.int .i64 (a + m : Nat)) := hf1.out.2.1.cell 1
      have g0 := HRd1.out.2.1.cell 0
      have g1 := HRd1.out.2.1.cell 1
      have z0 := HRd1.out.2.1.frozen 0
      have z1 := HRd1.out.2.1.frozen 1
      have hm15 : m ≤ 15 := by rw [← j2]; exact len_le HOK.out j
      have hgne : g ≠ gr := HSep.out.1
      have hbne : b ≠ gr := HSep.out.2 b rfl
      simp only [lookVal]
      rw [← j5]
      obtain ⟨p, hp⟩ : ∃ p, pos l j = p := ⟨_, rfl⟩
      rw [hp] at hpos q4 ⊢
      obtain ⟨T, hT⟩ : ∃ T, a + m = T := ⟨_, rfl⟩
      rw [hT] at f1 hf1
      have HT := Lib.hid hT
      have HJ : Hid (j < l.length ∧ len l j = m ∧ wv l j = v) := Lib.hid ⟨j1, j2, j4⟩
      clear hp hT hf hLk l1 l2 l3 l4 j1 j2 j3 j4 j5 q3 hs1
      go_wp2
      go_ret2
      refine ⟨j, 0, m, by unfold CodeGot; rw [HLk.out]; exact ⟨HJ.out.1, HJ.out.2.1, HJ.out.2.2, rfl, rfl⟩, rfl, ?_, ?_⟩
      · rw [HT.out]
        refine ⟨HRd.out.1, ?_, ?_⟩
        · have := (HRd1.out.2.1.put 0 (.slice As bs.length cs)).put 1 (.int .i64 (T : Nat))
          simpa using this
        · exact own_only HRd1.out.2.2 (((Only.refl (fun k => k = gr) w1).setCell (p := ⟨gr, 0, none⟩) (.inl rfl) _).setCell (p := ⟨gr, 1, none⟩) (.inl rfl) _) (by
            intro k hk
            exact own_ne_whole HRd1.out.2.2 HRd1.out.2.1 (by decide) k hk)
      · have hO2 : Only (fun k => k = gr) w w1 := HO.out.mono (fun _ _ h => h.elim)
        exact (hO2.setCell (p := ⟨gr, 0, none⟩) (.inl rfl) _).setCell (p := ⟨gr, 1, none⟩) (.inl rfl) _

end Go.Proofs.Ytobchlakjgeadaa
