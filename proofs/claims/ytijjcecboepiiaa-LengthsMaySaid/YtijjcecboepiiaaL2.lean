/-
  The walk of PrefixReads: it answers true, and changes nothing that was there. Conditions: the slices are read as told (Seen).
-/
import Derived.Test.YtijjcecboepiiaaF1
import Derived.Test.YtijjcecboepiiaaO1
import Derived.Test.YtijjcecboepiiaaX
import Derived.Deep.QuietTactic
import Derived.BigQuiet
namespace Go.Proofs.Ytijjcecboepiiaa
open Go.RowKit

theorem left_quiet (B g : Nat) (sv : Value) (bs : List Nat) (a : Nat) (w : World) (h : ReaderAt w B g sv bs a) (hb : bs.length ≤ 1000) (ha : a ≤ 8 * bs.length) (n : Nat) :
    Calls Try.prog 29 #[.pointer (some ⟨g, 0, none⟩)] (w.drewN n) fun e w'' => e = .returned (.int .i64 ((8 * bs.length - a : Nat) : Int)) ∧ ∃ m, w'' = w.drewN m :=
  (left_any B g sv bs a (w.drewN n) h (by omega) ha).mono fun _ _ ⟨he, hw⟩ => ⟨he, n + 1, by rw [hw]; rfl⟩

theorem got_same {l : List Int} {bits : List Bool} (hr : kindOf l ≠ 0) {j er m j' er' m' : Nat} (h : CodeGot l bits j er m) (h' : CodeGot l bits j' er' m') : j = j' ∧ er = er' ∧ m = m' ∧ m ≤ bits.length := by
  unfold CodeGot at h h'
  cases e : lookup l bits with
  | code => rw [e] at h h'; simp only at h h'; omega
  | fin => rw [e] at h h'; simp only at h h'; omega
  | found n v =>
    rw [e] at h h'
    simp only at h h'
    obtain ⟨a1, a2, a3, a4, a5⟩ := h
    obtain ⟨b1, b2, b3, b4, b5⟩ := h'
    have hf := lookup_found e
    obtain ⟨_, _, _, h0, _⟩ := sign_of hr n v hf.2.1 hf.2.2.1
    refine ⟨?_, by omega, by omega, by omega⟩
    refine pos_inj (right_ok hr) j j' a1 b1 (by omega) (by omega) ?_
    unfold wv at a3 b3
    unfold pos
    rw [a2] at a3 ⊢
    rw [b2] at b3 ⊢
    omega

/-- Both readers stand at one place. -/
def Both (w : World) (B gr gq : Nat) (sv sq : Value) (bs : List Nat) (a : Nat) (wr : World) : Prop :=
  a ≤ 8 * bs.length ∧ ReaderAt wr B gr sv bs a ∧ RefAt wr B gq sq (unpack bs) a ∧ Below B w wr

theorem reads_long (A A2 : Option Addr) (n c n2 c2 : Nat) (hn : 40 < n ∨ 40 < n2) (w : World) : Calls Try.prog 8 #[.slice A n c, .slice A2 n2 c2] w fun e w' => e = .returned (.bool true) ∧ Below w.heap.size w w' := by
  by_cases h1 : 40 < n
  · clear hn
    go_enter Try.func8, Try.ntmps8
    go_wp2_with (go_at_call 17; refine (fixed_any _).mono ?_; rintro e w1 ⟨rfl, hb1⟩; have B1 := Lib.hid hb1; clear hb1)
    go_ret
    exact ⟨rfl, B1.out⟩
  · have h2 : 40 < n2 := by omega
    clear hn
    go_enter Try.func8, Try.ntmps8
    go_wp2_with (go_at_call 17; refine (fixed_any _).mono ?_; rintro e w1 ⟨rfl, hb1⟩; have B1 := Lib.hid hb1; clear hb1)
    go_ret
    exact ⟨rfl, B1.out⟩

set_option maxHeartbeats 1000000 in
set_option maxRecDepth 100000 in
theorem reads_bad (A A2 : Option Addr) (n c n2 c2 : Nat) (hn1 : n ≤ 40) (hn2 : n2 ≤ 40) (l : List Int) (bs : List Nat) (hn : l.length = n) (hb : bs.length = n2) (hk : kindOf l = 0) (w : World) (hs : Seen w w.heap.size 1 A n c (iv l)) (hs2 : Seen w w.heap.size 1 A2 n2 c2 (bv bs)) :
    Calls Try.prog 8 #[.slice A n c, .slice A2 n2 c2] w fun e w' => e = .returned (.bool true) ∧ Below w.heap.size w w' := by
  have HS := Lib.hid hs; clear hs
  have HS2 := Lib.hid hs2; clear hs2
  have HN := Lib.hid hn; clear hn
  have HN2 := Lib.hid hb; clear hb
  have HK := Lib.hid hk; clear hk
  go_enter Try.func8, Try.ntmps8
  go_wp2_with (first
      | (go_at_call 17; refine (fixed_any _).mono ?_; rintro e w1 ⟨rfl, hb1⟩; have B1 := Lib.hid hb1; clear hb1)
      | (go_at_call 19; refine (refWords_bad A n c w.heap.size l HN.out (by omega) HK.out _ (HS.out.below B1.out) B1.out.size).mono ?_; rintro e w3 ⟨rfl, hb3⟩; have B3 := Lib.hid (B1.out.trans (hb3.mono B1.out.size)); clear hb3)
      | (go_at_call 20; refine (new_bad A n c w.heap.size l HN.out (by omega) HK.out _ (HS.out.below B3.out)).mono ?_; rintro e w4 ⟨rfl, rfl⟩)
      | (go_at_call 23; refine (newReader_any A2 n2 c2 w.heap.size bs _ HN2.out (HS2.out.below B3.out) B3.out.size (by omega)).mono ?_; rintro e w5 ⟨gr, sv, rfl, _, hb5⟩; have B5 := Lib.hid (B3.out.trans (hb5.mono B3.out.size)); clear hb5)
      | (go_at_call 22; refine (codeGet_nil _ _).mono ?_; rintro e w6 ⟨rfl, rfl⟩)
      | (go_at_call 24; refine (signs_nil _).mono ?_; rintro e w7 ⟨rfl, rfl⟩)
      | (go_at_call 26; refine (newWriter_any _).mono ?_; rintro e w8 ⟨rfl, _, hb8⟩; have B8 := Lib.hid (B5.out.trans (hb8.mono B5.out.size)); clear hb8)
      | (go_at_call 25; refine (codePut_nil _ _ _).mono ?_; rintro e w9 ⟨rfl, rfl⟩))
  go_ret
  exact ⟨rfl, B8.out⟩

set_option maxHeartbeats 1000000 in
set_option maxRecDepth 100000 in
theorem reads_good (A A2 : Option Addr) (n c n2 c2 : Nat) (hn1 : n ≤ 40) (hn2 : n2 ≤ 40) (l : List Int) (bs : List Nat) (hn : l.length = n) (hb : bs.length = n2) (hk : kindOf l ≠ 0) (h256 : ∀ y ∈ bs, y < 256) (w : World) (hs : Seen w w.heap.size 1 A n c (iv l)) (hs2 : Seen w w.heap.size 1 A2 n2 c2 (bv bs)) :
    Calls Try.prog 8 #[.slice A n c, .slice A2 n2 c2] w fun e w' => e = .returned (.bool true) ∧ Below w.heap.size w w' := by
  subst hb
  have HS := Lib.hid hs; clear hs
  have HS2 := Lib.hid hs2; clear hs2
  have HN := Lib.hid hn; clear hn
  have HK := Lib.hid hk; clear hk
  have H256 := Lib.hid h256; clear h256
  have d1 : decide ((40 : Int) < n) = false := by simp; omega
  have d2 : decide ((40 : Int) < bs.length) = false := by simp; omega
  go_enter Try.func8, Try.ntmps8
  go_wp2_with fail
  refine (fixed_any _).mono ?_; rintro e w1 ⟨rfl, hb1⟩; have B1 := Lib.hid hb1; clear hb1
  go_wp2_with fail
  refine (refWords_any A n c w.heap.size l HN.out (by omega) HK.out _ (HS.out.below B1.out) B1.out.size).mono ?_
  rintro e w3 ⟨v3, rfl, ho3, hb3⟩
  obtain ⟨A3, c3, rfl, _, hs3⟩ := own_seen ho3
  have S3 := Lib.hid hs3
  have B3 := Lib.hid (B1.out.trans (hb3.mono B1.out.size)); clear hb3 ho3 hs3
  go_wp2_with fail
  refine (new_any A n c w.heap.size l HN.out (by omega) HK.out _ (HS.out.below B3.out) B3.out.size).mono ?_
  rintro e w4 ⟨g4, rfl, hc4, _, hb4⟩
  have S4 := Lib.hid ((S3.out.below hb4).more hb4.size)
  have C4 := Lib.hid hc4
  have B4 := Lib.hid (B3.out.trans (hb4.mono B3.out.size)); clear hb4 S3 hc4
  go_wp2_with fail
  refine (newReader_any A2 _ c2 w.heap.size bs _ rfl (HS2.out.below B4.out) B4.out.size (by omega)).mono ?_
  rintro e w5 ⟨gr, sv, rfl, hR5, hb5⟩
  have R5 := Lib.hid hR5
  have B45 := Lib.hid hb5
  have B5 := Lib.hid (B4.out.trans (hb5.mono B4.out.size))
  clear hR5 hb5
  go_wp2_with fail
  refine (refOf_any A2 c2 w.heap.size bs _ rfl _ (HS2.out.below B5.out) B5.out.size (by omega) H256.out).mono ?_
  rintro e w6 ⟨v6, rfl, ho6, hb6⟩
  obtain ⟨A6, c6, rfl, hc6⟩ := own_form ho6
  have O6 := Lib.hid ho6
  have R6 := Lib.hid (R5.out.only (Only.of_below hb6 Nob) (fun h => h) (fun _ _ h => h))
  have B46 := Lib.hid (B45.out.trans (hb6.mono B45.out.size))
  have hz45 := B45.out.size
  have hz46 := B46.out.size
  clear ho6 hb6
  go_wp2_with fail
  have H0 : Hid (Both w4 w4.heap.size gr w6.heap.size sv (.slice A6 (8 * bs.length) c6) bs 0 (w6.alloc (.cells #[.slice A6 (8 * bs.length) c6, .int .i64 0] 57))) := Lib.hid (by
    refine ⟨by omega, R6.out.only ((Only.refl Nob _).alloc _) (fun h => h) (fun _ _ h => h), ⟨hz46, Whole.new _ _ _, ?_⟩, B46.out.alloc hz46 _⟩
    have h5 := own_base (O6.out.alloc (.cells #[.slice A6 (8 * bs.length) c6, .int .i64 0] 57)) hz45
    simpa using h5)
  obtain ⟨gq, hgq⟩ : ∃ gq, w6.heap.size = gq := ⟨_, rfl⟩
  rw [hgq] at H0 ⊢
  clear hgq d1 d2
  have hgrB : w4.heap.size ≤ gr := R6.out.1
  go_loopw [13, 14, 15, 16, 73] (fun _ _ _ _ i wr => ∃ k a : Nat, k ≤ 8 * bs.length + 1 ∧ i = .int .i64 k ∧ Both w4 w4.heap.size gr gq sv (.slice A6 (8 * bs.length) c6) bs a wr) (fun _ _ _ _ i _ => 8 * bs.length + 1 - (intOf i).toNat)
  case atStart => exact ⟨0, 0, by omega, rfl, H0.out⟩
  case round =>
    clear H0
    obtain ⟨k, a, hk, rfl, ha, hR, hQ, hbel⟩ := hrel
    have HR := Lib.hid hR; clear hR
    have HQ := Lib.hid hQ; clear hQ
    have HBel := Lib.hid hbel; clear hbel
    by_cases hlt : k < 8 * bs.length + 1
    · have hlt' : decide ((k : Int) < 8 * bs.length + 1) = true := by simp; omega
      go_wp2_with fail
      refine (codeGet_any w4.heap.size g4 l n HN.out (by omega) HK.out w4.heap.size gr sv bs a _ (C4.out.below HBel.out) HR.out hgrB (by omega) H256.out ha).mono ?_
      rintro e w7 ⟨j, er, m, hgot, rfl, hR7, hO7⟩
      have hQ7 : RefAt w7 w4.heap.size gq (.slice A6 (8 * bs.length) c6) (unpack bs) a := ⟨HQ.out.1, HQ.out.2.1.only hO7 (fun e => HQ.out.2.1.ne HR.out.2.1 (by decide) e), own_only HQ.out.2.2 hO7 (fun k hk e => own_ne_whole HQ.out.2.2 HR.out.2.1 (by decide) k hk e)⟩
      have B7 : Hid (Below w4.heap.size w4 w7) := Lib.hid (HBel.out.trans (hO7.below HBel.out.size (by intro k hk; have : k = gr := hk; omega)))
      have HQ7 := Lib.hid hQ7
      have HR7 := Lib.hid hR7
      have HG := Lib.hid hgot
      clear hQ7 hR7 hO7 hgot HQ HR HBel
      go_wp2_with fail
      refine (codeRefGet_any A3 c3 w4.heap.size l n HN.out (by omega) HK.out w4.heap.size gq (.slice A6 (8 * bs.length) c6) (unpack bs) a _ (S4.out.below B7.out) B7.out.size HQ7.out (by simp; omega) (by simp; exact ha)).mono ?_
      rintro e w8 ⟨j2, er2, m2, hgot2, rfl, hQ8, hO8⟩
      obtain ⟨rfl, rfl, rfl, hm⟩ := got_same HK.out HG.out hgot2
      have hR8 : ReaderAt w8 w4.heap.size gr sv bs (a + m) := HR7.out.only hO8 (fun e => HR7.out.2.1.ne HQ7.out.2.1 (by decide) e) (fun k hk e => own_ne_whole HR7.out.2.2 HQ7.out.2.1 (by decide) k hk e)
      have B8 : Hid (Below w4.heap.size w4 w8) := Lib.hid (B7.out.trans (hO8.below B7.out.size (by intro k hk; have : k = gq := hk; have := HQ7.out.1; omega)))
      have HQ8 := Lib.hid hQ8
      have HR8 := Lib.hid hR8
      have hc0 : w8.cell? ⟨gq, 0, none⟩ = some (.slice A6 (8 * bs.length) c6) := hQ8.2.1.cell 0
      have hc1 : w8.cell? ⟨gq, 1, none⟩ = some (.int .i64 (a + m : Nat)) := hQ8.2.1.cell 1
      have hp : a + m ≤ 8 * bs.length := by rw [List.length_drop, unpack_length] at hm; omega
      have hEr : er = 0 ∨ (er == 0) = false := by by_cases h : er = 0; exact .inl h; exact .inr (by simpa using h)
      clear hQ8 hR8 hO8 hgot2 HQ7 HR7 HG hm ha
      obtain ⟨p, hpe⟩ : ∃ p, a + m = p := ⟨_, rfl⟩
      rw [hpe] at HQ8 HR8 hc1 hp
      clear hpe
      have hzz : ((((8 * bs.length - p : Nat) : Int)) != (8 * (bs.length : Int) - p)) = false := by simp; omega
      have hw8 : IntKind.i64.wrap (8 * (bs.length : Int) - p) = 8 * (bs.length : Int) - p := IntWalk.i64_in _ (by omega)
      rcases hEr with rfl | hEr
      · go_wp2_with fail
        go_quiet ((go_at_call 29; exact left_quiet _ gr sv bs _ _ HR8.out (by omega) (by omega) _))
        go_wp2_with fail
        go_roundw
        case rel => exact ⟨k + 1, p, by omega, by go_num, hp, HR8.out, HQ8.out, ⟨B8.out.os, B8.out.tape, B8.out.output, B8.out.size, B8.out.block⟩⟩
        case measure => simp [intOf]; omega
      · have hEr2 : ((er : Int) != 0) = true := by simp at hEr ⊢; omega
        have hEr3 : (er != 0) = true := by simp at hEr ⊢; omega
        go_wp2_with fail
        go_quiet ((go_at_call 29; exact left_quiet _ gr sv bs _ _ HR8.out (by omega) (by omega) _))
        go_wp2_with fail
        go_ret
        have B8' : Below w4.heap.size w4 (w8.drewN 1) := ⟨B8.out.os, B8.out.tape, B8.out.output, B8.out.size, B8.out.block⟩
        have := B4.out.trans (B8'.mono B4.out.size)
        exact ⟨rfl, ⟨this.os, this.tape, this.output, this.size, this.block⟩⟩
    · have hlt' : decide ((k : Int) < 8 * bs.length + 1) = false := by simp; omega
      go_wp2_with fail
      go_ret
      exact ⟨rfl, B4.out.trans (HBel.out.mono B4.out.size)⟩

theorem reads_law (A : Option Addr) (n c : Nat) (_ : n ≤ 9223372036854775807) (A2 : Option Addr) (n2 c2 : Nat) (_ : n2 ≤ 9223372036854775807) (w : World)
    (hp : ∃ l : List Int, l.length = n ∧ (∀ y ∈ l, -9223372036854775808 ≤ y ∧ y < 9223372036854775808) ∧ Seen w w.heap.size 1 A n c (iv l)) (hp2 : ∃ bs : List Nat, bs.length = n2 ∧ (∀ y ∈ bs, y < 256) ∧ Seen w w.heap.size 1 A2 n2 c2 (bv bs)) :
    Calls Try.prog 8 #[.slice A n c, .slice A2 n2 c2] w fun e w' => e = .returned (.bool true) ∧ Below w.heap.size w w' := by
  obtain ⟨l, h1, _, h2⟩ := hp
  obtain ⟨bs, h3, h4, h5⟩ := hp2
  by_cases hn : 40 < n ∨ 40 < n2
  · exact reads_long A A2 n c n2 c2 hn w
  · by_cases hk : kindOf l = 0
    · exact reads_bad A A2 n c n2 c2 (by omega) (by omega) l bs h1 h3 hk w h2 h5
    · exact reads_good A A2 n c n2 c2 (by omega) (by omega) l bs h1 h3 hk h4 w h2 h5
end Go.Proofs.Ytijjcecboepiiaa
