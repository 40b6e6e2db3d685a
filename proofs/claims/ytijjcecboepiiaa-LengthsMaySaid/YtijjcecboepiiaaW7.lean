/-
  Contracts of prefix: Get, Put, Signs. Conditions: a right code of at most a thousand signs, a reader of at most a million bytes.
-/
import Derived.Test.YtijjcecboepiiaaW6
namespace Go.Proofs.Ytijjcecboepiiaa
open Go.RowKit

theorem signs_nil (w : World) : Calls Try.prog 24 #[.pointer none] w fun e w' => e = .returned (.int .i64 0) ∧ w = w' := by
  go_enter Try.func24, Try.ntmps24
  go_wp2
  go_ret
  exact ⟨rfl, rfl⟩
theorem signs_any (B g : Nat) (l : List Int) (n : Nat) (w : World) (hc : CodeAt w B g l n) : Calls Try.prog 24 #[.pointer (some ⟨g, 0, none⟩)] w fun e w' => e = .returned (.int .i64 n) ∧ w = w' := by
  obtain ⟨A1, c1, A2, c2, A3, c3, h1, h2, h3, h4, h5, h6⟩ := hc
  have hcs : w.cell? ⟨g, 0, none⟩ = some (.slice A1 n c1) := (h1.cell 0).trans (cc_lens l n A1 c1 A2 c2 A3 c3).1
  clear h1 h2 h3 h4 h5 h6
  go_enter Try.func24, Try.ntmps24
  go_wp2
  go_ret
  exact ⟨rfl, rfl⟩
theorem codeGet_nil (v : Value) (w : World) : Calls Try.prog 22 #[.pointer none, v] w fun e w' => e = .returned (.tuple #[.int .i64 0, .int .i64 1]) ∧ w = w' := by
  go_enter Try.func22, Try.ntmps22
  go_wp2
  go_ret2
  exact ⟨rfl, rfl⟩
theorem codePut_nil (v u : Value) (w : World) : Calls Try.prog 25 #[.pointer none, v, u] w fun e w' => e = .returned (.int .i64 1) ∧ w = w' := by
  go_enter Try.func25, Try.ntmps25
  go_wp2
  go_ret
  exact ⟨rfl, rfl⟩

/-- What Get answers: the sign whose word comes next, or an error. -/
def CodeGot (l : List Int) (bits : List Bool) (j : Nat) (er : Nat) (m : Nat) : Prop :=
  match lookup l bits with
  | .found n v => j < l.length ∧ len l j = n ∧ wv l j = v ∧ er = 0 ∧ m = n
  | .code => j = 0 ∧ er = 12 ∧ m = 0
  | .fin => j = 0 ∧ er = 6 ∧ m = 0
def CodeGetRes (w : World) (l : List Int) (Br gr : Nat) (sv : Value) (bs : List Nat) (a : Nat) (e : Ending) (w' : World) : Prop :=
  ∃ j er m, CodeGot l ((unpack bs).drop a) j er m ∧ e = .returned (.tuple #[.int .i64 (j : Nat), .int .i64 (er : Nat)]) ∧ ReaderAt w' Br gr sv bs (a + m) ∧ Only (fun k => k = gr) w w'

theorem ReaderAt.only {w w' : World} {B g : Nat} {sv : Value} {bs : List Nat} {a : Nat} {S : Nat → Prop} (h : ReaderAt w B g sv bs a) (ho : Only S w w') (hg : ¬ S g) (hs : ∀ k, sv.ownBlock = some k → ¬ S k) : ReaderAt w' B g sv bs a :=
  ⟨h.1, h.2.1.only ho hg, own_only h.2.2 ho hs⟩

set_option maxHeartbeats 1000000 in
set_option maxRecDepth 100000 in
theorem codeGet_any (B g : Nat) (l : List Int) (n : Nat) (hn : l.length = n) (hl : n ≤ 1000) (hr : kindOf l ≠ 0) (Br gr : Nat) (sv : Value) (bs : List Nat) (a : Nat) (w : World) (hc : CodeAt w B g l n) (hR : ReaderAt w Br gr sv bs a) (hgr : B ≤ gr)
    (hb : bs.length ≤ 1000000) (h256 : ∀ x ∈ bs, x < 256) (ha : a ≤ 8 * bs.length) :
    Calls Try.prog 22 #[.pointer (some ⟨g, 0, none⟩), .pointer (some ⟨gr, 0, none⟩)] w (CodeGetRes w l Br gr sv bs a) := by
  have HC := Lib.hid hc
  obtain ⟨A1, c1, A2, c2, A3, c3, h1, h2, h3, h4, h5, h6⟩ := hc
  have H6 := Lib.hid h6
  have H1 := Lib.hid h1
  have hcs : w.cell? ⟨g, 18, none⟩ = some (.slice A3 (words l) c3) := (h1.cell 18).trans (cc_signs l n A1 c1 A2 c2 A3 c3)
  clear h1 h4 h5 h6
  have HN := Lib.hid hn; clear hn
  have HOK := Lib.hid (right_ok hr)
  have HR := Lib.hid hr; clear hr
  have r0 : w.cell? ⟨gr, 0, none⟩ = some sv := hR.2.1.cell 0
  have r1 : w.cell? ⟨gr, 1, none⟩ = some (.int .i64 a) := hR.2.1.cell 1
  have rl := hR.2.1.lt
  have HRd := Lib.hid hR; clear hR
  have H256 := Lib.hid h256; clear h256
  have hwords : words l ≤ 1000 := by have := words_le l; have := HN.out; omega
  by_cases hw : words l = 0
  · have HW := Lib.hid hw
    rw [hw] at hcs
    clear hw
    go_enter Try.func22, Try.ntmps22
    go_wp2
    go_ret2
    have e : lookup l ((unpack bs).drop a) = .code := look_code (by rw [HW.out]; omega)
    exact ⟨0, 12, 0, by unfold CodeGot; rw [e]; exact ⟨rfl, rfl, rfl⟩, rfl, HRd.out, Only.refl _ _⟩
  · obtain ⟨nw, hnw⟩ : ∃ nw, words l = nw := ⟨_, rfl⟩
    rw [hnw] at hw hwords hcs
    have HNW := Lib.hid hnw; clear hnw
    have dw : (nw == 0) = false := by simp; omega
    have dw' : ((nw : Int) == 0) = false := by simp; omega
    obtain ⟨As, cs, rfl, _⟩ := own_form HRd.out.2.2
    go_enter Try.func22, Try.ntmps22
    go_wp2_with fail
    have hW : Below w.heap.size w (w.alloc (.cells #[.slice As bs.length cs, .int .i64 a] 81)) := (Below.refl _ _).alloc (Nat.le_refl _) _
    refine (find_any B g l n HN.out hl HR.out Br w.heap.size (.slice As bs.length cs) bs a _ (HC.out.below (hW.mono h3)) ⟨Nat.le_trans HRd.out.1 (Nat.le_of_lt rl), Whole.new _ _ _, HRd.out.2.2.alloc _⟩ h3 hb H256.out ha).mono ?_
    rintro e w1 ⟨rfl, hf, hO⟩
    have hO1 : Only Nob w w1 := ⟨hO.os, hO.tape, hO.output, Nat.le_trans hW.size hO.size, fun i hi _ => (hO.block i (by simp; omega) (by omega)).trans (hW.block i hi)⟩
    have HO := Lib.hid hO1; clear hO1 hW hO
    have HRd1 := Lib.hid (HRd.out.only HO.out (fun h => h) (fun _ _ h => h))
    cases hLk : lookup l ((unpack bs).drop a) with
    | code =>
      have HLk := Lib.hid hLk; clear hLk hf
      simp only [lookVal]
      go_wp2
      go_ret2
      exact ⟨0, 12, 0, by unfold CodeGot; rw [HLk.out]; exact ⟨rfl, rfl, rfl⟩, rfl, HRd1.out, HO.out.mono (fun _ _ h => h.elim)⟩
    | fin =>
      have HLk := Lib.hid hLk; clear hLk hf
      simp only [lookVal]
      go_wp2
      go_ret2
      exact ⟨0, 6, 0, by unfold CodeGot; rw [HLk.out]; exact ⟨rfl, rfl, rfl⟩, rfl, HRd1.out, HO.out.mono (fun _ _ h => h.elim)⟩
    | found m v =>
      have HLk := Lib.hid hLk
      have hf1 := Lib.hid (hf m v hLk)
      obtain ⟨l1, l2, l3, l4⟩ := lookup_found hLk
      obtain ⟨j, j1, j2, j3, j4, j5⟩ := sign_of HR.out m v l2 l3
      have hpos : pos l j < nw := by have := pos_lt HOK.out j j1 (by omega); rwa [HNW.out] at this
      have hs1 := H6.out.only HO.out h3 (fun _ _ h => h)
      obtain ⟨b, o, u, q1, q2, q3, q4⟩ := hs1.at (k := pos l j) (by rw [HNW.out]; exact hpos)
      have hu : u = .int .i64 (j : Nat) := by
        unfold srow at q3
        rw [mr_get _ _ _ (by rw [HNW.out]; exact hpos), ← HN.out, sg_at HOK.out l.length (Nat.le_refl _) j j1 (by omega)] at q3
        injection q3 with q3; exact q3.symm
      subst hu q1
      have hcs1 := HO.out.cell hcs (fun h => h)
      have f0 : w1.cell? ⟨w.heap.size, 0, none⟩ = some (.slice As bs.length cs) := hf1.out.2.1.cell 0
      have f1 : w1.cell? ⟨w.heap.size, 1, none⟩ = some (.int .i64 (a + m : Nat)) := hf1.out.2.1.cell 1
      have g0 := HRd1.out.2.1.cell 0
      have g1 := HRd1.out.2.1.cell 1
      have z0 := HRd1.out.2.1.frozen 0
      have z1 := HRd1.out.2.1.frozen 1
      have hm15 : m ≤ 15 := by rw [← j2]; exact len_le HOK.out j
      have hgne : g ≠ gr := by omega
      have hbne : b ≠ gr := by omega
      simp only [lookVal]
      rw [← j5]
      obtain ⟨p, hp⟩ : ∃ p, pos l j = p := ⟨_, rfl⟩
      rw [hp] at hpos q4 ⊢
      obtain ⟨T, hT⟩ : ∃ T, a + m = T := ⟨_, rfl⟩
      rw [hT] at f1 hf1
      have HT := Lib.hid hT
      have HJ : Hid (j < l.length ∧ len l j = m ∧ wv l j = v) := Lib.hid ⟨j1, j2, j4⟩
      clear hp hT hf hLk l1 l2 l3 l4 j1 j2 j3 j4 j5 q3 hs1
      go_wp2
      go_ret2
      refine ⟨j, 0, m, by unfold CodeGot; rw [HLk.out]; exact ⟨HJ.out.1, HJ.out.2.1, HJ.out.2.2, rfl, rfl⟩, rfl, ?_, ?_⟩
      · rw [HT.out]
        refine ⟨HRd.out.1, ?_, ?_⟩
        · have := (HRd1.out.2.1.put 0 (.slice As bs.length cs)).put 1 (.int .i64 (T : Nat))
          simpa using this
        · exact own_only HRd1.out.2.2 (((Only.refl (fun k => k = gr) w1).setCell (p := ⟨gr, 0, none⟩) (.inl rfl) _).setCell (p := ⟨gr, 1, none⟩) (.inl rfl) _) (by
            intro k hk
            exact own_ne_whole HRd1.out.2.2 HRd1.out.2.1 (by decide) k hk)
      · have hO2 : Only (fun k => k = gr) w w1 := HO.out.mono (fun _ _ h => h.elim)
        exact (hO2.setCell (p := ⟨gr, 0, none⟩) (.inl rfl) _).setCell (p := ⟨gr, 1, none⟩) (.inl rfl) _
end Go.Proofs.Ytijjcecboepiiaa
