/-
  The program's Print. Conditions: at most a hundred thousand headers a section, a thousand sections, texts of at most a hundred thousand bytes.
-/
import Derived.Test.YteadhiehhpafjaaDoorNL
namespace Go.Proofs.YteadhiehhpafjaaDoor
open Go Go.RowKit
set_option maxRecDepth 100000

/-- Headers. -/
abbrev Sec := List (ByteArray × ByteArray)
/-- Sections as a row of values in memory. -/
def SecsSeen (w : World) (B : Nat) (rows : List Value) (ps : List Sec) : Prop :=
  rows.length = ps.length ∧ ∀ (i : Nat) (h : i < ps.length), ∃ A c, rows[i]? = some (.slice A ps[i].length c) ∧ Seen w B 2 A ps[i].length c (pvs ps[i])
/-- A manifest in memory. -/
def ManSeen (w : World) (B : Nat) (v : Value) (main : Sec) (ps : List Sec) : Prop :=
  ∃ A c A2 c2 rows, v = .agg #[.slice A main.length c, .slice A2 ps.length c2] ∧ Seen w B 2 A main.length c (pvs main) ∧ Seen w B 1 A2 ps.length c2 rows ∧ SecsSeen w B rows ps
theorem SecsSeen.below {w w' : World} {B : Nat} {rows : List Value} {ps : List Sec} (h : SecsSeen w B rows ps) (hb : Below B w w') : SecsSeen w' B rows ps :=
  ⟨h.1, fun i hi => by obtain ⟨A, c, h1, h2⟩ := h.2 i hi; exact ⟨A, c, h1, h2.below hb⟩⟩
def mainF : ByteArray := ⟨#[109, 97, 110, 105, 102, 101, 115, 116, 45, 118, 101, 114, 115, 105, 111, 110]⟩
def partF : ByteArray := ⟨#[110, 97, 109, 101]⟩
def partsErr : List Sec → Int
  | [] => 0
  | p :: ps => if secRes partF p = 0 then partsErr ps else secRes partF p
def manErr (main : Sec) (ps : List Sec) : Int := if secRes mainF main = 0 then partsErr ps else secRes mainF main
def manText (main : Sec) (ps : List Sec) : List UInt8 := secText main ++ ps.flatMap secText
theorem partsErr_app : ∀ (l r : List Sec), partsErr l = 0 → partsErr (l ++ r) = partsErr r
  | [], _, _ => rfl
  | p :: l, r, h => by
    rw [partsErr] at h
    by_cases hp : secRes partF p = 0
    · rw [if_pos hp] at h
      rw [List.cons_append, partsErr, if_pos hp]; exact partsErr_app l r h
    · rw [if_neg hp] at h; exact absurd h hp
theorem partsErr_take (l : List Sec) (k : Nat) (hk : k < l.length) (h : partsErr (l.take k) = 0) : partsErr l = if secRes partF l[k] = 0 then partsErr (l.drop (k + 1)) else secRes partF l[k] := by
  have e : l = l.take k ++ (l[k] :: l.drop (k + 1)) := by rw [← List.drop_eq_getElem_cons hk, List.take_append_drop]
  have := partsErr_app (l.take k) (l[k] :: l.drop (k + 1)) h
  rw [← e, partsErr] at this
  exact this
theorem partsErr_next (l : List Sec) (k : Nat) (hk : k < l.length) (h : partsErr (l.take k) = 0) (hj : secRes partF l[k] = 0) : partsErr (l.take (k + 1)) = 0 := by
  rw [take_next l k hk, partsErr_app _ _ h]
  simp [partsErr, hj]
/-- A manifest that is not too great. -/
def Small (l : Sec) : Prop := l.length ≤ 1000 ∧ ∀ p ∈ l, p.1.size ≤ 100000 ∧ p.2.size ≤ 100000
theorem secText_length (l : Sec) (h : Small l) : (secText l).length ≤ 15000000002 := by
  have := hTexts_length l h.2
  have := h.1
  rw [secText, List.length_append]; simp only [List.length_cons, List.length_nil]; omega
theorem secTexts_length (l : List Sec) (h : ∀ s ∈ l, Small s) : (l.flatMap secText).length ≤ 15000000002 * l.length := by
  induction l with
  | nil => simp
  | cons p l ih =>
    have h1 := secText_length p (h p (by simp))
    have h2 := ih (fun q hq => h q (by simp [hq]))
    rw [List.flatMap_cons, List.length_append, List.length_cons]
    omega

/-- What printing does. -/
def Prints (w : World) (main : Sec) (ps : List Sec) (e : Ending) (w' : World) : Prop :=
  Below w.heap.size w w' ∧ ∃ v, e = .returned (.tuple #[v, .int .i64 (manErr main ps)]) ∧
    (manErr main ps ≠ 0 → v = .slice none 0 0) ∧ (manErr main ps = 0 → w'.ownsRow w.heap.size 5 1 v (manText main ps).length (Lib.byteCells (manText main ps)))

set_option maxHeartbeats 8000000 in
theorem print_any (B : Nat) (vm : Value) (main : Sec) (ps : List Sec) (hm : Small main) (hps : ∀ s ∈ ps, Small s) (hp2 : ps.length ≤ 500) (w : World) (hV : ManSeen w B vm main ps) (hB : B ≤ w.heap.size) :
    Calls Tryd.prog 12 #[vm] w (Prints w main ps) := by
  obtain ⟨A, c, A2, c2, rows, rfl, hA, hA2, hR⟩ := hV
  obtain ⟨n, hn⟩ : ∃ n, main.length = n := ⟨_, rfl⟩
  obtain ⟨m, hmm⟩ : ∃ m, ps.length = m := ⟨_, rfl⟩
  rw [hn] at hA ⊢
  rw [hmm] at hA2 ⊢
  have HA := Lib.hid hA
  have HA2 := Lib.hid hA2
  have HR := Lib.hid hR
  clear hA hA2 hR
  obtain ⟨w1, hw1⟩ : ∃ W, w.alloc (.cells #[.slice A n c, .slice A2 m c2] 27) = W := ⟨_, rfl⟩
  have W1 := Lib.hid (hw1 ▸ Whole.new w 27 #[.slice A n c, .slice A2 m c2])
  have B1 := Lib.hid (hw1 ▸ (Below.refl w.heap.size w).alloc (Nat.le_refl _) (.cells #[.slice A n c, .slice A2 m c2] 27))
  have Z1 : w1.heap.size = w.heap.size + 1 := by rw [← hw1]; simp
  obtain ⟨w2, hw2⟩ : ∃ W, w1.alloc (.cells #[.slice none 0 0, .int .i64 0, .int .i8 0] 60) = W := ⟨_, rfl⟩
  have BF2 : Hid (BufAt w1.heap.size w1.heap.size [] w2) := Lib.hid (hw2 ▸ Lib.fresh_isBuffer 60 5 w1)
  have O2 : Hid (Only Nob w1 w2) := Lib.hid (hw2 ▸ (Only.refl Nob w1).alloc _)
  have W2 := Lib.hid (W1.out.only O2.out (fun h => h))
  have B2 := Lib.hid (B1.out.trans (O2.out.nob_below.mono (by omega)))
  have Z2 : w2.heap.size = w1.heap.size + 1 := by rw [← hw2]; simp
  have c20 := W2.out.cell 0
  have c21 := W2.out.cell 1
  simp only [List.getElem?_toArray, List.getElem?_cons_zero, List.getElem?_cons_succ] at c20 c21
  have SM := Lib.hid (section_any w1.heap.size w1.heap.size [] mainF main A n c hn (by have := hm.1; omega) hm.2 (by simp) w2 ((HA.out.below (B2.out.mono hB)).more (by omega)) (by omega) BF2.out)
  unfold mainF at SM
  obtain ⟨r, hr⟩ : ∃ r, secRes mainF main = r := ⟨_, rfl⟩
  have HRR := Lib.hid hr
  go_enter Tryd.func12, Tryd.ntmps12
  have HS := Lib.hid (And.intro Z1 Z2)
  unfold PrintsSec at SM
  rw [show secRes (⟨#[109, 97, 110, 105, 102, 101, 115, 116, 45, 118, 101, 114, 115, 105, 111, 110]⟩ : ByteArray) main = r from hr] at SM
  clear hr Z1 Z2
  by_cases hr0 : r = 0
  · subst hr0
    have hme : manErr main ps = partsErr ps := by rw [manErr, if_pos HRR.out]
    have HME := Lib.hid hme
    clear hme
    go_wp2_with (go_at_call 28; refine (SM.out).mono ?_; rintro e w3 ⟨rfl, b3, t3, l3, g3⟩; have W3 := Lib.hid ((b3.block _ (by have := HS.out; omega)).trans W2.out); have B3 := Lib.hid b3; have BF3 := Lib.hid ((g3 rfl) ▸ l3); have c31 := (show Whole w3 w.heap.size 27 #[.slice A n c, .slice A2 m c2] from W3.out).cell 1; simp only [List.getElem?_toArray, List.getElem?_cons_zero, List.getElem?_cons_succ] at c31; clear b3 l3 g3)
    go_loopg [18] m (fun j v wr => ∃ k : Nat, k ≤ m ∧ j = m - k ∧ v = .int .i64 k ∧ BufAt w1.heap.size w1.heap.size (secText main ++ (ps.take k).flatMap secText) wr ∧ Below w1.heap.size w2 wr ∧ partsErr (ps.take k) = 0)
    case atStart => exact ⟨0, by omega, rfl, rfl, by simpa using BF3.out, B3.out, by simp [partsErr]⟩
    case round =>
      obtain ⟨k, hk, rfl, rfl, hBf, hBl, hE⟩ := hrel
      obtain ⟨wo, rfl⟩ : ∃ W, W = wr := ⟨_, rfl⟩
      have BF4 := Lib.hid hBf
      have B4 := Lib.hid hBl
      have HE := Lib.hid hE
      clear hBf hBl hE
      have BW : Hid (Below w.heap.size w wo) := Lib.hid (B2.out.trans (B4.out.mono (by have := HS.out; omega)))
      by_cases hlt : k < m
      · have hkl : k < ps.length := by omega
        obtain ⟨b', o', u, rfl, _, hu, hcell⟩ := (HA2.out.below (BW.out.mono hB)).at hlt
        obtain ⟨A5, c5, h5, s5⟩ := (HR.out.below (BW.out.mono hB)).2 k hkl
        obtain rfl : u = .slice A5 ps[k].length c5 := by rw [h5] at hu; injection hu with hu; exact hu.symm
        obtain ⟨q, hq⟩ : ∃ q, ps[k] = q := ⟨_, rfl⟩
        have hqs := hps _ (List.getElem_mem hkl)
        rw [hq] at hcell s5 hqs
        have HQ := Lib.hid hq
        have hT : (secText main ++ (ps.take k).flatMap secText).length ≤ 10000000000000 := by
          have h1 := secText_length main hm
          have h2 := secTexts_length (ps.take k) (fun s hs => hps s (List.mem_of_mem_take hs))
          rw [List.length_take] at h2
          rw [List.length_append]; omega
        have SP := Lib.hid (section_any w1.heap.size w1.heap.size (secText main ++ (ps.take k).flatMap secText) partF q A5 q.length c5 rfl (by have := hqs.1; omega) hqs.2 hT wo (s5.more (by have := HS.out; omega)) (by have := HS.out; have := B4.out.size; omega) BF4.out)
        unfold partF PrintsSec at SP
        obtain ⟨r, hr⟩ : ∃ r, secRes partF q = r := ⟨_, rfl⟩
        rw [show secRes (⟨#[110, 97, 109, 101]⟩ : ByteArray) q = r from hr] at SP
        have HR5 := Lib.hid hr
        clear hr hq hu h5 s5 hT
        by_cases hr0 : r = 0
        · subst hr0
          go_wp2_with (go_at_call 28; refine (SP.out).mono ?_; rintro e w5 ⟨rfl, b5, t5, l5, g5⟩; have H5 := Lib.hid (And.intro b5 (And.intro l5 g5)); clear b5 l5 g5)
          obtain ⟨b5, l5, g5⟩ := H5.out
          obtain rfl := g5 trivial
          go_roundg (m - (k + 1))
          case measure => omega
          case rel =>
            refine ⟨k + 1, by omega, rfl, by go_num, ?_, B4.out.trans b5, partsErr_next ps k hkl HE.out (by rw [HQ.out]; exact HR5.out)⟩
            rw [take_next ps k hkl, List.flatMap_append, HQ.out]
            simpa [List.append_assoc] using l5
        · have hr1 : (r != 0) = true := by rw [bne_iff_ne]; exact hr0
          have HR0 := Lib.hid hr0
          clear hr0
          go_wp2_with (go_at_call 28; refine (SP.out).mono ?_; rintro e w5 ⟨rfl, b5, t5, l5, g5⟩; have H5 := Lib.hid (And.intro b5 (And.intro l5 g5)); clear b5 l5 g5)
          go_ret2
          obtain ⟨b5, l5, g5⟩ := H5.out
          have hres : manErr main ps = r := by rw [HME.out, partsErr_take ps k hkl HE.out, HQ.out, HR5.out, if_neg HR0.out]
          exact ⟨BW.out.trans (b5.mono (by have := HS.out; omega)), _, by rw [hres]; rfl, fun _ => rfl, fun h => absurd (hres.symm.trans h) HR0.out⟩
      · obtain rfl : k = m := by omega
        have htk : ps.take k = ps := List.take_of_length_le (by omega)
        rw [htk] at HE BF4
        have YB := Lib.hid (Tryd.Buffer_Bytes w1.heap.size w1.heap.size _ wo BF4.out)
        go_wp2_with (go_at_call 29; refine (YB.out).mono ?_; rintro e w6 ⟨v6, rfl, o6, n6, rfl⟩)
        go_ret2
        have hres : manErr main ps = 0 := by rw [HME.out]; exact HE.out
        refine ⟨BW.out.trans ⟨rfl, rfl, rfl, Nat.le_refl _, fun _ _ => rfl⟩, _, by rw [hres]; rfl, fun h => absurd hres h, fun _ => ?_⟩
        have := own_base o6 (base' := w.heap.size) (by have := HS.out; omega)
        rw [Lib.byteCells_length] at this
        exact this
  · have hr1 : (r != 0) = true := by rw [bne_iff_ne]; exact hr0
    have HR0 := Lib.hid hr0
    clear hr0
    go_wp2_with (go_at_call 28; refine (SM.out).mono ?_; rintro e w3 ⟨rfl, b3, t3, l3, g3⟩; have H5 := Lib.hid b3; clear b3 l3 g3)
    go_ret2
    have hres : manErr main ps = r := by rw [manErr, HRR.out, if_neg HR0.out]
    exact ⟨B2.out.trans (H5.out.mono (by have := HS.out; omega)), _, by rw [hres]; rfl, fun _ => rfl, fun h => absurd (hres.symm.trans h) HR0.out⟩
end Go.Proofs.YteadhiehhpafjaaDoor
