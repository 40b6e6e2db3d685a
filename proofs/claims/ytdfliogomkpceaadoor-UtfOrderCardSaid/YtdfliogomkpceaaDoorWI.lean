/-
  The program's Decode. Conditions: a row of at most a hundred thousand bytes.
-/
import Derived.Test.YtdfliogomkpceaaDoorWH
import Derived.Test.YtdfliogomkpceaaDoorWD
import Derived.Test.YtdfliogomkpceaaDoorS
namespace Go.Proofs.YtdfliogomkpceaaDoor
open Go Go.RowKit
set_option maxRecDepth 100000

/-- A slice from some place on. -/
theorem Seen.from {w : World} {B : Nat} {A : Option Addr} {len c q : Nat} {xs : List Value} (h : Seen w B 1 A len c xs) (hq : q ≤ len) : Seen w B 1 (if c = q then A else A.map (·.add q)) (len - q) (c - q) (xs.drop q) := by
  obtain ⟨h1, h2, h3⟩ := h
  refine ⟨by simp; omega, by omega, ?_⟩
  rcases h3 with ⟨rfl, rfl⟩ | ⟨⟨b, o, s⟩, rfl, h3⟩
  · exact .inl ⟨by simp, by omega⟩
  · by_cases hc : c = q
    · rw [if_pos hc]
      refine .inr ⟨_, rfl, fun hx => ?_⟩
      exfalso; apply hx; apply List.drop_eq_nil_of_le; omega
    · rw [if_neg hc]
      refine .inr ⟨_, rfl, fun hx => ?_⟩
      obtain ⟨g1, g2, g3⟩ := h3 (by rintro rfl; simp at hx)
      simp only at g1 g2 g3
      subst g1
      simp only [Addr.add_lit]
      refine ⟨trivial, g2, fun j u hu => ?_⟩
      rw [Nat.add_assoc]
      rw [List.getElem?_drop] at hu
      exact g3 _ u hu
theorem elem23 : Tryd.prog.elem 23 = 27 := by kernel_rfl
theorem slice_from (A : Option Addr) (n c m : Nat) (h : m ≤ n) (w : World) : (Instr.slice 23 (.slice A n c) (some (.int .i64 (m : Int))) none none).run Tryd.prog w = .ok (.slice (if c = m then A else A.map (·.add m)) (n - m) (c - m)) w := by
  have h0 : (0 : Int) ≤ (m : Int) := by omega
  have h1 : (m : Int) ≤ (n : Int) := by omega
  have e : ((m : Int)).toNat = m := by omega
  have ht : Tryd.prog.underlying 23 = some (.slice (Tryd.prog.elem 23)) := by kernel_rfl
  rw [run_slice_l w 23 A n c ht .i64 _ h0 h1, e, elem23]
  rw [Tryd.sizeOf27]
  show Result.ok (sliced A m n c 1) w = _
  unfold sliced
  rw [Nat.mul_one]
theorem slice_from2 (A : Option Addr) (n c m : Nat) (h : m ≤ n) (w : World) : (Instr.sliceAt 23 (.slice A n c) (some (.int .i64 (m : Int))) none none).run Tryd.prog w = .ok (.slice (if c = m then A else A.map (·.add m)) (n - m) (c - m)) w := by
  have ht : Tryd.prog.underlying 23 = some (.slice (Tryd.prog.elem 23)) := by kernel_rfl
  rw [run_sliceAt_slice w 23 _ _ _ _ ht, slice_from A n c m h w]
theorem fs_some {u : List Nat} {v m : Nat} (hu : ∀ x ∈ u, x < 65536) (h : fsM u = (v, m)) (hm : m ≠ 0) (out : List UInt8) : okR v ∧ m ≤ u.length ∧ deM out u = deM (out ++ enc v) (u.drop m) := by
  match u, hu, h with
  | [], _, h => rw [fsM] at h; injection h with _ h2; exact absurd h2.symm hm
  | [c], hu, h =>
    have hc := hu c (by simp)
    rw [fsM] at h
    split at h
    · injection h with _ h2; exact absurd h2.symm hm
    · rename_i hn
      injection h with h1 h2; subst h1 h2
      refine ⟨⟨by omega, by omega⟩, by simp, ?_⟩
      show deM out [c] = deM (out ++ enc c) []
      rw [deM_cons (by omega)]
  | c :: d :: r, hu, h =>
    have hc := hu c (by simp)
    have hd := hu d (by simp)
    rw [fsM] at h
    split at h
    · split at h
      · injection h with h1 h2; subst h1 h2
        refine ⟨⟨by omega, by omega⟩, by simp, ?_⟩
        rw [deM, if_pos (by omega), if_neg (by omega)]; rfl
      · injection h with _ h2; exact absurd h2.symm hm
    · split at h
      · injection h with _ h2; exact absurd h2.symm hm
      · injection h with h1 h2; subst h1 h2
        refine ⟨⟨by omega, by omega⟩, by simp, ?_⟩
        rw [deM_cons (by omega)]; rfl
theorem enc_len (c : Nat) : (enc c).length ≤ 4 := by
  have e : (enc c).length = (Utf8.encode (c : Int)).size := by unfold enc; generalize Utf8.encode (c : Int) = b; rw [Array.length_toList]; rfl
  rw [e]; exact enc_size c
theorem two_zero {a b : Nat} {k : Nat} (h : (a, k + 1) = (b, 0)) : False := by
  have h2 := congrArg Prod.snd h
  simp at h2
theorem fs_none {u : List Nat} {v : Nat} (hu : ∀ x ∈ u, x < 65536) (h0 : u ≠ []) (h : fsM u = (v, 0)) (out : List UInt8) : deM out u = none := by
  match u, h0, hu, h with
  | [c], _, hu, h =>
    rw [fsM] at h
    split at h
    · rw [deM, if_pos (by omega)]
    · exact (two_zero h).elim
  | c :: d :: r, _, hu, h =>
    rw [fsM] at h
    split at h
    · split at h
      · exact (two_zero h).elim
      · rw [deM, if_pos (by omega), if_pos (by omega)]
    · split at h
      · rw [deM, if_pos (by omega), if_pos (by omega)]
      · exact (two_zero h).elim
theorem mem_drop {α : Type} {x : α} {l : List α} {k : Nat} (h : x ∈ l.drop k) : x ∈ l := List.mem_of_mem_drop h

set_option maxHeartbeats 8000000 in
theorem pDecode_any (l : List UInt8) (hs : l.length ≤ 100000) (w : World) : Calls Tryd.prog 12 #[.string (tx l)] w (GivesText w (decodeM l)) := by
  have CA := Lib.hid (fun W => pUnits_any l l.length rfl hs W)
  have hla : ∀ u, unitsM l = some u → u.length ≤ 100000 := fun u h => by have := units_len (l := l) l.length [] l (Nat.le_refl _) h; simp at this; omega
  have hA : ∀ u, unitsM l = some u → ∀ x ∈ u, x < 65536 := fun u h => units_lt l.length [] l (Nat.le_refl _) (fun x hx => by cases hx) h
  obtain ⟨ra, hra⟩ : ∃ r, unitsM l = r := ⟨_, rfl⟩
  obtain ⟨R, hR⟩ : ∃ r, decodeM l = r := ⟨_, rfl⟩
  rw [hR]
  rw [hra] at CA hla hA
  unfold decodeM at hR
  rw [hra] at hR
  have HLA := Lib.hid hla
  have HA := Lib.hid hA
  clear hA hra hs hla
  go_enter Tryd.func12, Tryd.ntmps12
  go_wp2_with fail
  refine (CA.out _).mono ?_
  rintro e w1 ⟨v1, rfl, b1, n1, s1⟩
  cases ra with
  | none =>
    obtain rfl := n1 rfl
    subst hR
    clear s1
    go_wp2_with fail
    go_ret2
    exact ⟨rfl, b1⟩
  | some u =>
    have o1 := s1 u rfl
    obtain ⟨A1, c1, rfl, _⟩ := own_form o1
    have hR2 : R = deM [] u := hR.symm
    have HR := Lib.hid hR2
    have hu2 := HA.out u rfl
    have hu1 := HLA.out u rfl
    obtain ⟨n, hn⟩ : ∃ n, u.length = n := ⟨_, rfl⟩
    rw [hn] at o1 hu1 ⊢
    have S1 := Lib.hid (Seen.of_own o1)
    have HU := Lib.hid hu2
    have HN := Lib.hid hn
    have B1 := Lib.hid b1
    clear s1 o1 n1 b1 hR hR2 hn HA HLA hu2
    go_wp2_with fail
    go_loopg [4] n (fun j v4 wr => ∃ (s : List Nat) (out : List UInt8) (A : Option Addr) (c : Nat), s.length = j ∧ v4 = .slice A j c ∧ Seen wr w1.heap.size 1 A j c (uv s) ∧ Lib.IsBuilderF 43 5 w1.heap.size w1.heap.size (Lib.byteCells out) wr ∧ Below w1.heap.size w1 wr ∧ R = deM out s ∧ out.length + 4 * j ≤ 400000 ∧ ∀ x ∈ s, x < 65536)
    case atStart =>
      exact ⟨u, [], A1, c1, HN.out, rfl, S1.out.below ((Below.refl _ _).alloc (Nat.le_refl _) _), Lib.IsBuilderF.of (Lib.fresh_isBuilder 43 5 w1), (Below.refl _ _).alloc (Nat.le_refl _) _, HR.out, by simp; omega, HU.out⟩
    case round =>
      obtain ⟨s, out, A, c, hj, rfl, hS, hI, hb, hD, hol, hx⟩ := hrel
      obtain ⟨wo, rfl⟩ : ∃ W, W = wr := ⟨_, rfl⟩
      have HS := Lib.hid hS
      have HI := Lib.hid hI
      have HB := Lib.hid hb
      have HD := Lib.hid hD
      have HX := Lib.hid hx
      have hcap : gk ≤ c := hS.2.1
      clear hS hI hb hD hx
      by_cases h0 : gk = 0
      · subst h0
        have hD2 : R = some out := by rw [HD.out, List.eq_nil_of_length_eq_zero hj, deM]
        have HD2 := Lib.hid hD2
        have CS := Lib.hid (Tryd.Builder_String_any_f w1.heap.size w1.heap.size out wo HI.out HB.out.size)
        clear hD2
        go_wp2_with fail
        refine CS.out.mono ?_
        rintro e w2 ⟨rfl, _, hb2⟩
        go_wp2_with fail
        go_ret2
        rw [HD2.out]
        exact ⟨rfl, B1.out.trans ((HB.out.trans hb2).mono B1.out.size)⟩
      have h0p : 0 < gk := by omega
      have CF := Lib.hid (fun W (h : Seen W w1.heap.size 1 A gk c (uv s)) => firstSign_any s HX.out A gk c w1.heap.size hj h0p W h)
      obtain ⟨fu, hfu⟩ : ∃ h, fsM s = h := ⟨_, rfl⟩
      rw [hfu] at CF
      obtain ⟨v, m⟩ := fu
      simp only at CF
      have HF := Lib.hid hfu
      have d0 : decide ((0 : Int) < (gk : Int)) = true := by rw [decide_eq_true_iff]; omega
      clear hfu h0
      go_wp2_with fail
      refine (CF.out _ HS.out).mono ?_
      rintro e w2 ⟨rfl, rfl⟩
      by_cases hm : m = 0
      · subst hm
        have hr : R = none := by rw [HD.out]; exact fs_none HX.out (by rintro rfl; simp at hj; omega) HF.out out
        have HR2 := Lib.hid hr
        clear hr
        go_wp2_with fail
        go_ret2
        rw [HR2.out]
        exact ⟨rfl, B1.out.trans (HB.out.mono B1.out.size)⟩
      obtain ⟨hok, hml, hde⟩ := fs_some HX.out HF.out hm out
      rw [hj] at hml
      have f0 : decide ((m : Int) = 0) = false := by rw [decide_eq_false_iff_not]; omega
      have f0b : ((m : Int) == 0) = false := by rw [beq_eq_false_iff_ne]; omega
      have hvb : v < 1114112 := hok.2
      have CW := Lib.hid (Tryd.Builder_WriteRune_k w1.heap.size w1.heap.size (Lib.byteCells out) (v : Int) (by omega) (by omega) wo HI.out (by rw [Lib.byteCells_length]; omega) HB.out.size)
      obtain ⟨RL, hRL⟩ : ∃ x : Int, ((Lib.runeCells (v : Int)).length : Int) = x := ⟨_, rfl⟩
      rw [hRL] at CW
      clear hRL
      have hsl := fun W => slice_from2 A gk c m hml W
      have hsl1 := fun W => slice_from A gk c m hml W
      have HS3 := Lib.hid (HS.out.from hml)
      obtain ⟨A3, hA3⟩ : ∃ x, (if c = m then A else A.map (·.add m)) = x := ⟨_, rfl⟩
      obtain ⟨c3, hc3⟩ : ∃ x, c - m = x := ⟨_, rfl⟩
      obtain ⟨n3, hn3⟩ : ∃ x, gk - m = x := ⟨_, rfl⟩
      rw [hA3, hc3, hn3] at HS3
      have HN3 := Lib.hid hn3
      simp only [hA3, hc3, hn3] at hsl hsl1
      clear hA3 hc3
      have HDE := Lib.hid (HD.out.trans hde)
      have HEN := Lib.hid (enc_rune hok)
      have HLE := Lib.hid (enc_len v)
      have hmz : (m : Int) ≤ (gk : Int) := by omega
      have HLO := Lib.hid (show (out ++ enc v).length + 4 * n3 ≤ 400000 by have := HLE.out; rw [List.length_append]; omega)
      clear hok hde hvb hol hn3
      go_wp2_with fail
      refine CW.out.mono ?_
      rintro e w3 ⟨rfl, hI3, hb3, -⟩
      have HI3 := Lib.hid hI3
      have HB3 := Lib.hid hb3
      clear hI3 hb3 CF HLE CA hcap
      go_wp2_with fail
      have hn3 := HN3.out
      go_roundg n3
      case measure => omega
      case rel =>
        refine ⟨s.drop m, out ++ enc v, A3, c3, by rw [List.length_drop, hj]; exact hn3, rfl, ?_, ?_, HB.out.trans HB3.out, HDE.out, HLO.out, fun x hx => HX.out x (mem_drop hx)⟩
        · have e : (uv s).drop m = uv (s.drop m) := by simp [uv, List.map_drop]
          rw [← e]; exact HS3.out.below HB3.out
        · rw [HEN.out, Lib.byteCells_append, Lib.byteCells_encodeRune]; exact Or.inr HI3.out
end Go.Proofs.YtdfliogomkpceaaDoor
