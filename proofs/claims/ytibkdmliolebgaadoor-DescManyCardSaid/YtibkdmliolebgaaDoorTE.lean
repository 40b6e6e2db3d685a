/-
  The program's isPart, Member, Method; mathematics of names cut at each "/". Conditions: texts of at most a hundred thousand bytes.
-/
import Derived.Test.YtibkdmliolebgaaDoorTC
import Derived.Test.YtibkdmliolebgaaDoorTD
namespace Go.Proofs.YtibkdmliolebgaaDoor
open Go Go.RowKit
set_option maxRecDepth 100000

def partM (l : List UInt8) : Bool := !decide (l = []) && woM l [46, 59, 91, 47]
set_option maxHeartbeats 4000000 in
theorem part_any (l : List UInt8) (hs : l.length < 4294967281) (w : World) : Calls Tryd.prog 25 #[.string (tx l)] w (Gives w (.bool (partM l))) := by
  have C := Lib.hid (fun W => cany_any [46, 59, 91, 47] (by decide) 4 rfl (by decide) (by decide) l hs W)
  have he := tl_empty l
  unfold partM
  obtain ⟨r2, h2⟩ : ∃ r, woM l [46, 59, 91, 47] = r := ⟨_, rfl⟩
  obtain ⟨r3, h3⟩ : ∃ r, decide (l = []) = r := ⟨_, rfl⟩
  rw [h2] at C ⊢
  rw [h3] at he ⊢
  clear h2 h3
  rw [show tx [46, 59, 91, 47] = ⟨#[46, 59, 91, 47]⟩ from rfl] at C
  generalize tx l = s at *
  cases r3 with
  | true =>
    go_enter Tryd.func25, Tryd.ntmps25
    go_wp2_with fail
    go_ret
    exact ⟨rfl, Below.refl _ _⟩
  | false =>
    go_enter Tryd.func25, Tryd.ntmps25
    go_wp2_with (go_at_call 29; refine (C.out _).mono ?_; rintro e w1 ⟨rfl, b1⟩)
    go_ret
    exact ⟨by simp, b1⟩

theorem memberM_eq (l : List UInt8) : memberM l = (partM l && rightM l) := by
  unfold memberM partM
  cases decide (l = []) <;> cases rightM l <;> cases woM l [46, 59, 91, 47] <;> rfl

set_option maxHeartbeats 4000000 in
theorem pmember_any (l : List UInt8) (hs : l.length ≤ 100000) (w : World) : Calls Tryd.prog 7 #[.string (tx l)] w (Gives w (.bool (memberM l))) := by
  have C1 := Lib.hid (fun W => part_any l (by omega) W)
  have C2 := Lib.hid (fun W => pright_any l l.length rfl hs W)
  rw [memberM_eq]
  unfold rightM
  obtain ⟨r1, h1⟩ : ∃ r, partM l = r := ⟨_, rfl⟩
  obtain ⟨r2, h2⟩ : ∃ r, (unitsM l).isSome = r := ⟨_, rfl⟩
  rw [h1] at C1 ⊢
  rw [h2] at C2 ⊢
  clear h1 h2
  generalize tx l = s at *
  cases r1 with
  | false =>
    go_enter Tryd.func7, Tryd.ntmps7
    go_wp2_with (go_at_call 25; refine (C1.out _).mono ?_; rintro e w1 ⟨rfl, b1⟩)
    go_ret
    exact ⟨rfl, b1⟩
  | true =>
    go_enter Tryd.func7, Tryd.ntmps7
    go_wp2_with (first | (go_at_call 25; refine (C1.out _).mono ?_; rintro e w1 ⟨rfl, b1⟩) | (go_at_call 26; refine (C2.out _).mono ?_; rintro e w2 ⟨rfl, rfl⟩))
    go_ret
    exact ⟨by simp, b1⟩

set_option maxHeartbeats 4000000 in
theorem pmethod_any (l : List UInt8) (hs : l.length ≤ 100000) (w : World) : Calls Tryd.prog 9 #[.string (tx l)] w (Gives w (.bool (methodM l))) := by
  have C1 := Lib.hid (fun W => pmember_any l hs W)
  have C2 := Lib.hid (fun W => cany_any [60, 62] (by decide) 2 rfl (by decide) (by decide) l (by omega) W)
  have g1 := tl_lit l [60, 105, 110, 105, 116, 62]
  have g2 := tl_lit l [60, 99, 108, 105, 110, 105, 116, 62]
  unfold methodM
  obtain ⟨r1, h1⟩ : ∃ r, memberM l = r := ⟨_, rfl⟩
  obtain ⟨r2, h2⟩ : ∃ r, woM l [60, 62] = r := ⟨_, rfl⟩
  obtain ⟨r3, h3⟩ : ∃ r, decide (l = [60, 105, 110, 105, 116, 62]) = r := ⟨_, rfl⟩
  obtain ⟨r4, h4⟩ : ∃ r, decide (l = [60, 99, 108, 105, 110, 105, 116, 62]) = r := ⟨_, rfl⟩
  rw [h1] at C1 ⊢
  rw [h2] at C2 ⊢
  rw [h3] at g1 ⊢
  rw [h4] at g2 ⊢
  clear h1 h2 h3 h4
  rw [show tx [60, 62] = ⟨#[60, 62]⟩ from rfl] at C2
  generalize tx l = s at *
  cases r3 with
  | true =>
    go_enter Tryd.func9, Tryd.ntmps9
    go_wp2_with fail
    go_ret
    exact ⟨rfl, Below.refl _ _⟩
  | false =>
  cases r4 with
  | true =>
    go_enter Tryd.func9, Tryd.ntmps9
    go_wp2_with fail
    go_ret
    exact ⟨rfl, Below.refl _ _⟩
  | false =>
    cases r1 with
    | false =>
      go_enter Tryd.func9, Tryd.ntmps9
      go_wp2_with (go_at_call 7; refine (C1.out _).mono ?_; rintro e w1 ⟨rfl, b1⟩)
      go_ret
      exact ⟨rfl, b1⟩
    | true =>
      go_enter Tryd.func9, Tryd.ntmps9
      go_wp2_with (first | (go_at_call 7; refine (C1.out _).mono ?_; rintro e w1 ⟨rfl, b1⟩) | (go_at_call 29; refine (C2.out _).mono ?_; rintro e w2 ⟨rfl, b2⟩))
      go_ret
      exact ⟨by simp, b1.trans (b2.mono b1.size)⟩

/-- No part is empty; p: a part begins here. -/
def sl2 : Bool → List UInt8 → Bool
  | p, [] => !p
  | p, b :: t => !(p && b == 47) && sl2 (b == 47) t
theorem sl2_range : ∀ (l : List UInt8) (p : Bool), ((List.range (l.length + 1)).all fun d => !((if d = 0 then p else l.getD (d - 1) 0 == 47) && endB l d)) = sl2 p l
  | [], p => by simp [sl2, endB]
  | b :: t, p => by
    rw [List.length_cons, List.range_succ_eq_map, List.all_cons, List.all_map, sl2, ← sl2_range t (b == 47)]
    congr 1
    apply List.all_congr rfl
    intro d
    cases d with
    | zero => cases t <;> simp [endB]
    | succ d => simp [endB]
theorem slM_eq (l : List UInt8) : slM l = sl2 true l := by
  rw [← sl2_range l true, slM]
  apply List.all_congr rfl
  intro d
  cases d with
  | zero => simp [begB]
  | succ d => simp [begB]
theorem splS_ne (c : UInt8) (l : List UInt8) : ∃ x xs, splS c l = x :: xs := by
  cases l with
  | nil => exact ⟨_, _, rfl⟩
  | cons b t =>
    unfold splS
    split
    · exact ⟨_, _, rfl⟩
    · split <;> exact ⟨_, _, rfl⟩
theorem has47 {b : UInt8} (h : ¬ b = 47) : [46, 59, 91, 47].contains b = ([46, 59, 91] : List UInt8).contains b := by
  simp [h]
theorem woM_cons (b : UInt8) (t C : List UInt8) : woM (b :: t) C = (!C.contains b && woM t C) := rfl
theorem parts_eq : ∀ (l : List UInt8), (splS 47 l).all partM = (woM l [46, 59, 91] && sl2 true l) ∧ ∀ x xs, splS 47 l = x :: xs → (woM x [46, 59, 91, 47] && xs.all partM) = (woM l [46, 59, 91] && sl2 false l)
  | [] => ⟨rfl, fun x xs h => by simp [splS] at h; obtain ⟨rfl, rfl⟩ := h; rfl⟩
  | b :: t => by
    obtain ⟨i1, i2⟩ := parts_eq t
    by_cases hb : b = 47
    · have e : splS 47 (b :: t) = [] :: splS 47 t := by simp [splS, hb]
      have hw : woM (b :: t) [46, 59, 91] = woM t [46, 59, 91] := by rw [woM_cons, hb]; rfl
      have hbb : (b == (47 : UInt8)) = true := by rw [hb]; rfl
      refine ⟨?_, ?_⟩
      · rw [e, hw, sl2, hbb]; simp [partM]
      · intro x xs h
        rw [e] at h
        injection h with h1 h2
        subst h1 h2
        rw [i1, hw, sl2, hbb]
        simp [woM]
    · obtain ⟨x, xs, hx⟩ := splS_ne 47 t
      have e : splS 47 (b :: t) = (b :: x) :: xs := by simp [splS, hb, hx]
      have i3 := i2 x xs hx
      have hbb : (b == (47 : UInt8)) = false := by rw [beq_eq_false_iff_ne]; exact hb
      have hp : partM (b :: x) = (!([46, 59, 91] : List UInt8).contains b && woM x [46, 59, 91, 47]) := by
        rw [partM, woM_cons, has47 hb]; simp
      refine ⟨?_, ?_⟩
      · rw [e, List.all_cons, hp, Bool.and_assoc, i3, woM_cons, sl2, hbb]; simp [Bool.and_assoc]
      · intro y ys h
        rw [e] at h
        injection h with h1 h2
        subst h1 h2
        rw [woM_cons, has47 hb, Bool.and_assoc, i3, woM_cons, sl2, hbb]; simp [Bool.and_assoc]
theorem classM_eq (l : List UInt8) : classM l = ((splS 47 l).all partM && rightM l) := by
  rw [(parts_eq l).1, classM, slM_eq]
  cases rightM l <;> simp
theorem splS_len (c : UInt8) : ∀ (l : List UInt8), ∀ x ∈ splS c l, x.length ≤ l.length
  | [], x, h => by simp [splS] at h; simp [h]
  | b :: l, x, h => by
    have ih := splS_len c l
    unfold splS at h
    split at h
    · rcases List.mem_cons.1 h with rfl | h
      · simp
      · have := ih x h; simp; omega
    · split at h
      · simp at h; simp [h]
      · rename_i y ys hy
        rcases List.mem_cons.1 h with rfl | h
        · have := ih y (by rw [hy]; simp); simp; omega
        · have := ih x (by rw [hy]; simp [h]); simp; omega
end Go.Proofs.YtibkdmliolebgaaDoor
