/-
  The document's Rooms. Conditions: texts of at most ten thousand bytes.
-/
import Derived.Test.YtibkdmliolebgaaDoorVD
namespace Go.Proofs.YtibkdmliolebgaaDoor
open Go Go.RowKit
set_option maxRecDepth 100000

def roomsS (l : List (List UInt8)) : Int := l.foldl (fun s x => s + roomM x) 0
def roomsM (l : List UInt8) : Int × Bool := match paramsM l with
  | none => (0, false)
  | some (out, _) => if 255 < roomsS out then (0, false) else (roomsS out, true)
theorem roomM_le (x : List UInt8) : 0 ≤ roomM x ∧ roomM x ≤ 2 := by
  unfold roomM
  split
  · decide
  · split <;> decide
theorem roomsS_snoc (l : List (List UInt8)) (x : List UInt8) : roomsS (l ++ [x]) = roomsS l + roomM x := by simp [roomsS]
theorem roomsF_le : ∀ (l : List (List UInt8)) (s : Int), s ≤ l.foldl (fun s x => s + roomM x) s ∧ l.foldl (fun s x => s + roomM x) s ≤ s + 2 * l.length
  | [], s => by simp
  | x :: l, s => by
    have h1 := roomsF_le l (s + roomM x)
    have h2 := roomM_le x
    rw [List.foldl_cons, List.length_cons]
    omega
theorem roomsS_le (l : List (List UInt8)) : 0 ≤ roomsS l ∧ roomsS l ≤ 2 * l.length := by
  have h := roomsF_le l 0
  unfold roomsS
  omega
theorem parR_facts : ∀ (n : Nat) (out : List (List UInt8)) (r : List UInt8) (o2 : List (List UInt8)) (x : List UInt8), r.length ≤ n → (∀ s ∈ out, s.length ≤ 10000) → r.length ≤ 10000 → parR out r = some (o2, x) → o2.length ≤ out.length + r.length ∧ ∀ s ∈ o2, s.length ≤ 10000
  | n, out, [], o2, x, _, h1, _, h => by rw [parR] at h; cases h; exact ⟨by simp, h1⟩
  | 0, out, c :: r, o2, x, hn, _, _, _ => by simp at hn
  | n + 1, out, c :: r, o2, x, hn, h1, h2, h => by
    rw [parR] at h
    split at h
    · cases h; exact ⟨by simp, h1⟩
    · split at h
      · cases h
      · rename_i k hk
        obtain ⟨g1, g2⟩ := parR_facts n _ _ o2 x (by rw [List.length_drop]; simp at hn; omega) (fun s hs => by
          rcases List.mem_append.1 hs with hs | hs
          · exact h1 s hs
          · rw [List.mem_singleton.1 hs, List.length_take]; omega) (by rw [List.length_drop]; simp at h2; omega) h
        refine ⟨?_, g2⟩
        rw [List.length_append, List.length_drop] at g1
        simp at g1 ⊢; omega
theorem params_facts {l : List UInt8} (hs : l.length ≤ 10000) {out : List (List UInt8)} {x : List UInt8} (h : paramsM l = some (out, x)) : out.length ≤ 10000 ∧ ∀ s ∈ out, s.length ≤ 10000 := by
  unfold paramsM at h
  split at h
  · cases h
  split at h
  · cases h
  rename_i o r hp
  split at h
  · cases h
  · cases h
    obtain ⟨h1, h2⟩ := parR_facts _ [] _ _ _ (Nat.le_refl _) (fun s hs => by cases hs) (by rw [List.length_drop]; omega) hp
    rw [List.length_drop] at h1
    simp at h1
    exact ⟨by omega, h2⟩

set_option maxHeartbeats 8000000 in
theorem rooms_any (l : List UInt8) (hs : l.length ≤ 10000) (w : World) : Calls Tryd.prog 24 #[.string (tx l)] w (Gives w (.tuple #[.int .i64 (roomsM l).1, .bool (roomsM l).2])) := by
  have C1 := Lib.hid (fun W => params_any l hs W)
  obtain ⟨R, hR⟩ : ∃ r, roomsM l = r := ⟨_, rfl⟩
  rw [hR]
  unfold roomsM at hR
  have hf := fun out x h => params_facts (l := l) hs (out := out) (x := x) h
  obtain ⟨P, hP⟩ : ∃ r, paramsM l = r := ⟨_, rfl⟩
  rw [hP] at C1 hR hf
  clear hP
  unfold GivesPar at C1
  cases P with
  | none =>
    subst hR
    go_enter Tryd.func24, Tryd.ntmps24
    go_wp2_with (go_at_call 22; refine (C1.out _).mono ?_; rintro e w1 ⟨rfl, b1⟩)
    go_loopg [7, 18] 0 (fun j v v2 wr => j = 0 ∧ v = .int .i64 0 ∧ v2 = .int .i64 0 ∧ wr = w1)
    case atStart => exact ⟨rfl, rfl, rfl, rfl⟩
    case round =>
      obtain ⟨rfl, rfl, rfl, rfl⟩ := hrel
      go_wp2_with fail
      go_ret2
      exact ⟨rfl, b1⟩
  | some q =>
    obtain ⟨out, x⟩ := q
    obtain ⟨hol, hos⟩ := hf out x rfl
    simp only at C1 hR
    obtain ⟨n, hn⟩ : ∃ n, out.length = n := ⟨_, rfl⟩
    rw [hn] at C1 hol
    have HR := Lib.hid hR
    have HN := Lib.hid hn
    have HOS := Lib.hid hos
    clear hf hR hn hos
    go_enter Tryd.func24, Tryd.ntmps24
    go_wp2_with (go_at_call 22; refine (C1.out _).mono ?_; rintro e w1 ⟨v, rfl, b1, ho⟩; obtain ⟨A1, c1, rfl, _⟩ := own_form ho; have S1 := Lib.hid (Seen.of_own ho); have B1 := Lib.hid b1; clear b1 ho)
    go_loopg [7, 18] n (fun j v v2 wr => ∃ k : Nat, k ≤ n ∧ j = n - k ∧ v2 = .int .i64 k ∧ v = .int .i64 (roomsS (out.take k)) ∧ Below w1.heap.size w1 wr)
    case atStart => exact ⟨0, by omega, rfl, rfl, rfl, Below.refl _ _⟩
    case round =>
      obtain ⟨k, hk, rfl, rfl, rfl, hbl⟩ := hrel
      have HB := Lib.hid hbl
      clear hbl
      have hle := roomsS_le (out.take k)
      rw [List.length_take] at hle
      obtain ⟨z, hz⟩ : ∃ z, roomsS (out.take k) = z := ⟨_, rfl⟩
      rw [hz] at hle ⊢
      have hzb : 0 ≤ z ∧ z ≤ 20000 := by omega
      clear hle
      by_cases hlt : k < n
      · have hkl : k < out.length := by have := HN.out; omega
        have d0 : decide ((k : Int) < (n : Int)) = true := by rw [decide_eq_true_iff]; omega
        obtain ⟨b5, o5, u5, rfl, _, hu5, hc5⟩ := (S1.out.below HB.out).at hlt
        obtain rfl : u5 = .string (tx out[k]) := (Option.some.inj ((tv_at out k hkl).symm.trans hu5)).symm
        have hst : roomsS (out.take (k + 1)) = z + roomM out[k] := by rw [take_next out k hkl, roomsS_snoc, hz]
        have hsb := HOS.out _ (List.getElem_mem hkl)
        obtain ⟨s, hs5⟩ : ∃ s, out[k] = s := ⟨_, rfl⟩
        rw [hs5] at hc5 hst hsb
        have C2 := Lib.hid (fun W => room_any s (by omega) W)
        have hrb := roomM_le s
        obtain ⟨y, hy⟩ : ∃ y, roomM s = y := ⟨_, rfl⟩
        rw [hy] at C2 hst hrb
        have HST := Lib.hid hst
        have HZ := Lib.hid hz
        clear hu5 hs5 hy hst hz
        go_wp2_with (go_at_call 18; refine (C2.out _).mono ?_; rintro e w2 ⟨rfl, b2⟩)
        go_roundg (n - (k + 1))
        case measure => omega
        case rel => exact ⟨k + 1, by omega, rfl, by go_num, by rw [HST.out], HB.out.trans (b2.mono HB.out.size)⟩
      · obtain rfl : k = n := by omega
        have d0 : decide ((k : Int) < (k : Int)) = false := by rw [decide_eq_false_iff_not]; omega
        rw [List.take_of_length_le (by have := HN.out; omega)] at hz
        have HB2 := Lib.hid (B1.out.trans (HB.out.mono B1.out.size))
        by_cases h255 : 255 < z
        · have d1 : decide ((255 : Int) < z) = true := by rw [decide_eq_true_iff]; exact h255
          have hRR : R = (0, false) := by rw [← HR.out, hz, if_pos h255]
          subst hRR
          clear hz
          go_wp2_with fail
          go_ret2
          exact ⟨rfl, HB2.out⟩
        · have d1 : decide ((255 : Int) < z) = false := by rw [decide_eq_false_iff_not]; exact h255
          have hRR : R = (z, true) := by rw [← HR.out, hz, if_neg h255]
          subst hRR
          clear hz
          go_wp2_with fail
          go_ret2
          exact ⟨rfl, HB2.out⟩
end Go.Proofs.YtibkdmliolebgaaDoor
