/-
  The document's Decode. Conditions: a row of at most a hundred thousand bytes.
-/
import Derived.Test.YtdfliogomkpceaaDoorUD
namespace Go.Proofs.YtdfliogomkpceaaDoor
open Go Go.RowKit
set_option maxRecDepth 100000

/-- A sign's bytes. -/
def enc (c : Nat) : List UInt8 := (Utf8.encode (c : Int)).data.toList
/-- What units tell, behind such a text. -/
def deM (out : List UInt8) : List Nat → Option (List UInt8)
  | [] => some out
  | [c] => if 55296 ≤ c ∧ c < 57344 then none else some (out ++ enc c)
  | c :: d :: r => if 55296 ≤ c ∧ c < 57344 then (if 56320 ≤ c ∨ d < 56320 ∨ 57344 ≤ d then none else deM (out ++ enc (65536 + (c - 55296) * 1024 + (d - 56320))) r) else deM (out ++ enc c) (d :: r)
def decodeM (s : List UInt8) : Option (List UInt8) := match unitsM s with
  | none => none
  | some u => deM [] u
theorem enc_size (c : Nat) : (Utf8.encode (c : Int)).size ≤ 4 := by
  unfold Utf8.encode
  simp only
  repeat' split
  all_goals simp [ByteArray.size]
theorem deM_plain {out : List UInt8} {u : List Nat} {i c : Nat} (hi : i < u.length) (hc : u[i] = c) (h : ¬ (55296 ≤ c ∧ c < 57344)) : deM out (u.drop i) = deM (out ++ enc c) (u.drop (i + 1)) := by
  rw [List.drop_eq_getElem_cons hi, hc]
  cases hr : u.drop (i + 1) with
  | nil => simp only [deM, if_neg h]
  | cons d r => simp only [deM, if_neg h]
theorem deM_bad {out : List UInt8} {u : List Nat} {i c : Nat} (hi : i < u.length) (hc : u[i] = c) (h : 55296 ≤ c ∧ c < 57344) (h2 : 56320 ≤ c ∨ u.length = i + 1 ∨ ∃ h : i + 1 < u.length, u[i + 1] < 56320 ∨ 57344 ≤ u[i + 1]) : deM out (u.drop i) = none := by
  rw [List.drop_eq_getElem_cons hi, hc]
  by_cases hl : i + 1 < u.length
  · rw [List.drop_eq_getElem_cons hl, deM, if_pos h, if_pos]
    rcases h2 with h2 | h2 | ⟨_, h2⟩
    · exact .inl h2
    · omega
    · exact .inr h2
  · rw [List.drop_eq_nil_of_le (by omega), deM, if_pos h]
theorem deM_two {out : List UInt8} {u : List Nat} {i c d : Nat} (hi : i + 1 < u.length) (hc : u[i] = c) (hd : u[i + 1] = d) (h : 55296 ≤ c ∧ c < 56320) (h2 : 56320 ≤ d ∧ d < 57344) : deM out (u.drop i) = deM (out ++ enc (65536 + (c - 55296) * 1024 + (d - 56320))) (u.drop (i + 2)) := by
  rw [List.drop_eq_getElem_cons (show i < u.length by omega), hc, List.drop_eq_getElem_cons hi, hd, deM, if_pos ⟨h.1, by omega⟩, if_neg (by omega)]
def GivesText (w : World) (r : Option (List UInt8)) (e : Ending) (w' : World) : Prop :=
  e = .returned (.tuple #[.string (tx (r.getD [])), .bool r.isSome]) ∧ Below w.heap.size w w'
theorem app_list (a b : ByteArray) : (a ++ b).data.toList = a.data.toList ++ b.data.toList := by simp
theorem tx_of {X : ByteArray} {l : List UInt8} (h : X.data.toList = l) : X = tx l := by
  subst h; unfold tx; simp

set_option maxHeartbeats 16000000 in
theorem decode_any (l : List UInt8) (hs : l.length ≤ 100000) (w : World) : Calls Tryd.prog 13 #[.string (tx l)] w (GivesText w (decodeM l)) := by
  have CA := Lib.hid (fun W => units_any l l.length rfl hs W)
  have hla : ∀ u, unitsM l = some u → u.length ≤ 100000 := fun u h => by have := units_len (l := l) l.length [] l (Nat.le_refl _) h; simp at this; omega
  have hA : ∀ u, unitsM l = some u → ∀ x ∈ u, x < 65536 := fun u h => units_lt l.length [] l (Nat.le_refl _) (fun x hx => by cases hx) h
  obtain ⟨ra, hra⟩ : ∃ r, unitsM l = r := ⟨_, rfl⟩
  obtain ⟨R, hR⟩ : ∃ r, decodeM l = r := ⟨_, rfl⟩
  rw [hR]
  rw [hra] at CA hla hA
  unfold decodeM at hR
  rw [hra] at hR
  have HA := Lib.hid hA
  clear hA hra hs
  go_enter Tryd.func13, Tryd.ntmps13
  go_wp2_with fail
  refine (CA.out _).mono ?_
  rintro e w1 ⟨v1, rfl, b1, n1, s1⟩
  cases ra with
  | none =>
    obtain rfl := n1 rfl
    subst hR
    clear s1
    go_wp2_with fail
    go_ret2
    exact ⟨rfl, b1⟩
  | some u =>
    have o1 := s1 u rfl
    obtain ⟨A1, c1, rfl, _⟩ := own_form o1
    have hR2 : deM [] u = R := hR
    have HR := Lib.hid hR2
    have hu1 := hla u rfl
    obtain ⟨n, hn⟩ : ∃ n, u.length = n := ⟨_, rfl⟩
    rw [hn] at o1 hu1 ⊢
    have S1 := Lib.hid (Seen.of_own o1)
    have HU := Lib.hid (HA.out u rfl)
    have HN := Lib.hid hn
    have B1 := Lib.hid b1
    clear s1 o1 n1 b1 hR hR2 hla hn HA
    go_wp2_with fail
    go_loopg [6, 7] n (fun j x v wr => ∃ (i : Nat) (X : ByteArray), i ≤ n ∧ j = n - i ∧ v = .int .i64 i ∧ x = .string X ∧ X.size ≤ 4 * i ∧ wr = w1 ∧ R = deM X.data.toList (u.drop i))
    case atStart => exact ⟨0, ⟨#[]⟩, by omega, rfl, rfl, rfl, Nat.le_refl _, rfl, HR.out.symm⟩
    case round =>
      obtain ⟨i, X, hi, rfl, rfl, rfl, hX, rfl, hd⟩ := hrel
      have HD := Lib.hid hd
      clear hd
      obtain ⟨z, hz⟩ : ∃ z, X.size = z := ⟨_, rfl⟩
      rw [hz] at hX
      by_cases hlt : i < n
      · have hil : i < u.length := by have := HN.out; omega
        have d0 : decide ((i : Int) < (n : Int)) = true := by rw [decide_eq_true_iff]; omega
        obtain ⟨b5, o5, u5, rfl, _, hu5, hc5⟩ := S1.out.at hlt
        obtain rfl : u5 = .int .u16 (u[i] : Nat) := (Option.some.inj ((uv_at u i hil).symm.trans hu5)).symm
        have hc6 := HU.out _ (List.getElem_mem hil)
        obtain ⟨c, hc⟩ : ∃ c, u[i] = c := ⟨_, rfl⟩
        rw [hc] at hc5 hc6
        have HC := Lib.hid hc
        have yc : 0 ≤ (c : Int) ∧ (c : Int) ≤ 10000000 := by omega
        have zc : ∀ z : Int, z = (c : Int) → wrap64 z = (c : Int) := fun z h => h ▸ w64 (c : Int) yc
        clear hu5 hc
        by_cases h1 : 55296 ≤ c
        rotate_left
        · skip
          have e1 : decide ((55296 : Int) ≤ (c : Int)) = false := by rw [decide_eq_false_iff_not]; omega
          have hst := deM_plain (out := X.data.toList) hil HC.out (by omega)
          have HST := Lib.hid hst
          obtain ⟨E, hE⟩ : ∃ E, Utf8.encode (c : Int) = E := ⟨_, rfl⟩
          have hes : E.size ≤ 4 := hE ▸ enc_size c
          obtain ⟨y, hy⟩ : ∃ y, E.size = y := ⟨_, rfl⟩
          rw [hy] at hes
          have hxe : (X ++ E).size = z + y := by rw [ByteArray.size_append, hz, hy]
          have HE := Lib.hid (show E.data.toList = enc c by rw [← hE]; rfl)
          have i32 : IntKind.i32.wrap (c : Int) = (c : Int) := IntWalk.i32_in _ (by omega)
          clear hst
          go_wp2_with fail
          go_roundg (n - (i + 1))
          case measure => omega
          case rel => exact ⟨i + 1, X ++ E, by omega, rfl, by go_num, rfl, by rw [hxe]; omega, rfl, by rw [HD.out, HST.out, app_list, HE.out]⟩
        by_cases h2 : c < 57344
        rotate_left
        · skip
          have e1 : decide ((55296 : Int) ≤ (c : Int)) = true := by rw [decide_eq_true_iff]; omega
          have e2 : decide ((c : Int) < 57344) = false := by rw [decide_eq_false_iff_not]; omega
          have hst := deM_plain (out := X.data.toList) hil HC.out (by omega)
          have HST := Lib.hid hst
          obtain ⟨E, hE⟩ : ∃ E, Utf8.encode (c : Int) = E := ⟨_, rfl⟩
          have hes : E.size ≤ 4 := hE ▸ enc_size c
          obtain ⟨y, hy⟩ : ∃ y, E.size = y := ⟨_, rfl⟩
          rw [hy] at hes
          have hxe : (X ++ E).size = z + y := by rw [ByteArray.size_append, hz, hy]
          have HE := Lib.hid (show E.data.toList = enc c by rw [← hE]; rfl)
          have i32 : IntKind.i32.wrap (c : Int) = (c : Int) := IntWalk.i32_in _ (by omega)
          clear hst
          go_wp2_with fail
          go_roundg (n - (i + 1))
          case measure => omega
          case rel => exact ⟨i + 1, X ++ E, by omega, rfl, by go_num, rfl, by rw [hxe]; omega, rfl, by rw [HD.out, HST.out, app_list, HE.out]⟩
        by_cases h3 : 56320 ≤ c
        · skip
          have e1 : decide ((55296 : Int) ≤ (c : Int)) = true := by rw [decide_eq_true_iff]; omega
          have e2 : decide ((c : Int) < 57344) = true := by rw [decide_eq_true_iff]; omega
          have e3 : decide ((56320 : Int) ≤ (c : Int)) = true := by rw [decide_eq_true_iff]; omega
          have hr : R = none := by rw [HD.out]; exact deM_bad hil HC.out (by omega) (.inl h3)
          have HRR := Lib.hid hr
          clear hr
          go_wp2_with fail
          go_ret2
          rw [HRR.out]
          exact ⟨rfl, B1.out⟩
        by_cases h4 : i + 1 = n
        · skip
          have e1 : decide ((55296 : Int) ≤ (c : Int)) = true := by rw [decide_eq_true_iff]; omega
          have e2 : decide ((c : Int) < 57344) = true := by rw [decide_eq_true_iff]; omega
          have e3 : decide ((56320 : Int) ≤ (c : Int)) = false := by rw [decide_eq_false_iff_not]; omega
          have e4 : ((i : Int) + 1 == (n : Int)) = true := by rw [beq_iff_eq]; omega
          have hr : R = none := by rw [HD.out]; exact deM_bad hil HC.out (by omega) (.inr (.inl (by have := HN.out; omega)))
          have HRR := Lib.hid hr
          clear hr
          go_wp2_with fail
          go_ret2
          rw [HRR.out]
          exact ⟨rfl, B1.out⟩
        have e4 : ((i : Int) + 1 == (n : Int)) = false := by rw [beq_eq_false_iff_ne]; omega
        have hjl : i + 1 < u.length := by have := HN.out; omega
        obtain ⟨b6, o6, u6, e6, _, hu6, hcd⟩ := S1.out.at (show i + 1 < n by omega)
        cases e6
        obtain rfl : u6 = .int .u16 (u[i + 1] : Nat) := (Option.some.inj ((uv_at u (i + 1) hjl).symm.trans hu6)).symm
        have hd6 := HU.out _ (List.getElem_mem hjl)
        obtain ⟨d, hd⟩ : ∃ d, u[i + 1] = d := ⟨_, rfl⟩
        rw [hd] at hcd hd6
        have HDD := Lib.hid hd
        have j1 : (0 : Int) ≤ (i : Int) + 1 := by omega
        have j2 : (i : Int) + 1 < (n : Int) := by omega
        clear hu6 hd
        by_cases h5 : d < 56320
        · skip
          have e1 : decide ((55296 : Int) ≤ (c : Int)) = true := by rw [decide_eq_true_iff]; omega
          have e2 : decide ((c : Int) < 57344) = true := by rw [decide_eq_true_iff]; omega
          have e3 : decide ((56320 : Int) ≤ (c : Int)) = false := by rw [decide_eq_false_iff_not]; omega
          have e5 : decide ((d : Int) < 56320) = true := by rw [decide_eq_true_iff]; omega
          have hr : R = none := by rw [HD.out]; exact deM_bad hil HC.out (by omega) (.inr (.inr ⟨hjl, .inl (by rw [HDD.out]; exact h5)⟩))
          have HRR := Lib.hid hr
          clear hr
          go_wp2_with fail
          go_ret2
          rw [HRR.out]
          exact ⟨rfl, B1.out⟩
        by_cases h6 : 57344 ≤ d
        · skip
          have e1 : decide ((55296 : Int) ≤ (c : Int)) = true := by rw [decide_eq_true_iff]; omega
          have e2 : decide ((c : Int) < 57344) = true := by rw [decide_eq_true_iff]; omega
          have e3 : decide ((56320 : Int) ≤ (c : Int)) = false := by rw [decide_eq_false_iff_not]; omega
          have e5 : decide ((d : Int) < 56320) = false := by rw [decide_eq_false_iff_not]; omega
          have e6 : decide ((57344 : Int) ≤ (d : Int)) = true := by rw [decide_eq_true_iff]; omega
          have hr : R = none := by rw [HD.out]; exact deM_bad hil HC.out (by omega) (.inr (.inr ⟨hjl, .inr (by rw [HDD.out]; exact h6)⟩))
          have HRR := Lib.hid hr
          clear hr
          go_wp2_with fail
          go_ret2
          rw [HRR.out]
          exact ⟨rfl, B1.out⟩
        have e1 : decide ((55296 : Int) ≤ (c : Int)) = true := by rw [decide_eq_true_iff]; omega
        have e2 : decide ((c : Int) < 57344) = true := by rw [decide_eq_true_iff]; omega
        have e3 : decide ((56320 : Int) ≤ (c : Int)) = false := by rw [decide_eq_false_iff_not]; omega
        have e5 : decide ((d : Int) < 56320) = false := by rw [decide_eq_false_iff_not]; omega
        have e6 : decide ((57344 : Int) ≤ (d : Int)) = false := by rw [decide_eq_false_iff_not]; omega
        have hst := deM_two (out := X.data.toList) hjl HC.out HDD.out (by omega) (by omega)
        obtain ⟨a, ha⟩ : ∃ a, c = 55296 + a := ⟨c - 55296, by omega⟩
        obtain ⟨V, hV⟩ : ∃ V, 65536 + (c - 55296) * 1024 + (d - 56320) = V := ⟨_, rfl⟩
        rw [hV] at hst
        have hVb : V ≤ 1200000 := by omega
        have HST := Lib.hid hst
        have k1 : (c : Int) - 55296 = (a : Int) := by omega
        have k2 : 65536 + (a : Int) * 1024 + (d : Int) - 56320 = (V : Int) := by omega
        have y1 : 0 ≤ (a : Int) ∧ (a : Int) ≤ 10000000 := by omega
        have y2 : 0 ≤ (a : Int) * 1024 ∧ (a : Int) * 1024 ≤ 10000000 := by omega
        have y3 : 0 ≤ 65536 + (a : Int) * 1024 ∧ 65536 + (a : Int) * 1024 ≤ 10000000 := by omega
        have y4 : 0 ≤ 65536 + (a : Int) * 1024 + (d : Int) ∧ 65536 + (a : Int) * 1024 + (d : Int) ≤ 10000000 := by omega
        have y5 : 0 ≤ (V : Int) ∧ (V : Int) ≤ 10000000 := by omega
        have y6 : 0 ≤ (d : Int) ∧ (d : Int) ≤ 10000000 := by omega
        obtain ⟨E, hE⟩ : ∃ E, Utf8.encode (V : Int) = E := ⟨_, rfl⟩
        have hes : E.size ≤ 4 := hE ▸ enc_size V
        obtain ⟨y, hy⟩ : ∃ y, E.size = y := ⟨_, rfl⟩
        rw [hy] at hes
        have hxe : (X ++ E).size = z + y := by rw [ByteArray.size_append, hz, hy]
        have HE := Lib.hid (show E.data.toList = enc V by rw [← hE]; rfl)
        have i32 : IntKind.i32.wrap (V : Int) = (V : Int) := IntWalk.i32_in _ (by omega)
        have z1 : ∀ z : Int, z = (a : Int) → wrap64 z = (a : Int) := fun z h => h ▸ w64 ((a : Int)) y1
        have z2 : ∀ z : Int, z = (a : Int) * 1024 → wrap64 z = (a : Int) * 1024 := fun z h => h ▸ w64 ((a : Int) * 1024) y2
        have z3 : ∀ z : Int, z = 65536 + (a : Int) * 1024 → wrap64 z = 65536 + (a : Int) * 1024 := fun z h => h ▸ w64 (65536 + (a : Int) * 1024) y3
        have z4 : ∀ z : Int, z = 65536 + (a : Int) * 1024 + (d : Int) → wrap64 z = 65536 + (a : Int) * 1024 + (d : Int) := fun z h => h ▸ w64 (65536 + (a : Int) * 1024 + (d : Int)) y4
        have z5 : ∀ z : Int, z = (V : Int) → wrap64 z = (V : Int) := fun z h => h ▸ w64 ((V : Int)) y5
        have z6 : ∀ z : Int, z = (d : Int) → wrap64 z = (d : Int) := fun z h => h ▸ w64 ((d : Int)) y6
        clear hst ha hV
        go_wp2_with fail
        go_roundg (n - (i + 2))
        case measure => omega
        case rel => exact ⟨i + 2, X ++ E, by omega, rfl, by go_num, rfl, by rw [hxe]; omega, rfl, by rw [HD.out, HST.out, app_list, HE.out]⟩
      · obtain rfl : i = n := by omega
        have d0 : decide ((i : Int) < (i : Int)) = false := by rw [decide_eq_false_iff_not]; omega
        have hr : R = some X.data.toList := by rw [HD.out, List.drop_eq_nil_of_le (by have := HN.out; omega), deM]
        have HRR := Lib.hid hr
        clear hr
        go_wp2_with fail
        go_ret2
        rw [HRR.out]
        exact ⟨by rw [Option.getD_some, tx_data]; rfl, B1.out⟩
end Go.Proofs.YtdfliogomkpceaaDoor
