/-
  Mathematics of a moment's text: what is written in digits, what its signs are, what they read as. Conditions: none. Nothing of the program stands here.
-/
import Derived.Test.YtdoclbgmbneggaaDoorL
import Derived.Lib.ItoaNum
namespace Go.Proofs.YtdoclbgmbneggaaDoor
open Go.RowKit

theorem tw_data (n : Nat) : (tw n).data.toList = [UInt8.ofNat (48 + n / 10), UInt8.ofNat (48 + n % 10)] := by
  unfold tw
  rw [strOfNums_data]
  rfl
theorem ba_ext {a b : ByteArray} (h : a.data.toList = b.data.toList) : a = b := by
  cases a; cases b
  simp only [ByteArray.mk.injEq] at h ⊢
  exact Array.toList_inj.1 h
theorem ap_data (a b : ByteArray) : (a ++ b).data.toList = a.data.toList ++ b.data.toList := by simp
/-- Two digits of a number below ten: a nought ahead. -/
theorem tw_one {n : Nat} (h : n < 10) : (⟨#[48]⟩ : ByteArray) ++ ⟨(Lib.decDigits n).toArray⟩ = tw n := by
  apply ba_ext
  rw [ap_data, tw_data, Lib.decDigits_one h, Nat.div_eq_of_lt h, Nat.mod_eq_of_lt h]
  rfl
theorem tw_two {n : Nat} (h : ¬ n < 10) (h2 : n < 100) : (⟨(Lib.decDigits n).toArray⟩ : ByteArray) = tw n := by
  apply ba_ext
  rw [tw_data, Lib.decDigits_two h h2]
theorem dec_size1 {n : Nat} (h : n < 10) : (⟨(Lib.decDigits n).toArray⟩ : ByteArray).size = 1 := by
  rw [Lib.decDigits_one h]; rfl
theorem dec_size2 {n : Nat} (h : ¬ n < 10) (h2 : n < 100) : (⟨(Lib.decDigits n).toArray⟩ : ByteArray).size = 2 := by
  rw [Lib.decDigits_two h h2]; rfl
theorem itoa_year {y : Nat} (h : 1000 ≤ y) (h2 : y < 10000) : (⟨(Lib.itoa y).toArray⟩ : ByteArray) = tw (y / 100) ++ tw (y % 100) := by
  apply ba_ext
  rw [ap_data, tw_data, tw_data]
  unfold Lib.itoa
  rw [if_neg (by omega), show ((y : Int)).toNat = y by omega]
  rw [Lib.decDigits, dif_neg (by omega), Lib.decDigits, dif_neg (by omega), Lib.decDigits_two (by omega) (by omega)]
  simp only [List.cons_append, List.nil_append]
  rw [show y / 10 / 10 = y / 100 by omega, show y / 10 % 10 = y % 100 / 10 by omega, show y % 10 = y % 100 % 10 by omega]
theorem year_size (a b : Nat) : (tw a ++ tw b).size = 4 := rfl

/-- The signs of a moment's text. -/
theorem pr_data (d c : Nat) : (pr d c).data.toList = [UInt8.ofNat (48 + yr d / 100 / 10), UInt8.ofNat (48 + yr d / 100 % 10), UInt8.ofNat (48 + yr d % 100 / 10), UInt8.ofNat (48 + yr d % 100 % 10), 45,
    UInt8.ofNat (48 + mo d / 10), UInt8.ofNat (48 + mo d % 10), 45, UInt8.ofNat (48 + da d / 10), UInt8.ofNat (48 + da d % 10), 32,
    UInt8.ofNat (48 + ho c / 10), UInt8.ofNat (48 + ho c % 10), 58, UInt8.ofNat (48 + mi c / 10), UInt8.ofNat (48 + mi c % 10), 58, UInt8.ofNat (48 + se c / 10), UInt8.ofNat (48 + se c % 10)] := by
  unfold pr
  simp only [ap_data, tw_data]
  rfl
theorem pr_size (d c : Nat) : (pr d c).size = 19 := by
  rw [show (pr d c).size = (pr d c).data.toList.length from rfl, pr_data]
  rfl
theorem u8n {n : Nat} (h : n < 256) : (UInt8.ofNat n).toNat = n := by
  rw [UInt8.toNat_ofNat']
  exact Nat.mod_eq_of_lt h
/-- The number that signs from a on tell. -/
def num2 (s : ByteArray) (a : Nat) : Int := 10 * ((by_ s a : Int) - 48) + (by_ s (a + 1) : Int) - 48
def num4 (s : ByteArray) : Int := 10 * (10 * (10 * ((by_ s 0 : Int) - 48) + (by_ s 1 : Int) - 48) + (by_ s 2 : Int) - 48) + (by_ s 3 : Int) - 48
theorem by_extract (s : ByteArray) (a b k : Nat) (h : a + k < b) (hb : b ≤ s.size) : by_ (s.extract a b) k = by_ s (a + k) := by
  unfold by_
  have e : (s.extract a b).data.toList.getD k 0 = s.data.toList.getD (a + k) 0 := by
    have h1 : b - a ≤ s.data.size - a := by have : s.size = s.data.size := rfl; omega
    rw [ByteArray.data_extract]
    simp only [List.getD_eq_getElem?_getD, Array.getElem?_toList]
    rw [Array.getElem?_extract]
    rw [if_pos (by have : s.size = s.data.size := rfl; omega)]
  rw [e]
theorem num2_eq (s : ByteArray) (a : Nat) (h : a + 2 ≤ s.size) : nuA (s.extract a (a + 2)) 2 = num2 s a := by
  show 10 * (10 * 0 + (by_ (s.extract a (a + 2)) 0 : Int) - 48) + (by_ (s.extract a (a + 2)) 1 : Int) - 48 = _
  rw [by_extract s a (a + 2) 0 (by omega) h, by_extract s a (a + 2) 1 (by omega) h]
  unfold num2
  simp
theorem num4_eq (s : ByteArray) (h : 4 ≤ s.size) : nuA (s.extract 0 4) 4 = num4 s := by
  show 10 * (10 * (10 * (10 * 0 + (by_ (s.extract 0 4) 0 : Int) - 48) + (by_ (s.extract 0 4) 1 : Int) - 48) + (by_ (s.extract 0 4) 2 : Int) - 48) + (by_ (s.extract 0 4) 3 : Int) - 48 = _
  rw [by_extract s 0 4 0 (by omega) h, by_extract s 0 4 1 (by omega) h, by_extract s 0 4 2 (by omega) h, by_extract s 0 4 3 (by omega) h]
  unfold num4
  simp
theorem by_pr (d c k : Nat) : by_ (pr d c) k = ((pr d c).data.toList.getD k 0).toNat := rfl
theorem year_lt {d : Nat} (hd : d < 65536) : 1980 ≤ yr d ∧ yr d < 2108 := by unfold yr; omega
/-- What is printed is read. -/
theorem pr_nums (d c : Nat) (hd : d < 65536) (hc : c < 65536) : num4 (pr d c) = yr d ∧ num2 (pr d c) 5 = mo d ∧ num2 (pr d c) 8 = da d ∧ num2 (pr d c) 11 = ho c ∧ num2 (pr d c) 14 = mi c ∧ num2 (pr d c) 17 = se c := by
  obtain ⟨y1, y2⟩ := year_lt hd
  have b1 : mo d < 100 := by unfold mo; omega
  have b2 : da d < 100 := by unfold da; omega
  have b3 : ho c < 100 := by unfold ho; omega
  have b4 : mi c < 100 := by unfold mi; omega
  have b5 : se c < 100 := by unfold se; omega
  unfold num4 num2
  simp only [by_pr, pr_data]
  generalize yr d = Y at *
  generalize mo d = M at *
  generalize da d = D at *
  generalize ho c = H at *
  generalize mi c = I at *
  generalize se c = S at *
  clear hd hc
  refine ⟨?_, ?_, ?_, ?_, ?_, ?_⟩
  · show 10 * (10 * (10 * (((UInt8.ofNat (48 + Y / 100 / 10)).toNat : Int) - 48) + ((UInt8.ofNat (48 + Y / 100 % 10)).toNat : Int) - 48) + ((UInt8.ofNat (48 + Y % 100 / 10)).toNat : Int) - 48) + ((UInt8.ofNat (48 + Y % 100 % 10)).toNat : Int) - 48 = _
    rw [u8n (by omega), u8n (by omega), u8n (by omega), u8n (by omega)]
    omega
  · show 10 * (((UInt8.ofNat (48 + M / 10)).toNat : Int) - 48) + ((UInt8.ofNat (48 + M % 10)).toNat : Int) - 48 = _
    rw [u8n (by omega), u8n (by omega)]
    omega
  · show 10 * (((UInt8.ofNat (48 + D / 10)).toNat : Int) - 48) + ((UInt8.ofNat (48 + D % 10)).toNat : Int) - 48 = _
    rw [u8n (by omega), u8n (by omega)]
    omega
  · show 10 * (((UInt8.ofNat (48 + H / 10)).toNat : Int) - 48) + ((UInt8.ofNat (48 + H % 10)).toNat : Int) - 48 = _
    rw [u8n (by omega), u8n (by omega)]
    omega
  · show 10 * (((UInt8.ofNat (48 + I / 10)).toNat : Int) - 48) + ((UInt8.ofNat (48 + I % 10)).toNat : Int) - 48 = _
    rw [u8n (by omega), u8n (by omega)]
    omega
  · show 10 * (((UInt8.ofNat (48 + S / 10)).toNat : Int) - 48) + ((UInt8.ofNat (48 + S % 10)).toNat : Int) - 48 = _
    rw [u8n (by omega), u8n (by omega)]
    omega

/-- A moment's numbers make that moment. -/
theorem jo_split (d c : Nat) (hd : d < 65536) (hc : c < 65536) (h : rightM d c = true) : jo (yr d) (mo d) (da d) (ho c) (mi c) (se c) = (d, c, 0) := by
  unfold rightM at h
  unfold jo
  rw [if_neg (by rw [h]; decide), if_neg (by unfold se; omega)]
  have y1 : yr d = 1980 + d / 512 := by unfold yr; rfl
  have y2 : mo d = d / 32 % 16 := by unfold mo; rfl
  have y3 : da d = d % 32 := by unfold da; rfl
  have y4 : ho c = c / 2048 := by unfold ho; rfl
  have y5 : mi c = c / 32 % 64 := by unfold mi; rfl
  have y6 : se c = c % 32 * 2 := by unfold se; rfl
  have e1 : ((yr d : Int) - 1980).toNat * 512 + (mo d : Int).toNat * 32 + (da d : Int).toNat = d := by
    clear h y4 y5 y6; omega
  have e2 : (ho c : Int).toNat * 2048 + (mi c : Int).toNat * 32 + (se c : Int).toNat / 2 = c := by
    clear h e1 y1 y2 y3; omega
  rw [e1, e2]
theorem jo_wrong (d c : Nat) (h : rightM d c = false) : jo (yr d) (mo d) (da d) (ho c) (mi c) (se c) = (0, 0, 5) := by
  unfold rightM at h
  unfold jo
  rw [if_pos h]
/-- Numbers that make a moment are that moment's. -/
theorem jo_ok {y m d h i s : Int} {a b : Nat} {e : Int} (hj : jo y m d h i s = (a, b, e)) (he : e = 0) : a < 65536 ∧ b < 65536 ∧ rightM a b = true := by
  unfold jo at hj
  split at hj
  · simp only [Prod.mk.injEq] at hj; omega
  · rename_i hm
    split at hj
    · simp only [Prod.mk.injEq] at hj; omega
    · rename_i hs
      have hmt : mayM y m d h i s = true := by simpa using hm
      obtain ⟨r1, r2, r3, r4, r5, r6⟩ := mayM_true hmt
      simp only [Prod.mk.injEq] at hj
      obtain ⟨ha, hb, -⟩ := hj
      have x1 : (yr a : Int) = y := by unfold yr; omega
      have x2 : (mo a : Int) = m := by unfold mo; omega
      have x3 : (da a : Int) = d := by unfold da; omega
      have x4 : (ho b : Int) = h := by unfold ho; omega
      have x5 : (mi b : Int) = i := by unfold mi; omega
      have x6 : (se b : Int) = s := by unfold se; omega
      refine ⟨by omega, by omega, ?_⟩
      unfold rightM
      rw [x1, x2, x3, x4, x5, x6]
      exact hmt
/-- What a text is read as. -/
def paJ (s : ByteArray) : Nat × Nat × Int := jo (num4 s) (num2 s 5) (num2 s 8) (num2 s 11) (num2 s 14) (num2 s 17)
def paM (s : ByteArray) : Nat × Nat × Int := if s.size ≠ 19 then (0, 0, 2) else if (paJ s).2.2 ≠ 0 then (0, 0, 2) else if pr (paJ s).1 (paJ s).2.1 ≠ s then (0, 0, 2) else paJ s
theorem paM_pr (d c : Nat) (hd : d < 65536) (hc : c < 65536) (h : rightM d c = true) : paM (pr d c) = (d, c, 0) := by
  have e : paJ (pr d c) = (d, c, 0) := by
    obtain ⟨h1, h2, h3, h4, h5, h6⟩ := pr_nums d c hd hc
    unfold paJ
    rw [h1, h2, h3, h4, h5, h6]
    exact jo_split d c hd hc h
  unfold paM
  rw [if_neg (by rw [pr_size]; omega), e, if_neg (by simp), if_neg (by simp)]
theorem paM_cases (s : ByteArray) : paM s = (0, 0, 2) ∧ (∀ a b, a < 65536 → b < 65536 → rightM a b = true → pr a b ≠ s) ∨ (∃ a b, paM s = (a, b, 0) ∧ a < 65536 ∧ b < 65536 ∧ rightM a b = true ∧ pr a b = s) := by
  by_cases h : paM s = (0, 0, 2)
  · left
    refine ⟨h, fun a b ha hb hr hs => ?_⟩
    rw [← hs, paM_pr a b ha hb hr] at h
    simp at h
  · right
    unfold paM at h ⊢
    split at h
    · exact absurd rfl h
    · rename_i h1
      split at h
      · exact absurd rfl h
      · rename_i h2
        split at h
        · exact absurd rfl h
        · rename_i h3
          obtain ⟨a, b, e, hj⟩ : ∃ a b e, paJ s = (a, b, e) := ⟨_, _, _, rfl⟩
          have he : e = 0 := by rw [hj] at h2; simpa using h2
          obtain ⟨x1, x2, x3⟩ := jo_ok (show jo _ _ _ _ _ _ = (a, b, e) from hj) he
          refine ⟨a, b, ?_, x1, x2, x3, ?_⟩
          · rw [if_neg h1, hj, if_neg (by simpa using he), if_neg (by rw [hj] at h3; exact h3), he]
          · rw [hj] at h3
            simpa using h3
end Go.Proofs.YtdoclbgmbneggaaDoor
