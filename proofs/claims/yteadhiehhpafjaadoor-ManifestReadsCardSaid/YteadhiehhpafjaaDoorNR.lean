/-
  The program's Get. Conditions: at most a million headers.
-/
import Derived.Test.YteadhiehhpafjaaDoorNM
namespace Go.Proofs.YteadhiehhpafjaaDoor
open Go Go.RowKit
set_option maxRecDepth 100000

/-- Which header is meant. -/
def getM (N : ByteArray) (l : Sec) : Option (ByteArray × ByteArray) := l.find? fun p => smallM p.1 = N
/-- Its value. -/
def getV : Option (ByteArray × ByteArray) → ByteArray
  | some p => p.2
  | none => ⟨#[]⟩
/-- What is told of it. -/
def Gets (w : World) (r : Option (ByteArray × ByteArray)) (e : Ending) (w' : World) : Prop :=
  e = .returned (.tuple #[.string (getV r), .bool r.isSome]) ∧ Below w.heap.size w w'

set_option maxHeartbeats 8000000 in
theorem get_any (l : Sec) (name : ByteArray) (A : Option Addr) (n c B : Nat) (hn : l.length = n) (hn2 : n ≤ 1000000) (hl : ∀ p ∈ l, p.1.size ≤ 9223372036854775807) (hm : name.size ≤ 9223372036854775807) (w : World) (hA : Seen w B 2 A n c (pvs l)) (hB : B ≤ w.heap.size) :
    Calls Tryd.prog 19 #[.slice A n c, .string name] w (Gets w (getM (smallM name) l)) := by
  have HA := Lib.hid hA
  clear hA
  have SN := Lib.hid (fun W => psmall_any name name.size rfl (by omega) W)
  obtain ⟨N, hN⟩ : ∃ N, smallM name = N := ⟨_, rfl⟩
  rw [hN] at SN
  rw [hN]
  clear hN
  go_enter Tryd.func19, Tryd.ntmps19
  go_wp2_with (go_at_call 32; refine (SN.out _).mono ?_; rintro e w1 ⟨rfl, b1⟩)
  have B1 := Lib.hid b1
  clear b1
  go_loopg [13] n (fun j v wr => ∃ k : Nat, k ≤ n ∧ j = n - k ∧ v = .int .i64 k ∧ Below w.heap.size w wr ∧ ∀ i (h : i < l.length), i < k → smallM l[i].1 ≠ N)
  case atStart => exact ⟨0, by omega, rfl, rfl, B1.out, fun i h hi => by omega⟩
  case round =>
    obtain ⟨k, hk, rfl, rfl, hbl, hal⟩ := hrel
    obtain ⟨wo, rfl⟩ : ∃ W, W = wr := ⟨_, rfl⟩
    have BL := Lib.hid hbl
    clear hbl
    by_cases hlt : k < n
    · have hkl : k < l.length := by omega
      obtain ⟨bk, o, rfl, hbk, hc1, hc2⟩ := (HA.out.below (BL.out.mono hB)).pr hkl hn
      have hq := hl _ (List.getElem_mem hkl)
      obtain ⟨q, hqq⟩ : ∃ q, l[k] = q := ⟨_, rfl⟩
      rw [hqq] at hc1 hc2 hq
      obtain ⟨qa, qb⟩ := q
      simp only at hc1 hc2 hq
      have HQ := Lib.hid hqq
      have RG : Hid (wo.rangeAt bk (o + k * 2) (pairA qa qb).toList) := Lib.hid (by
        intro j v hj
        match j, hj with
        | 0, hj => rw [Nat.add_zero, hc1]; exact hj
        | 1, hj => rw [hc2]; exact hj)
      have ZW := Lib.hid (Whole.new wo 44 (pairA ⟨#[]⟩ ⟨#[]⟩))
      obtain ⟨w2, hw2⟩ : ∃ W, (wo.alloc (.cells #[.string ⟨#[]⟩, .string ⟨#[]⟩] 44)).setRow wo.heap.size (pairA qa qb) = W := ⟨_, rfl⟩
      have Q2 : Hid (Whole w2 wo.heap.size 44 (pairA qa qb)) := Lib.hid (hw2 ▸ ZW.out.setRow (pairA qa qb))
      have O2 : Hid (Only Nob wo w2) := Lib.hid (hw2 ▸ Only.of_below (below_setRow ((Below.refl wo.heap.size wo).alloc (Nat.le_refl _) (.cells (pairA ⟨#[]⟩ ⟨#[]⟩) 44)) (pairA qa qb) (Nat.le_refl _)) Nob)
      have B2 := Lib.hid (BL.out.trans (O2.out.nob_below.mono BL.out.size))
      have SQ := Lib.hid (fun W => psmall_any qa qa.size rfl (by omega) W)
      obtain ⟨T, hT⟩ : ∃ T, smallM qa = T := ⟨_, rfl⟩
      rw [hT] at SQ
      have HT := Lib.hid hT
      have pp0 : (pairA qa qb)[0]? = some (.string qa) := rfl
      have pp1 : (pairA qa qb)[1]? = some (.string qb) := rfl
      have c20 := Q2.out.cell 0
      rw [pp0] at c20
      have HAL := Lib.hid hal
      clear hqq hT hc1 hc2 hal
      by_cases hE : T = N
      · have hc : (T.toList == N.toList) = true := by rw [hE]; simp
        have hf : getM N l = some (qa, qb) := by
          unfold getM
          rw [List.find?_eq_some_iff_getElem]
          exact ⟨by simp only [HT.out, hE, decide_true], k, hkl, HQ.out, fun j hj => by simpa using HAL.out j (by omega) hj⟩
        have HF := Lib.hid hf
        clear hf hE
        go_wp2_with (first | (refine wpList_load_mid rfl 44 (.tmp 15) rfl bk (o + k * 2) rfl (pairA qa qb).toList _ RG.out Tryd.underlying44 rfl (pair_size _ _) ?_) | (refine wpList_store_row rfl 44 (.tmp 8) (.tmp 16) rfl wo.heap.size (pairA qa qb) rfl rfl 44 (pairA ⟨#[]⟩ ⟨#[]⟩) ZW.out (pair_size _ _) rfl (pair_one _ _) ?_) | (go_at_call 32; refine (SQ.out _).mono ?_; rintro e w3 ⟨rfl, b3⟩; have c31 := (Q2.out.bel b3).cell 1; rw [pp1] at c31; have B3 := Lib.hid (B2.out.trans (b3.mono B2.out.size)); clear b3))
        go_ret2
        rw [HF.out]
        exact ⟨rfl, B3.out⟩
      · have hc : (T.toList == N.toList) = false := by
          rw [beq_eq_false_iff_ne, ByteArray.toList_eq, ByteArray.toList_eq]
          intro e
          exact hE (ByteArray.ext (Array.toList_inj.1 e))
        have hnx : ∀ i (h : i < l.length), i < k + 1 → smallM l[i].1 ≠ N := fun i h hi => by
          by_cases hik : i < k
          · exact HAL.out i h hik
          · obtain rfl : i = k := by omega
            rw [HQ.out, HT.out]; exact hE
        have HNX := Lib.hid hnx
        clear hnx hE
        go_wp2_with (first | (refine wpList_load_mid rfl 44 (.tmp 15) rfl bk (o + k * 2) rfl (pairA qa qb).toList _ RG.out Tryd.underlying44 rfl (pair_size _ _) ?_) | (refine wpList_store_row rfl 44 (.tmp 8) (.tmp 16) rfl wo.heap.size (pairA qa qb) rfl rfl 44 (pairA ⟨#[]⟩ ⟨#[]⟩) ZW.out (pair_size _ _) rfl (pair_one _ _) ?_) | (go_at_call 32; refine (SQ.out _).mono ?_; rintro e w3 ⟨rfl, b3⟩; have B3 := Lib.hid (B2.out.trans (b3.mono B2.out.size)); clear b3))
        go_roundg (n - (k + 1))
        case measure => omega
        case rel => exact ⟨k + 1, by omega, rfl, by go_num, B3.out, HNX.out⟩
    · obtain rfl : k = n := by omega
      have hf : getM N l = none := by
        unfold getM
        rw [List.find?_eq_none]
        intro p hp
        obtain ⟨i, hi, rfl⟩ := List.getElem_of_mem hp
        simpa using hal i hi (by omega)
      go_wp2
      go_ret2
      rw [hf]
      exact ⟨rfl, BL.out⟩
end Go.Proofs.YteadhiehhpafjaaDoor
