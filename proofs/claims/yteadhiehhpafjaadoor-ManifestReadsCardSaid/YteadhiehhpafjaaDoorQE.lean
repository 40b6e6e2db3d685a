/-
  Is a manifest few enough to be asked about. Conditions: no more sections and headers than memory holds.
-/
import Derived.Test.YteadhiehhpafjaaDoorQB
namespace Go.Proofs.YteadhiehhpafjaaDoor
open Go Go.RowKit
set_option maxRecDepth 100000

/-- Sections that stand in memory behind one another. -/
structure Sects (w w3 : World) (A5 : Option Addr) (c5 M : Nat) (ss : List Sec) (rs : List Value) : Prop where
  bel : Below w.heap.size w w3
  row : Seen w3 w3.heap.size 1 A5 M c5 rs
  secs : SecsSeen w3 w.heap.size rs ss
  len : ss.length = M
theorem Sects.at {w w3 wo : World} {A5 : Option Addr} {c5 M : Nat} {ss : List Sec} {rs : List Value} (h : Sects w w3 A5 c5 M ss rs) (hb : Below w3.heap.size w3 wo) {k : Nat} (hk : k < M) :
    ∃ (b5 o5 : Nat) (A7 : Option Addr) (c7 : Nat) (q : Sec) (L : Nat), A5 = some ⟨b5, o5, none⟩ ∧ b5 < wo.heap.size ∧ wo.cell? ⟨b5, o5 + k, none⟩ = some (.slice A7 L c7) ∧ q.length = L ∧ Seen wo wo.heap.size 2 A7 L c7 (pvs q) ∧ ∃ h : k < ss.length, ss[k] = q := by
  have hkl : k < ss.length := by rw [h.len]; exact hk
  obtain ⟨b5, o5, u5, rfl, hb5, hu5, hc5⟩ := (h.row.below hb).at hk
  obtain ⟨A7, c7, h7, s7⟩ := (h.secs.below (hb.mono h.bel.size)).2 k hkl
  obtain rfl : u5 = .slice A7 ss[k].length c7 := Option.some.inj (hu5.symm.trans h7)
  exact ⟨b5, o5, A7, c7, ss[k], ss[k].length, rfl, Nat.lt_of_lt_of_le hb5 hb.size, hc5, rfl, s7.more (Nat.le_trans h.bel.size hb.size), hkl, rfl⟩

theorem Sects.mk0 {w w1 w3 : World} {A A5 : Option Addr} {n c m c5 : Nat} {main : Sec} {ps : List Sec} {rows : List Value} (hb : Below w.heap.size w w1) {g : Nat} (hg0 : w.heap.size ≤ g) (ho : w3.ownsRow g 24 1 (.slice A5 (1 + m) c5) (1 + m) ([.slice A n c] ++ rows)) (hg : w1.grownBy w3 (Value.slice (some ⟨g, 0, none⟩) 1 1).ownBlock)
    (hn : main.length = n) (hm : ps.length = m) (hA : Seen w w.heap.size 2 A n c (pvs main)) (hR : SecsSeen w w.heap.size rows ps) : Sects w w3 A5 c5 (1 + m) (main :: ps) (.slice A n c :: rows) := by
  have hB : Below w.heap.size w w3 := hb.grown hg hb.size (fun k hk => Nat.le_trans hg0 (Nat.le_of_eq (by simpa [Value.ownBlock] using hk)))
  exact ⟨hB, Seen.of_own ho, secs_cons hn (hA.below hB) (hR.below hB), by rw [List.length_cons]; omega⟩
def fewP (p : ByteArray × ByteArray) : Prop := p.1.size ≤ 100 ∧ p.2.size ≤ 400
def fewS (s : Sec) : Prop := (∀ p ∈ s, fewP p) ∧ s.length ≤ 20
theorem fewP_take {s : Sec} {k : Nat} (hk : k < s.length) (h : ∀ p ∈ s.take k, fewP p) (hp : fewP s[k]) : ∀ p ∈ s.take (k + 1), fewP p := by
  rw [List.take_add_one, List.getElem?_eq_getElem hk]
  intro p hp2
  rcases List.mem_append.1 hp2 with h1 | h1
  · exact h p h1
  · simp at h1; rw [h1]; exact hp
theorem fewS_take {ss : List Sec} {k : Nat} (hk : k < ss.length) (h : ∀ p ∈ ss.take k, fewS p) (hp : fewS ss[k]) : ∀ p ∈ ss.take (k + 1), fewS p := by
  rw [List.take_add_one, List.getElem?_eq_getElem hk]
  intro p hp2
  rcases List.mem_append.1 hp2 with h1 | h1
  · exact h p h1
  · simp at h1; rw [h1]; exact hp
def Tells (w : World) (P : Prop) (e : Ending) (w' : World) : Prop := ∃ b, e = .returned (.bool b) ∧ Below w.heap.size w w' ∧ (b = true → P)

set_option maxHeartbeats 8000000 in
theorem few_any (B : Nat) (va : Value) (main : Sec) (ps : List Sec) (hmb : ∀ s ∈ main :: ps, s.length ≤ 10000000000000) (hp2 : ps.length ≤ 5864062014634) (w : World) (hV : ManSeen w B va main ps) (hB : B ≤ w.heap.size) :
    Calls Tryd.prog 11 #[va] w (Tells w ((∀ s ∈ main :: ps, fewS s) ∧ ps.length ≤ 10)) := by
  obtain ⟨A, c, A2, c2, rows, rfl, hA, hA2, hR⟩ := hV
  obtain ⟨n, hn⟩ : ∃ n, main.length = n := ⟨_, rfl⟩
  obtain ⟨m, hmm⟩ : ∃ m, ps.length = m := ⟨_, rfl⟩
  rw [hn] at hA
  rw [hmm] at hA2 hp2
  rw [hn, hmm]
  obtain ⟨i0, hi0, hz0, hz1, hz2⟩ := info_parts slice_info
  obtain ⟨w1, hw1⟩ : ∃ W, w.alloc (.cells #[.slice A n c, .slice A2 m c2] 27) = W := ⟨_, rfl⟩
  have B1 : Hid (Below w.heap.size w w1) := Lib.hid (hw1 ▸ (Below.refl w.heap.size w).alloc (Nat.le_refl _) _)
  have P1 : Hid (Whole w1 w.heap.size 27 #[.slice A n c, .slice A2 m c2]) := Lib.hid (hw1 ▸ Whole.new w 27 #[.slice A n c, .slice A2 m c2])
  have p10 := P1.out.cell 0
  have p11 := P1.out.cell 1
  have p21 : (w1.alloc (.cells #[.slice A n c] 24)).cell? ⟨w.heap.size, 1, none⟩ = some (.slice A2 m c2) := (P1.out.alloc (.cells #[.slice A n c] 24)).cell 1
  simp only [List.getElem?_toArray, List.getElem?_cons_zero, List.getElem?_cons_succ] at p10 p11
  have OW := Lib.hid (own_alone w1 w1.heap.size (Nat.le_refl _) (.slice A n c))
  have B2 : Hid (Below w.heap.size w (w1.alloc (.cells #[.slice A n c] 24))) := Lib.hid (B1.out.alloc B1.out.size _)
  have SA := Lib.hid (hA2.below (B2.out.mono hB))
  have HA := Lib.hid (hA.more hB)
  have HR := Lib.hid (hR.more2 hB)
  have o1 := rows_one hR
  have HL := Lib.hid hn
  have HMM := Lib.hid hmm
  clear hA hA2 hR hn hmm
  go_enter Tryd.func11, Tryd.ntmps11
  go_wp2_with (refine wpList_append_seen (w1.alloc (.cells #[.slice A n c] 24)) rfl (.tmp 9) (.tmp 11) 25 rfl w1.heap.size 24 i0 _ 1 24 Tryd.underlying25 hi0 hz0 hz1 hz2 rfl (by omega) (.slice (some ⟨w1.heap.size, 0, none⟩) 1 1) 1 [.slice A n c] rfl OW.out B A2 m c2 rows rfl SA.out o1 (by simp [maxLen]; omega) (by omega) (by simp) ?_; intro v w3 hown hg hat; obtain ⟨A5, c5, rfl, _⟩ := own_form hown; have SX := Lib.hid (Sects.mk0 B2.out B1.out.size hown hg HL.out HMM.out HA.out HR.out); have GR := Lib.hid hg; clear hown hg hat)
  have hlen : ∀ k, k < 1 + m → True := fun _ _ => trivial
  have SE := SX.out.bel
  have b3 := SE.size
  have BZ := Lib.hid SE
  clear SE hlen
  obtain ⟨ss, hss⟩ : ∃ ss, main :: ps = ss := ⟨_, rfl⟩
  rw [hss] at hmb SX
  have HMB := Lib.hid hmb
  have HSS := Lib.hid hss
  clear hmb hss p10 p11 p21 hB
  go_loopg [14] (1 + m) (fun j v wr => ∃ k : Nat, k ≤ 1 + m ∧ j = 1 + m - k ∧ v = .int .i64 k ∧ Below w3.heap.size w3 wr ∧ ∀ s ∈ ss.take k, fewS s)
  case atStart => exact ⟨0, by omega, rfl, rfl, Below.refl _ _, fun s hs => by simp at hs⟩
  case round =>
    obtain ⟨k, hk, rfl, rfl, hbl, hfs⟩ := hrel
    obtain ⟨wo, rfl⟩ : ∃ W, W = wr := ⟨_, rfl⟩
    have BL := Lib.hid hbl
    have HFS := Lib.hid hfs
    clear hbl hfs
    by_cases hlt : k < 1 + m
    · obtain ⟨b5, o5, A7, c7, q, L, rfl, hb5, hc5, hL, hS7, hkl, hq⟩ := SX.out.at BL.out hlt
      have hLb : L ≤ 10000000000000 := by rw [← hL, ← hq]; exact HMB.out _ (List.getElem_mem hkl)
      have S7 := Lib.hid hS7
      have HQ := Lib.hid hq
      have HLQ := Lib.hid hL
      clear hS7 hq hL
      have d0 : decide ((k : Int) < 1 + (m : Int)) = true := by rw [decide_eq_true_iff]; omega
      go_wp2_with fail
      go_loopg [20] L (fun j v wr => ∃ i : Nat, i ≤ L ∧ j = L - i ∧ v = .int .i64 i ∧ Below wo.heap.size wo wr ∧ ∀ p ∈ q.take i, fewP p)
      case atStart => exact ⟨0, by omega, rfl, rfl, Below.refl _ _, fun s hs => by simp at hs⟩
      case round =>
        obtain ⟨i, hi, rfl, rfl, hbi, hfp⟩ := hrel
        obtain ⟨wi, rfl⟩ : ∃ W, W = wr := ⟨_, rfl⟩
        have BI := Lib.hid hbi
        have HFP := Lib.hid hfp
        clear hbi hfp
        by_cases hil : i < L
        · have hil2 : i < q.length := by have := HLQ.out; omega
          obtain ⟨b7, o7, rfl, hb7, hc7, hd7⟩ := (S7.out.below BI.out).pr hil2 HLQ.out
          obtain ⟨qa, qb, hqq⟩ : ∃ x y, q[i] = (x, y) := ⟨_, _, rfl⟩
          rw [hqq] at hc7 hd7
          have RG := Lib.hid (range_two hc7 hd7)
          have ZW := Lib.hid (Whole.new wi 44 (pairA ⟨#[]⟩ ⟨#[]⟩))
          have P4 := ZW.out.setRow (pairA qa qb)
          obtain ⟨w4, hw4⟩ : ∃ W, (wi.alloc (.cells #[.string ⟨#[]⟩, .string ⟨#[]⟩] 44)).setRow wi.heap.size #[.string qa, .string qb] = W := ⟨_, rfl⟩
          have c40 : w4.cell? ⟨wi.heap.size, 0, none⟩ = some (.string qa) := hw4 ▸ P4.cell 0
          have c41 : w4.cell? ⟨wi.heap.size, 1, none⟩ = some (.string qb) := hw4 ▸ P4.cell 1
          have B4 : Hid (Below wi.heap.size wi w4) := Lib.hid (hw4 ▸ below_setRow ((Below.refl wi.heap.size wi).alloc (Nat.le_refl _) (.cells (pairA ⟨#[]⟩ ⟨#[]⟩) 44)) (pairA qa qb) (Nat.le_refl _))
          have HQQ := Lib.hid hqq
          obtain ⟨x, hx⟩ : ∃ x, qa.size = x := ⟨_, rfl⟩
          obtain ⟨y, hy⟩ : ∃ y, qb.size = y := ⟨_, rfl⟩
          clear hqq P4 hc7 hd7
          by_cases g1 : 100 < x
          · have d1 : decide ((100 : Int) < (x : Int)) = true := by rw [decide_eq_true_iff]; omega
            go_wp2_with (first | (refine wpList_load_mid rfl 44 (.tmp 22) rfl b7 (o7 + i * 2) rfl [.string qa, .string qb] _ RG.out Tryd.underlying44 rfl (pair_size qa qb) ?_) | (refine wpList_store_row rfl 44 (.tmp 6) (.tmp 23) rfl wi.heap.size #[.string qa, .string qb] rfl rfl 44 (pairA ⟨#[]⟩ ⟨#[]⟩) ZW.out (pair_size _ _) rfl (pair_one _ _) ?_; (try rw [hw4])))
            go_ret
            exact ⟨_, rfl, BZ.out.trans ((BL.out.trans ((BI.out.trans (B4.out.mono BI.out.size)).mono BL.out.size)).mono b3), fun h => by cases h⟩
          · have d1 : decide ((100 : Int) < (x : Int)) = false := by rw [decide_eq_false_iff_not]; omega
            by_cases g2 : 400 < y
            · have d2 : decide ((400 : Int) < (y : Int)) = true := by rw [decide_eq_true_iff]; omega
              go_wp2_with (first | (refine wpList_load_mid rfl 44 (.tmp 22) rfl b7 (o7 + i * 2) rfl [.string qa, .string qb] _ RG.out Tryd.underlying44 rfl (pair_size qa qb) ?_) | (refine wpList_store_row rfl 44 (.tmp 6) (.tmp 23) rfl wi.heap.size #[.string qa, .string qb] rfl rfl 44 (pairA ⟨#[]⟩ ⟨#[]⟩) ZW.out (pair_size _ _) rfl (pair_one _ _) ?_; (try rw [hw4])))
              go_ret
              exact ⟨_, rfl, BZ.out.trans ((BL.out.trans ((BI.out.trans (B4.out.mono BI.out.size)).mono BL.out.size)).mono b3), fun h => by cases h⟩
            · have d2 : decide ((400 : Int) < (y : Int)) = false := by rw [decide_eq_false_iff_not]; omega
              go_wp2_with (first | (refine wpList_load_mid rfl 44 (.tmp 22) rfl b7 (o7 + i * 2) rfl [.string qa, .string qb] _ RG.out Tryd.underlying44 rfl (pair_size qa qb) ?_) | (refine wpList_store_row rfl 44 (.tmp 6) (.tmp 23) rfl wi.heap.size #[.string qa, .string qb] rfl rfl 44 (pairA ⟨#[]⟩ ⟨#[]⟩) ZW.out (pair_size _ _) rfl (pair_one _ _) ?_; (try rw [hw4])))
              go_roundg (L - (i + 1))
              case measure => omega
              case rel => exact ⟨i + 1, by omega, rfl, by go_num, BI.out.trans (B4.out.mono BI.out.size), fewP_take hil2 HFP.out (by rw [HQQ.out]; exact ⟨by show qa.size ≤ 100; omega, by show qb.size ≤ 400; omega⟩)⟩
        · obtain rfl : i = L := by omega
          have hall : ∀ p ∈ q, fewP p := by have h := HFP.out; rw [List.take_of_length_le (by have := HLQ.out; omega)] at h; exact h
          have HALL := Lib.hid hall
          clear hall
          by_cases g3 : 20 < i
          · have d3 : decide ((20 : Int) < (i : Int)) = true := by rw [decide_eq_true_iff]; omega
            go_wp2_with fail
            go_ret
            exact ⟨_, rfl, BZ.out.trans ((BL.out.trans (BI.out.mono BL.out.size)).mono b3), fun h => by cases h⟩
          · have d3 : decide ((20 : Int) < (i : Int)) = false := by rw [decide_eq_false_iff_not]; omega
            go_wp2_with fail
            go_roundg (1 + m - (k + 1))
            case measure => omega
            case rel => exact ⟨k + 1, by omega, rfl, by go_num, BL.out.trans (BI.out.mono BL.out.size), fewS_take hkl HFS.out (by rw [HQ.out]; exact ⟨HALL.out, by have := HLQ.out; omega⟩)⟩
    · have hall : ∀ s ∈ ss, fewS s := by have h := HFS.out; rw [List.take_of_length_le (by have := SX.out.len; omega)] at h; exact h
      have q1 : wo.cell? ⟨w.heap.size, 1, none⟩ = some (.slice A2 m c2) := by
        have h1 := P1.out.alloc (.cells #[.slice A n c] 24)
        have hne : w.heap.size ≠ w1.heap.size := Nat.ne_of_lt P1.out.lt
        have h2 := h1.grown GR.out (fun e => hne (by simpa [Value.ownBlock] using e))
        exact (h2.bel BL.out).cell 1
      go_wp2_with fail
      go_ret
      exact ⟨_, rfl, BZ.out.trans (BL.out.mono b3), fun h => ⟨HSS.out ▸ hall, by have h2 : (m : Int) ≤ 10 := (by simpa using h); omega⟩⟩
end Go.Proofs.YteadhiehhpafjaaDoor
