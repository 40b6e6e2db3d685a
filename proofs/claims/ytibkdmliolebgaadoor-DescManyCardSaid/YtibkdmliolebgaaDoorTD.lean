/-
  The library's Index, Cut, CutPrefix of one sign, and what the iterator of SplitSeq hands out. Conditions: texts of less than four thousand million bytes.
-/
import Derived.Test.YtibkdmliolebgaaDoorRF
import Derived.Test.YtibkdmliolebgaaDoorTA
import Derived.Test.YtibkdmliolebgaaDoorS
import Derived.Shelf.Abstract
import Derived.Shelf.RegionOpen
import Derived.WalkKit
import Derived.OwnWalkIn
import Derived.LoopNIn
import Derived.LoopIn
import Derived.StillTailTactics
import Derived.RangeFuncCalls
namespace Go.Proofs.YtibkdmliolebgaaDoor
open Go Go.RowKit Go.Shelf
attribute [local go_sem] Oper.semAt_some
set_option maxRecDepth 100000

theorem idx1_any (l : List UInt8) (c : UInt8) (w : World) : Calls Tryd.prog 54 #[.string (tx l), .string (tx [c])] w fun e w' => e = .returned (.int .i64 (Lib.indexByte l c)) ∧ w' = w := by
  have C := Lib.hid (fun W => Any.stringslite_Index_one (P := Tryd.prog) { Tryd.lays143 with } (tx l) c W)
  have HL := Lib.hid (tx_list l)
  have e1 : tx [c] = ⟨#[c]⟩ := rfl
  rw [e1]
  generalize tx l = s at *
  generalize (⟨#[c]⟩ : ByteArray) = d at *
  go_enter Tryd.func54, Tryd.ntmps54
  go_wp2_with (go_at_call 63; refine (C.out _).mono ?_; rintro e w' ⟨rfl, hw⟩; rw [hw, HL.out])
  go_ret
  exact ⟨rfl, rfl⟩

/-- A text cut at a sign. -/
def cutM (l : List UInt8) (c : UInt8) : List UInt8 × List UInt8 × Bool := if Lib.indexByte l c = -1 then (l, [], false) else (l.take (Lib.indexByte l c).toNat, l.drop ((Lib.indexByte l c).toNat + 1), true)
theorem idx_room : ∀ (l : List UInt8) (c : UInt8), Lib.indexByte l c < l.length
  | [], _ => by simp [Lib.indexByte]
  | a :: l, c => by
    have h := idx_room l c
    have hg := Lib.indexByte_ge l c
    rw [show Lib.indexByte (a :: l) c = if a == c then 0 else if Lib.indexByte l c == -1 then -1 else Lib.indexByte l c + 1 from rfl]
    simp only [List.length_cons]
    split
    · omega
    · split <;> omega

set_option maxHeartbeats 4000000 in
theorem cutL_any (l : List UInt8) (c : UInt8) (n : Nat) (hn : l.length = n) (hs : n < 4294967281) (w : World) :
    Calls Tryd.prog 64 #[.string (tx l), .string (tx [c])] w fun e w' => e = .returned (.tuple #[.string (tx (cutM l c).1), .string (tx (cutM l c).2.1), .bool (cutM l c).2.2]) ∧ Below w.heap.size w w' := by
  have C := Lib.hid (fun W => Any.stringslite_Index_one (P := Tryd.prog) { Tryd.lays143 with } (tx l) c W)
  rw [tx_list] at C
  have hts : (tx l).size = n := by rw [tx_size, hn]
  have hd1 : (tx [c]).size = 1 := rfl
  have e1 : (⟨#[c]⟩ : ByteArray) = tx [c] := rfl
  rw [e1] at C
  obtain ⟨R, hR⟩ : ∃ r, cutM l c = r := ⟨_, rfl⟩
  rw [hR]
  unfold cutM at hR
  have hge := Lib.indexByte_ge l c
  have hlt := idx_room l c
  rw [hn] at hlt
  by_cases hm : Lib.indexByte l c = -1
  · rw [if_pos hm] at hR
    rw [hm] at C
    subst hR
    clear hge hlt hm hn
    have e2 : tx [] = ⟨#[]⟩ := rfl
    simp only [e2]
    generalize tx [c] = d at *
    generalize tx l = s at *
    go_enter Tryd.func64, Tryd.ntmps64
    go_wp2_with (go_at_call 63; refine (C.out _).mono ?_; rintro e w' ⟨rfl, rfl⟩)
    go_ret3
    exact ⟨rfl, Below.refl _ _⟩
  · rw [if_neg hm] at hR
    obtain ⟨i, hi⟩ : ∃ i : Nat, Lib.indexByte l c = i := ⟨(Lib.indexByte l c).toNat, by omega⟩
    rw [hi] at C hR hlt
    obtain ⟨p, hp⟩ : ∃ p, i + 1 = p := ⟨_, rfl⟩
    rw [show (i : Int).toNat = i from rfl, hp] at hR
    have q0 : (0 : Int) ≤ (i : Int) := by omega
    have q1 : (i : Int) ≤ (n : Int) := by omega
    have q2 : IntKind.i64.wrap ((i : Int) + 1) = (p : Int) := by rw [IntWalk.i64_in _ (by omega)]; omega
    have q3 : (0 : Int) ≤ (p : Int) := by omega
    have q4 : (p : Int) ≤ (n : Int) := by omega
    have q5 : decide ((0 : Int) ≤ (i : Int)) = true := by rw [decide_eq_true_iff]; omega
    have c1 := tx_cut l 0 i
    rw [List.drop_zero] at c1
    have c2 := tx_cut l p n
    rw [List.take_of_length_le (by omega)] at c2
    subst hR
    have HH := Lib.hid (And.intro hge (And.intro hi (And.intro hm hn)))
    clear hge hlt hm hn hi hp
    generalize tx [c] = d at *
    generalize tx (l.take i) = r1 at *
    generalize tx (l.drop p) = r2 at *
    generalize tx l = s at *
    go_enter Tryd.func64, Tryd.ntmps64
    go_wp2_with (go_at_call 63; refine (C.out _).mono ?_; rintro e w' ⟨rfl, rfl⟩)
    refine wp_region_still_lit (by kernel_rfl) (by kernel_rfl) ?_
    repeat still_step
    refine wpStill_nil ?_
    go_wp2_with fail
    go_ret3
    exact ⟨rfl, ⟨rfl, rfl, rfl, Nat.le_refl _, fun _ _ => rfl⟩⟩

theorem cut_any (l : List UInt8) (c : UInt8) (hs : l.length < 4294967281) (w : World) :
    Calls Tryd.prog 55 #[.string (tx l), .string (tx [c])] w fun e w' => e = .returned (.tuple #[.string (tx (cutM l c).1), .string (tx (cutM l c).2.1), .bool (cutM l c).2.2]) ∧ Below w.heap.size w w' := by
  have C := Lib.hid (fun W => cutL_any l c l.length rfl hs W)
  generalize tx (cutM l c).1 = r1 at *
  generalize tx (cutM l c).2.1 = r2 at *
  generalize (cutM l c).2.2 = r3 at *
  generalize tx [c] = d at *
  generalize tx l = s at *
  go_enter Tryd.func55, Tryd.ntmps55
  go_wp2_with (go_at_call 64; refine (C.out _).mono ?_; rintro e w' ⟨rfl, b1⟩)
  go_ret3
  exact ⟨rfl, b1⟩

/-- A text without its first sign, if that is c. -/
def preM (l : List UInt8) (c : UInt8) : List UInt8 × Bool := match l with
  | [] => ([], false)
  | a :: t => if a = c then (t, true) else (a :: t, false)

theorem preM_yes {a c : UInt8} (t : List UInt8) (h : a = c) : preM (a :: t) c = (t, true) := by simp [preM, h]
theorem preM_no {a c : UInt8} (t : List UInt8) (h : ¬ a = c) : preM (a :: t) c = (a :: t, false) := by simp [preM, h]

set_option maxHeartbeats 4000000 in
theorem hasP_any (l : List UInt8) (c : UInt8) (w : World) : Calls Tryd.prog 57 #[.string (tx l), .string (tx [c])] w (Rets w (.bool (preM l c).2)) := by
  have hd1 : (tx [c]).size = 1 := rfl
  cases l with
  | nil =>
    have hts : (tx []).size = 0 := rfl
    show Calls _ _ _ _ (Rets w (.bool false))
    generalize tx [c] = d at *
    generalize tx [] = s at *
    go_enter Tryd.func57, Tryd.ntmps57
    go_wp2_with fail
    go_ret
    exact ⟨rfl, rfl⟩
  | cons a t =>
    obtain ⟨n, hn⟩ : ∃ n, (a :: t).length = n := ⟨_, rfl⟩
    have hts : (tx (a :: t)).size = n := by rw [tx_size, hn]
    have hn1 : (1 : Int) ≤ (n : Int) := by rw [← hn]; simp; omega
    have hn2 : 1 ≤ n := by omega
    have c1 := tx_cut (a :: t) 0 1
    rw [List.drop_zero, List.take_succ_cons, List.take_zero] at c1
    have e1 : ((tx [a]).toList == (tx [c]).toList) = decide (a = c) := by rw [tl_eq]; simp
    have hr : (preM (a :: t) c).2 = decide (a = c) := by
      by_cases h : a = c
      · rw [preM_yes t h, decide_eq_true h]
      · rw [preM_no t h, decide_eq_false h]
    rw [hr]
    obtain ⟨b, hb⟩ : ∃ b, decide (a = c) = b := ⟨_, rfl⟩
    rw [hb] at e1 ⊢
    clear hr hb hn
    generalize tx [c] = d at *
    generalize tx [a] = d1 at *
    generalize tx (a :: t) = s at *
    go_enter Tryd.func57, Tryd.ntmps57
    go_wp2_with fail
    go_ret
    exact ⟨rfl, rfl⟩

set_option maxHeartbeats 4000000 in
theorem preL_any (l : List UInt8) (c : UInt8) (w : World) : Calls Tryd.prog 44 #[.string (tx l), .string (tx [c])] w (Rets w (.tuple #[.string (tx (preM l c).1), .bool (preM l c).2])) := by
  have C := Lib.hid (fun W => hasP_any l c W)
  have hd1 : (tx [c]).size = 1 := rfl
  cases l with
  | nil =>
    simp only [preM] at C ⊢
    generalize tx [c] = d at *
    generalize tx [] = s at *
    go_enter Tryd.func44, Tryd.ntmps44
    go_wp2_with (go_at_call 57; refine (C.out _).mono ?_; rintro e w' ⟨rfl, rfl⟩)
    go_ret2
    exact ⟨rfl, rfl⟩
  | cons a t =>
    obtain ⟨n, hn⟩ : ∃ n, (a :: t).length = n := ⟨_, rfl⟩
    have hts : (tx (a :: t)).size = n := by rw [tx_size, hn]
    have hn1 : (1 : Int) ≤ (n : Int) := by rw [← hn]; simp; omega
    have c1 := tx_cut (a :: t) 1 n
    rw [List.take_of_length_le (by omega), List.drop_succ_cons, List.drop_zero] at c1
    by_cases h : a = c
    · rw [preM_yes t h] at C ⊢
      clear h hn
      generalize tx [c] = d at *
      generalize tx t = r1 at *
      generalize tx (a :: t) = s at *
      go_enter Tryd.func44, Tryd.ntmps44
      go_wp2_with (go_at_call 57; refine (C.out _).mono ?_; rintro e w' ⟨rfl, rfl⟩)
      go_ret2
      exact ⟨rfl, rfl⟩
    · rw [preM_no t h] at C ⊢
      clear h hn
      generalize tx [c] = d at *
      generalize tx (a :: t) = s at *
      go_enter Tryd.func44, Tryd.ntmps44
      go_wp2_with (go_at_call 57; refine (C.out _).mono ?_; rintro e w' ⟨rfl, rfl⟩)
      go_ret2
      exact ⟨rfl, rfl⟩

theorem pre_any (l : List UInt8) (c : UInt8) (w : World) : Calls Tryd.prog 33 #[.string (tx l), .string (tx [c])] w (Rets w (.tuple #[.string (tx (preM l c).1), .bool (preM l c).2])) := by
  have C := Lib.hid (fun W => preL_any l c W)
  generalize tx (preM l c).1 = r1 at *
  generalize (preM l c).2 = r2 at *
  generalize tx [c] = d at *
  generalize tx l = s at *
  go_enter Tryd.func33, Tryd.ntmps33
  go_wp2_with (go_at_call 44; refine (C.out _).mono ?_; rintro e w' ⟨rfl, rfl⟩)
  go_ret2
  exact ⟨rfl, rfl⟩

/-- A text cut at each sign c. -/
def splS (c : UInt8) : List UInt8 → List (List UInt8)
  | [] => [[]]
  | b :: t => if b = c then [] :: splS c t else match splS c t with
    | [] => [[b]]
    | x :: xs => (b :: x) :: xs
theorem splS_hit (c : UInt8) : ∀ (l : List UInt8) (i : Nat), Lib.indexByte l c = i → splS c l = l.take i :: splS c (l.drop (i + 1))
  | [], i, h => by simp [Lib.indexByte] at h
  | b :: l, i, h => by
    rw [show Lib.indexByte (b :: l) c = if b == c then 0 else if Lib.indexByte l c == -1 then -1 else Lib.indexByte l c + 1 from rfl] at h
    by_cases hb : b = c
    · rw [if_pos (by simpa using hb)] at h
      obtain rfl : i = 0 := by omega
      simp [splS, hb]
    · rw [if_neg (by simpa using hb)] at h
      by_cases hm : (Lib.indexByte l c == -1) = true
      · rw [if_pos hm] at h; omega
      · rw [if_neg hm] at h
        have hj := Lib.indexByte_ge l c
        have hm' : Lib.indexByte l c ≠ -1 := by simpa using hm
        obtain ⟨j, rfl⟩ : ∃ j, i = j + 1 := ⟨i - 1, by omega⟩
        have := splS_hit c l j (by omega)
        simp only [splS, if_neg hb, this, List.take_succ_cons, List.drop_succ_cons]
theorem splS_miss (c : UInt8) : ∀ (l : List UInt8), Lib.indexByte l c = -1 → splS c l = [l]
  | [], _ => rfl
  | b :: l, h => by
    rw [show Lib.indexByte (b :: l) c = if b == c then 0 else if Lib.indexByte l c == -1 then -1 else Lib.indexByte l c + 1 from rfl] at h
    have hb : ¬ b = c := by
      intro hb
      rw [if_pos (by simpa using hb)] at h; omega
    rw [if_neg (by simpa using hb)] at h
    have hj := Lib.indexByte_ge l c
    by_cases hm : (Lib.indexByte l c == -1) = true
    · have hm' : Lib.indexByte l c = -1 := by simpa using hm
      rw [splS, if_neg hb, splS_miss c l hm']
    · rw [if_neg hm] at h
      have hm' : Lib.indexByte l c ≠ -1 := by simpa using hm
      omega

theorem sx_no {c : Nat → Prop} {w : World} {k : Nat} (h : ¬ c k) (h1 : k < w.heap.size ∨ w.heap.size + 2 ≤ k) : ¬ Sx c w k := by
  rintro (h' | h' | h')
  · exact h h'
  · omega
  · omega
theorem tx_take (l : List UInt8) (k : Nat) : (tx l).extract 0 k = tx (l.take k) := by
  rw [tx, tx, ByteArray.extract_mk]; simp
theorem tx_dropS (l : List UInt8) (k : Nat) : (tx l).extract k (tx l).size = tx (l.drop k) := by
  rw [tx_size, tx, tx, ByteArray.extract_mk]; simp [List.take_of_length_le]

/-- The text that a cell holds. -/
def textIn (w : World) (c : Nat) : Nat := match w.cell? ⟨c, 0, none⟩ with
  | some (.string r) => r.size
  | _ => 0

/-- What SplitSeq gives. -/
def MakesSplit (w : World) (s sep : ByteArray) (e : Ending) (w' : World) : Prop :=
  ∃ cp cs cv, e = .returned (.func (.func 52) #[] #[.pointer (some ⟨cp, 0, none⟩), .pointer (some ⟨cs, 0, none⟩), .pointer (some ⟨cv, 0, none⟩)]) ∧ Whole w' cs 9 #[.string s] ∧ Whole w' cp 9 #[.string sep] ∧ Whole w' cv 3 #[.int .i64 0] ∧
    w.heap.size ≤ cs ∧ w.heap.size ≤ cp ∧ w.heap.size ≤ cv ∧ cs ≠ cp ∧ cs ≠ cv ∧ Below w.heap.size w w'
theorem split_new0 (s sep : ByteArray) (w : World) : Calls Tryd.prog 38 #[.string s, .string sep, .int .i64 0] w (MakesSplit w s sep) := by
  have h1 := Whole.new w 9 #[.string s]
  have h2 := Whole.new (w.alloc (.cells #[.string s] 9)) 9 #[.string sep]
  have h3 := Whole.new ((w.alloc (.cells #[.string s] 9)).alloc (.cells #[.string sep] 9)) 3 #[.int .i64 0]
  simp only [World.size_alloc] at h2 h3
  have HH := Lib.hid (And.intro h1 (And.intro h2 h3))
  clear h1 h2 h3
  go_enter Tryd.func38, Tryd.ntmps38
  go_wp2
  go_ret
  obtain ⟨h1, h2, h3⟩ := HH.out
  exact ⟨w.heap.size + 1, w.heap.size, w.heap.size + 1 + 1, rfl, (h1.alloc _).alloc _, h2.alloc _, h3, Nat.le_refl _, by omega, by omega, by omega, by omega, (((Below.refl _ _).alloc (Nat.le_refl _) _).alloc (by simp) _).alloc (by simp; omega) _⟩
theorem split_new (s sep : ByteArray) (w : World) : Calls Tryd.prog 30 #[.string s, .string sep] w (MakesSplit w s sep) := by
  have S := Lib.hid (fun W => split_new0 s sep W)
  go_enter Tryd.func30, Tryd.ntmps30
  go_wp2_with (go_at_call 38; refine (S.out _).mono ?_; rintro e w' ⟨cp, cs, cv, rfl, hh⟩)
  go_ret
  exact ⟨cp, cs, cv, rfl, hh⟩

set_option maxHeartbeats 4000000 in
theorem split_hands (W0 : World) (cs cp cv : Nat) (s : List UInt8) (u : UInt8) (hs : s.length < 4294967281)
    (hne : cs ≠ cp ∧ cs ≠ cv)
    (hc : Whole W0 cs 9 #[.string (tx s)]) (hcp : Whole W0 cp 9 #[.string (tx [u])]) (hcv : Whole W0 cv 3 #[.int .i64 0]) :
    Hands Tryd.prog 52 #[.pointer (some ⟨cp, 0, none⟩), .pointer (some ⟨cs, 0, none⟩), .pointer (some ⟨cv, 0, none⟩)] (fun k => k = cs) (fun k => k = cs ∨ k = cp ∨ k = cv) (fun l => Value.string (tx l)) (splS u s) W0 := by
  intro l J Jx hJ hJx hY h0
  refine callsIn_of_wp Tryd.func52 rfl trivial ?_ rfl
  simp only [Tryd.ntmps52, List.size_toArray, List.length_cons, List.length_nil, Nat.reduceAdd, Nat.reduceSub, Array.replicate_succ, Array.replicate_zero, List.push_toArray, List.append_toArray, List.nil_append, List.cons_append]
  have hsp : (tx [u]).size = 1 := rfl
  have c1 := hc.cell 0
  have c2 := hcp.cell 0
  have c3 := hcv.cell 0
  simp only [List.getElem?_toArray, List.getElem?_cons_zero] at c1 c2 c3
  gi_wp2
  gi_loopw [7] (fun _ wr => ∃ pre r, r.length ≤ s.length ∧ splS u s = pre ++ splS u r ∧ Whole wr cs 9 #[.string (tx r)] ∧ Whole wr cp 9 #[.string (tx [u])] ∧ Whole wr cv 3 #[.int .i64 0] ∧ J pre wr)
    (fun _ wr => textIn wr cs)
  case atStart => exact ⟨[], s, Nat.le_refl _, rfl, hc, hcp, hcv, h0⟩
  case round =>
    obtain ⟨pre, r, hrs, hx, hW, hWp, hWv, hJs⟩ := hrel
    have hcell := hW.cell 0
    have hcellp := hWp.cell 0
    have hcellv := hWv.cell 0
    simp only [List.getElem?_toArray, List.getElem?_cons_zero] at hcell hcellp hcellv
    have hfro := hW.frozen 0
    have hsz : (tx r).size = r.length := tx_size r
    have cI0 := idx1_any r u wr
    have hge := Lib.indexByte_ge r u
    rcases Int.lt_or_le (Lib.indexByte r u) 0 with hi | hi
    · have hi' : Lib.indexByte r u = -1 := by omega
      rw [hi'] at cI0
      have hx2 : splS u s = (pre ++ [r]) := by rw [hx, splS_miss u r hi']
      obtain ⟨fn, tmps, assign, body, hy, hR⟩ := hY pre r _ hJs ⟨[], by rw [hx2, List.append_nil]⟩
      gi_wp2_with (refine ⟨trivial, ?_⟩; gi_at_call 54; refine (callsIn_wide.2 cI0).mono ?_; rintro e w' ⟨rfl, rfl⟩)
      refine hR.mono ?_
      rintro e W3 (⟨rfl, hJ3, hz3, hk3⟩ | ⟨rfl, hJx3⟩)
      · gi_wp2
        go_end0
        exact ⟨⟨_, rfl⟩, .inl (by rw [hx2]; exact hJ3)⟩
      · gi_wp2
        go_end0
        exact ⟨⟨_, rfl⟩, .inr ⟨_, hJx3⟩⟩
    · obtain ⟨i, hi2⟩ : ∃ i : Nat, Lib.indexByte r u = i := ⟨(Lib.indexByte r u).toNat, by omega⟩
      rw [hi2] at cI0
      have hroom := idx_room r u
      rw [hi2] at hroom
      obtain ⟨M, hM⟩ : ∃ M, i + 1 = M := ⟨_, rfl⟩
      have hx2 : splS u s = (pre ++ [r.take i]) ++ splS u (r.drop M) := by
        rw [hx, splS_hit u r i hi2, hM]; simp
      have q2 : IntKind.i64.wrap ((i : Int) + 0) = (i : Int) := by rw [IntWalk.i64_in _ (by omega)]; simp
      have q5 : IntKind.i64.wrap ((i : Int) + 1) = (M : Int) := by rw [← hM, IntWalk.i64_in _ (by omega)]; simp
      have q3 : (0 : Int) ≤ i := by omega
      have q4 : (i : Int) ≤ r.length := by omega
      have q6 : (0 : Int) ≤ M := by omega
      have q7 : (M : Int) ≤ r.length := by omega
      have e1 : (tx r).extract 0 i = tx (r.take i) := tx_take r i
      have e2 : (tx r).extract M r.length = tx (r.drop M) := by rw [← hsz]; exact tx_dropS r M
      obtain ⟨fn, tmps, assign, body, hy, hR⟩ := hY pre (r.take i) _ hJs ⟨_, hx2.symm⟩
      gi_wp2_with (refine ⟨trivial, ?_⟩; gi_at_call 54; refine (callsIn_wide.2 cI0).mono ?_; rintro e w' ⟨rfl, rfl⟩)
      refine hR.mono ?_
      rintro e W3 (⟨rfl, hJ3, hz3, hk3⟩ | ⟨rfl, hJx3⟩)
      · have tW : Whole W3 cs 9 #[.string (tx r)] := (hk3 cs (.inl rfl)).trans hW
        have tP : Whole W3 cp 9 #[.string (tx [u])] := (hk3 cp (.inr (.inl rfl))).trans hWp
        have tV : Whole W3 cv 3 #[.int .i64 0] := (hk3 cv (.inr (.inr rfl))).trans hWv
        have d1 := tW.cell 0
        have d2 := tP.cell 0
        have d3 := tV.cell 0
        simp only [List.getElem?_toArray, List.getElem?_cons_zero] at d1 d2 d3
        have d4 := tW.frozen 0
        gi_wp2
        have hW4 : Whole (W3.setCell { block := cs, off := 0 } (.string (tx (r.drop M)))) cs 9 #[.string (tx (r.drop M))] := tW.put 0 _
        have hO : Only (fun k => k = cs) W3 (W3.setCell { block := cs, off := 0 } (.string (tx (r.drop M)))) := (Only.refl (fun k => k = cs) W3).setCell (p := ⟨cs, 0, none⟩) (.inl rfl) _
        go_roundw
        case rel => exact ⟨_, r.drop M, by simp; omega, hx2, hW4, tP.only hO (fun e => hne.1 e.symm), tV.only hO (fun e => hne.2 e.symm), hJ _ _ _ hJ3 hO⟩
        case measure =>
          have t5 := hW4.cell 0
          simp only [textIn, t5, hcell, List.getElem?_toArray, List.getElem?_cons_zero, tx_size, List.length_drop]
          omega
      · gi_wp2
        refine bodyPost_ret (results_none rfl _ _ _) rfl ?_
        exact ⟨⟨_, rfl⟩, .inr ⟨_, hJx3⟩⟩
end Go.Proofs.YtibkdmliolebgaaDoor
