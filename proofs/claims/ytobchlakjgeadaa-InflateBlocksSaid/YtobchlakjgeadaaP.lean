/-
  The document's words of a code. Conditions: each theorem names the range of its arguments.
-/
import Derived.Test.YtobchlakjgeadaaJ
namespace Go.Proofs.Ytobchlakjgeadaa
open Go.RowKit


/-- Bits as a text. -/
def tx (l : List Bool) : ByteArray := ⟨(l.map fun b => if b then (49 : UInt8) else 48).toArray⟩
theorem tx_size (l : List Bool) : (tx l).size = l.length := by simp [tx, ByteArray.size]
theorem tx_one (l : List Bool) : tx l ++ (⟨#[49]⟩ : ByteArray) = tx (l ++ [true]) := by
  apply ByteArray.ext; simp [tx]
theorem tx_zero (l : List Bool) : tx l ++ (⟨#[48]⟩ : ByteArray) = tx (l ++ [false]) := by
  apply ByteArray.ext; simp [tx]

def MoreAt (n : Nat) : Prop := ∀ (v : Nat) (w : World), Calls Try.prog 58 #[.string (tx (hi n v))] w fun e w' => e = .returned (.string (tx (hi n (v + 1)))) ∧ w = w'

theorem more_zero : MoreAt 0 := by
  intro v w
  rw [hi_zero, hi_zero]
  have et : tx [] = ⟨#[]⟩ := rfl
  rw [et]
  clear et
  go_enter Try.func58, Try.ntmps58
  go_wp2
  go_ret
  exact ⟨rfl, rfl⟩

theorem tx_cut (l : List Bool) (b : Bool) : (tx (l ++ [b])).extract 0 ((tx (l ++ [b])).size - 1) = tx l := by
  rw [tx_size]
  apply ByteArray.ext
  rw [ByteArray.data_extract]
  simp [tx]
theorem tx_at (l : List Bool) (i : Nat) (h : i < (tx l).size) : (tx l)[i] = if l[i]'(by rwa [tx_size] at h) then 49 else 48 := by
  show (tx l).data[i] = _
  simp [tx]
theorem tx_last (l : List Bool) (b : Bool) (h : (tx (l ++ [b])).size - 1 < (tx (l ++ [b])).size) : (tx (l ++ [b]))[(tx (l ++ [b])).size - 1].toNat = if b then 49 else 48 := by
  rw [tx_at]
  have : (tx (l ++ [b])).size - 1 = l.length := by rw [tx_size]; simp
  simp only [this]
  rw [List.getElem_concat_length rfl]
  cases b <;> rfl
theorem tx_toList (l : List Bool) : (tx l).toList = l.map fun b => if b then (49 : UInt8) else 48 := by
  rw [ByteArray.toList_eq]
  simp [tx]
theorem tx_some (l : List Bool) (h : l ≠ []) : (tx l).toList.isEmpty = false ∧ ((tx l).toList == []) = false := by
  rw [tx_toList]
  cases l with
  | nil => exact absurd rfl h
  | cons a l => exact ⟨rfl, rfl⟩

set_option maxHeartbeats 400000 in
theorem more_walk (n : Nat) (hn : n < 15) (l : List Bool) (b : Bool) (hl : l.length = n) (m r : List Bool) (hm1 : m.length ≤ 15) (hr : r = if b then m ++ [false] else l ++ [true]) (w : World) (hm : Calls Try.prog 58 #[.string (tx l)] w fun e w' => e = .returned (.string (tx m)) ∧ w = w') :
    Calls Try.prog 58 #[.string (tx (l ++ [b]))] w fun e w' => e = .returned (.string (tx r)) ∧ w = w' := by
  have HM := Lib.hid hm; clear hm
  have hmz : (tx m).size ≤ 15 := by rw [tx_size]; exact hm1
  have HR := Lib.hid hr; clear hr
  have hs : (tx (l ++ [b])).size = n + 1 := by rw [tx_size]; simp [hl]
  have h1 : 0 < (tx (l ++ [b])).size := by omega
  have h2 : (tx (l ++ [b])).size < 16 := by omega
  have h3 := (tx_some (l ++ [b]) (by simp)).1
  have h4 := (tx_some (l ++ [b]) (by simp)).2
  have HC := Lib.hid (tx_cut l b)
  have HL := Lib.hid (tx_last l b)
  clear hl hs
  generalize tx (l ++ [b]) = s at *
  go_enter Try.func58, Try.ntmps58
  go_wp2_with fail
  · go_ret
    next h5 h6 =>
    have hL := HL.out (by omega)
    cases b with
    | true => rw [hL] at h6; simp at h6
    | false => exact ⟨by rw [HR.out, HC.out, tx_one]; rfl, rfl⟩
  · rw [HC.out]
    refine HM.out.mono ?_
    rintro e w1 ⟨rfl, rfl⟩
    go_wp2
    go_ret
    next h5 h6 =>
    have hL := HL.out (by omega)
    cases b with
    | true => exact ⟨by rw [HR.out, tx_zero]; rfl, rfl⟩
    | false => rw [hL] at h6; simp at h6

theorem more_any : ∀ n, n ≤ 15 → MoreAt n := by
  intro n
  induction n with
  | zero => exact fun _ => more_zero
  | succ n ih =>
    intro hn v w
    have h := more_walk n (by omega) (hi n (v / 2)) (v % 2 == 1) (by simp) _ _ (by simp; omega) rfl w (ih (by omega) (v / 2) w)
    rw [← hi_snoc] at h
    have e : (if v % 2 == 1 then hi n (v / 2 + 1) ++ [false] else hi n (v / 2) ++ [true]) = hi (n + 1) (v + 1) := by
      rw [hi_snoc n (v + 1)]
      by_cases hv : v % 2 = 0
      · rw [show (v + 1) / 2 = v / 2 by omega, show (v + 1) % 2 = 1 by omega, hv]; rfl
      · rw [show (v + 1) / 2 = v / 2 + 1 by omega, show (v + 1) % 2 = 0 by omega, show v % 2 = 1 by omega]; rfl
    rw [e] at h
    exact h


theorem str_info : (Try.prog.info? 9).map (fun i => (i.zero, i.size, i.bytes)) = some (some (.string ⟨#[]⟩), 1, 16) := by kernel_rfl

/-- The texts' row: words of fewer than m bits, and of m bits those ahead of i. -/
def trow (l : List Int) (n m i : Nat) : List Value := mr n fun j => .string (if len l j < m ∨ len l j = m ∧ j < i then tx (wb l j) else tx [])
/-- All of them. -/
def twords (l : List Int) (n : Nat) : List Value := mr n fun j => .string (tx (wb l j))

def RefWordsRes (w : World) (l : List Int) (n : Nat) (e : Ending) (w' : World) : Prop :=
  ∃ v, e = .returned (.tuple #[v, .bool true]) ∧ w'.ownsRow w.heap.size 9 1 v n (twords l n) ∧ Below w.heap.size w w'

def RefWordsIn (w : World) (l : List Int) (n : Nat) (v : Value) (m i : Nat) (wr : World) : Prop :=
  wr.ownsRow w.heap.size 9 1 v n (trow l n m i) ∧ Below w.heap.size w wr

theorem refWords_bad (A : Option Addr) (n c B : Nat) (l : List Int) (hn : l.length = n) (hl : n ≤ 1000) (hr : kindOf l = 0) (w : World) (hs : Seen w B 1 A n c (iv l)) (hB : B ≤ w.heap.size) :
    Calls Try.prog 42 #[.slice A n c] w fun e w' => e = .returned (.tuple #[.slice none 0 0, .bool false]) ∧ Below w.heap.size w w' := by
  obtain ⟨i0, hi0, hz0, hz1, hz2⟩ := info_parts str_info
  have HS := Lib.hid hs; clear hs
  have HN := Lib.hid hn; clear hn
  have HR := Lib.hid hr; clear hr
  have HZ0 := Lib.hid hz0; clear hz0
  have HZ1 := Lib.hid hz1; clear hz1
  have HZ2 := Lib.hid hz2; clear hz2
  have HI0 := Lib.hid hi0; clear hi0
  go_enter Try.func42, Try.ntmps42
  go_wp2_with (first
    | (refine wpList_make_full _ rfl (.tmp 10) (.tmp 10) 82 rfl w.heap.size 9 i0 _ 1 Try.underlying82 HI0.out HZ0.out HZ1.out .i64 .i64 n n n rfl rfl rfl rfl (by rw [HZ2.out]; omega) (by simp [maxLen]; omega) (by omega) ?_; intro w3 hown hg3)
    | (go_at_call 57; refine (refKind_any A n c B l HN.out hl _ (HS.out.below ((Below.refl _ _).grown hg3 hB (by simp)))).mono ?_; rintro e w1 ⟨rfl, rfl⟩; rw [HR.out]))
  go_ret2
  exact ⟨rfl, (Below.refl _ _).grown hg3 (Nat.le_refl _) (by simp)⟩

set_option maxRecDepth 100000 in
set_option maxHeartbeats 1000000 in
theorem refWords_any (A : Option Addr) (n c B : Nat) (l : List Int) (hn : l.length = n) (hl : n ≤ 1000) (hr : kindOf l ≠ 0) (w : World) (hs : Seen w B 1 A n c (iv l)) (hB : B ≤ w.heap.size) :
    Calls Try.prog 42 #[.slice A n c] w (RefWordsRes w l n) := by
  obtain ⟨i0, hi0, hz0, hz1, hz2⟩ := info_parts str_info
  have HOK := Lib.hid (right_ok hr)
  have hk0 : ((kindOf l : Nat) : Int) ≠ 0 := by omega
  have dk : (((kindOf l : Nat) : Int) == 0) = false := by simpa using hk0
  have HR := Lib.hid hr; clear hr hk0
  have HS := Lib.hid hs; clear hs
  have HN := Lib.hid hn; clear hn
  have HZ0 := Lib.hid hz0; clear hz0
  have HZ1 := Lib.hid hz1; clear hz1
  have HZ2 := Lib.hid hz2; clear hz2
  have HI0 := Lib.hid hi0; clear hi0
  obtain ⟨kk, hkk⟩ : ∃ kk, kindOf l = kk := ⟨_, rfl⟩
  have HKK := Lib.hid hkk
  rw [hkk] at dk
  clear hkk
  go_enter Try.func42, Try.ntmps42
  go_wp2_with (first
    | (refine wpList_make_full _ rfl (.tmp 10) (.tmp 10) 82 rfl w.heap.size 9 i0 _ 1 Try.underlying82 HI0.out HZ0.out HZ1.out .i64 .i64 n n n rfl rfl rfl rfl (by rw [HZ2.out]; omega) (by simp [maxLen]; omega) (by omega) ?_; intro w3 hown hg3)
    | (go_at_call 57; refine (refKind_any A n c B l HN.out hl _ (HS.out.below ((Below.refl _ _).grown hg3 hB (by simp)))).mono ?_; rintro e w1 ⟨rfl, rfl⟩; rw [HKK.out]))
  have h0 : RefWordsIn w l n (.slice (some ⟨w.heap.size, 0, none⟩) n n) 1 0 w3 := by
    refine ⟨?_, (Below.refl _ _).grown hg3 (Nat.le_refl _) (by simp)⟩
    have e : trow l n 1 0 = (madeCells #[.string ⟨#[]⟩] (n * 1)).toList := by
      rw [mr_made]
      exact mr_ext _ _ _ fun i _ => by
        by_cases h : len l i = 0
        · rw [if_pos (by omega)]; unfold wb; rw [h, hi_zero]; rfl
        · rw [if_neg (by omega)]; rfl
    rw [e]; exact hown
  have H0 := Lib.hid h0; clear h0 hown hg3
  obtain ⟨g, hg⟩ : ∃ g, w.heap.size = g := ⟨_, rfl⟩
  rw [hg]
  have HG := Lib.hid hg
  rw [hg] at H0
  clear dk hg
  go_loopw [5, 6, 7, 8] (fun s m _ _ wr => ∃ k : Nat, 1 ≤ k ∧ k ≤ 16 ∧ m = .int .i64 k ∧ s = .string (tx (hi (k - 1) (upTo l (k - 1)))) ∧ RefWordsIn w l n (.slice (some ⟨g, 0, none⟩) n n) k 0 wr) (fun _ m _ _ _ => 16 - (intOf m).toNat)
  case atStart => exact ⟨1, by omega, by omega, rfl, by rw [hi_zero]; rfl, H0.out⟩
  case round =>
    obtain ⟨m, hm1, hm2, rfl, rfl, hin⟩ := hrel
    by_cases hm : m ≤ 15
    · have dm : decide ((m : Int) ≤ 15) = true := by simp; omega
      have E1 : Hid (tx (hi (m - 1) (upTo l (m - 1))) ++ (⟨#[48]⟩ : ByteArray) = tx (hi (m) (fst l (m)))) := Lib.hid (by
        obtain ⟨q, rfl⟩ : ∃ q, m = q + 1 := ⟨m - 1, by omega⟩
        rw [tx_zero, Nat.add_sub_cancel, ← hi_double]; rfl)
      have hz : (tx (hi (m - 1) (upTo l (m - 1)))).size ≤ 15 := by rw [tx_size, hi_length]; omega
      have HIn := Lib.hid hin; clear hin
      obtain ⟨S0, hS0⟩ : ∃ S0, tx (hi (m - 1) (upTo l (m - 1))) = S0 := ⟨_, rfl⟩
      rw [hS0] at E1 hz ⊢
      clear hS0
      go_wp2
      rw [E1.out]
      go_loopw [5, 7, 8, 23] (fun s _ _ i wr => ∃ k : Nat, k ≤ n ∧ i = .int .i64 k ∧ s = .string (tx (hi (m) (fst l (m) + ct (m) (l.take k)))) ∧ RefWordsIn w l n (.slice (some ⟨g, 0, none⟩) n n) (m) k wr) (fun _ _ _ i _ => n - (intOf i).toNat)
      case atStart => exact ⟨0, by omega, rfl, rfl, HIn.out⟩
      case round =>
        clear HIn
        obtain ⟨k, hk, rfl, rfl, hin⟩ := hrel
        by_cases hlt : k < n
        · obtain ⟨b, o, rfl, _, hc⟩ := (HS.out.below (hin.2.mono hB)).int HN.out hlt
          have hkl : k < l.length := by have := HN.out; omega
          have E2 := Lib.hid (ct_take (m) l k hkl)
          have EL := Lib.hid (len_eq HOK.out k hkl)
          rw [EL.out] at hc
          obtain ⟨x, hx⟩ : ∃ x, len l k = x := ⟨_, rfl⟩
          rw [hx] at hc
          have HX := Lib.hid hx; clear hx
          by_cases hxm : x = m
          · obtain rfl : m = x := hxm.symm
            have dm2 : m ≠ 0 := by omega
            obtain ⟨hck, hfk, _⟩ := own_cell hin.1 (i := k) (u := .string (tx [])) (by
              unfold trow; rw [mr_get _ _ _ hlt, if_neg (by rw [HX.out]; omega)])
            have HIn := Lib.hid hin; clear hin
            have hMo := Lib.hid (more_any (m) (by omega) (fst l (m) + ct (m) (l.take k)))
            have EW : Hid (tx (hi (m) (fst l (m) + ct (m) (l.take k))) = tx (wb l k)) := Lib.hid (by unfold wb wv; rw [HX.out])
            obtain ⟨S1, hS1⟩ : ∃ S1, tx (hi (m) (fst l (m) + ct (m) (l.take k))) = S1 := ⟨_, rfl⟩
            have HS1 := Lib.hid hS1
            rw [hS1] at EW ⊢
            clear hS1
            go_wp2_with (go_at_call 58; rw [← HS1.out]; refine (hMo.out _).mono ?_; rintro e w1 ⟨rfl, rfl⟩)
            go_roundw
            case rel =>
              refine ⟨k + 1, by omega, by go_num, ?_, ?_, HIn.out.2.setCell (by show w.heap.size ≤ g; have := HG.out; omega) _⟩
              · rw [E2.out, EL.out, HX.out, if_pos ⟨rfl, by omega⟩]; rfl
              · have h1 := own_put HIn.out.1 k (.string S1)
                have e : (trow l n (m) k).set k (.string S1) = trow l n (m) (k + 1) := by
                  unfold trow
                  rw [mr_set]
                  exact mr_ext _ _ _ fun i hi => by
                    by_cases h : i = k
                    · subst h; rw [if_pos rfl, if_pos (by rw [HX.out]; omega), EW.out]
                    · rw [if_neg h]
                      congr 1
                      have : (len l i < m ∨ len l i = m ∧ i < k) ↔ (len l i < m ∨ len l i = m ∧ i < k + 1) := by omega
                      simp only [this]
                rw [e] at h1
                rw [HS1.out]; exact h1
            case measure => simp [intOf]; omega
          · have HIn := Lib.hid hin; clear hin
            have dx : ((x : Int) == ((m : Nat) : Int)) = false := by simp; omega
            have dx2 : (x == m) = false := by simp; omega
            obtain ⟨S1, hS1⟩ : ∃ S1, tx (hi (m) (fst l (m) + ct (m) (l.take k))) = S1 := ⟨_, rfl⟩
            have HS1 := Lib.hid hS1
            rw [hS1]
            clear hS1
            go_wp2
            go_roundw
            case rel =>
              refine ⟨k + 1, by omega, by go_num, ?_, ?_, HIn.out.2⟩
              · rw [E2.out, EL.out, HX.out, if_neg (by omega), ← HS1.out]; rfl
              · have e : trow l n (m) (k + 1) = trow l n (m) k := mr_ext _ _ _ fun i hi => by
                  congr 1
                  have : (len l i < m ∨ len l i = m ∧ i < k + 1) ↔ (len l i < m ∨ len l i = m ∧ i < k) := by
                    by_cases h : i = k
                    · subst h; rw [HX.out]; omega
                    · omega
                  simp only [this]
                rw [e]; exact HIn.out.1
            case measure => simp [intOf]; omega
        · obtain rfl : k = n := by omega
          have HIn := Lib.hid hin; clear hin
          rw [List.take_of_length_le (by have := HN.out; omega)]
          go_wp2
          go_roundw
          case rel =>
            refine ⟨m + 1, by omega, by omega, by go_num, rfl, ?_, HIn.out.2⟩
            have e : trow l k (m + 1) 0 = trow l k (m) k := mr_ext _ _ _ fun i hi => by
              congr 1
              have : (len l i < m + 1 ∨ len l i = m + 1 ∧ i < 0) ↔ (len l i < m ∨ len l i = m ∧ i < k) := by omega
              simp only [this]
            rw [e]; exact HIn.out.1
          case measure => simp [intOf]; omega
    · have HIn := Lib.hid hin; clear hin
      obtain ⟨S1, hS1⟩ : ∃ S1, tx (hi (m - 1) (upTo l (m - 1))) = S1 := ⟨_, rfl⟩
      rw [hS1]
      clear hS1
      go_wp2
      go_ret2
      refine ⟨_, rfl, ?_, HIn.out.2⟩
      have e : trow l n m 0 = twords l n := mr_ext _ _ _ fun i hi => by
        have := len_le HOK.out i
        rw [if_pos (by omega)]
      rw [← e]
      exact HIn.out.1

end Go.Proofs.Ytobchlakjgeadaa
