/-
  Contracts of prefix: Words. Conditions: at most a thousand lengths.
-/
import Derived.Test.YtnnpiblnjflceaaW2
import Derived.OwnWalk
namespace Go.Proofs.Ytnnpiblnjflceaa
open Go.RowKit

/-- A row made place by place. -/
def mr (n : Nat) (f : Nat → Value) : List Value := (List.range n).map f
@[simp] theorem mr_length (n : Nat) (f : Nat → Value) : (mr n f).length = n := by simp [mr]
theorem mr_get (n : Nat) (f : Nat → Value) (i : Nat) (h : i < n) : (mr n f)[i]? = some (f i) := by simp [mr, h]
theorem mr_ext (n : Nat) (f g : Nat → Value) (h : ∀ i, i < n → f i = g i) : mr n f = mr n g := by
  unfold mr
  apply List.map_congr_left
  intro i hi
  exact h i (List.mem_range.1 hi)
theorem mr_set (n : Nat) (f : Nat → Value) (k : Nat) (v : Value) : (mr n f).set k v = mr n (fun i => if i = k then v else f i) := by
  apply List.ext_getElem?
  intro i
  by_cases h : i < n
  · rw [mr_get _ _ _ h, List.getElem?_set]
    by_cases hk : k = i
    · subst hk; simp [h]
    · rw [if_neg hk, if_neg (by omega), mr_get _ _ _ h]
  · rw [List.getElem?_eq_none (by simp; omega), List.getElem?_eq_none (by simp; omega)]
theorem mr_made (z : Value) (n : Nat) : (madeCells #[z] (n * 1)).toList = mr n (fun _ => z) := by
  rw [toList_madeCells_one, Nat.mul_one]
  apply List.ext_getElem?
  intro i
  by_cases h : i < n
  · rw [mr_get _ _ _ h]; simp [h]
  · rw [List.getElem?_eq_none (by simp; omega), List.getElem?_eq_none (by simp; omega)]
theorem mr_map (l : List Int) : iv l = mr l.length (fun i => .int .i64 (l.getD i 0)) := by
  apply List.ext_getElem?
  intro i
  by_cases h : i < l.length
  · rw [mr_get _ _ _ h, iv_get? h]; simp [List.getD, h]
  · rw [List.getElem?_eq_none (by simp; omega), List.getElem?_eq_none (by simp; omega)]

theorem u32_info : (Try.prog.info? 33).map (fun i => (i.zero, i.size, i.bytes)) = some (some (.int .u32 0), 1, 4) := by kernel_rfl
theorem int_info : (Try.prog.info? 3).map (fun i => (i.zero, i.size, i.bytes)) = some (some (.int .i64 0), 1, 8) := by kernel_rfl

/-- The words' row. -/
def wrow (l : List Int) (k n : Nat) : List Value := mr n fun j => .int .u32 (if j < k then wv l j else 0 : Nat)

def WordsRes (w : World) (l : List Int) (n : Nat) (e : Ending) (w' : World) : Prop :=
  ∃ v, e = .returned (.tuple #[v, .int .i64 0]) ∧ w'.ownsRow w.heap.size 33 1 v n (wrow l n n) ∧ Below w.heap.size w w'

/-- Within Words: the next words' block, the row. -/
def WordsIn (w : World) (l : List Int) (n g : Nat) (v : Value) (k : Nat) (wr : World) : Prop :=
  w.heap.size ≤ g ∧ Whole wr g 102 (ra fun i => fst l i + ct i (l.take k)) ∧ wr.ownsRow w.heap.size 33 1 v n (wrow l k n) ∧ Below w.heap.size w wr

theorem words_bad (A : Option Addr) (n c B : Nat) (l : List Int) (hn : l.length = n) (hl : n ≤ 1000) (hr : kindOf l = 0) (w : World) (hs : Seen w B 1 A n c (iv l)) :
    Calls Try.prog 80 #[.slice A n c] w fun e w' => e = .returned (.tuple #[.slice none 0 0, .int .i64 12]) ∧ w = w' := by
  have HK := Lib.hid (kind_any A n c B l hn hl w hs)
  rw [hr] at HK
  clear hr hs hn
  go_enter Try.func80, Try.ntmps80
  go_wp2_with (go_at_call 90; refine HK.out.mono ?_; rintro e w1 ⟨rfl, rfl⟩)
  go_ret2
  exact ⟨rfl, rfl⟩

set_option maxHeartbeats 1000000 in
set_option maxRecDepth 100000 in
theorem words_any (A : Option Addr) (n c B : Nat) (l : List Int) (hn : l.length = n) (hl : n ≤ 1000) (hr : kindOf l ≠ 0) (w : World) (hs : Seen w B 1 A n c (iv l)) (hB : B ≤ w.heap.size) :
    Calls Try.prog 80 #[.slice A n c] w (WordsRes w l n) := by
  obtain ⟨i0, hi0, hz0, hz1, hz2⟩ := info_parts u32_info
  have HK := Lib.hid (kind_any A n c B l hn hl w hs)
  have hk0 : ((kindOf l : Nat) : Int) ≠ 0 := by omega
  have dk : (((kindOf l : Nat) : Int) == 0) = false := by simpa using hk0
  have HOK := Lib.hid (right_ok hr)
  have HR := Lib.hid hr; clear hr hk0
  generalize kindOf l = kk at HK dk
  have HS := Lib.hid hs; clear hs
  have HN := Lib.hid hn; clear hn
  have hz := zero73
  have HI := Lib.hid info73
  have HZ0 := Lib.hid hz0; clear hz0
  have HZ1 := Lib.hid hz1; clear hz1
  have HZ2 := Lib.hid hz2; clear hz2
  have HI0 := Lib.hid hi0; clear hi0
  go_enter Try.func80, Try.ntmps80
  go_wp2_with (first
    | (go_at_call 90; refine HK.out.mono ?_; rintro e w1 ⟨rfl, rfl⟩)
    | (go_at_call 81; refine (counted_any A n c B l HN.out hl HOK.out _ HS.out hB).mono ?_; rintro e w1 ⟨rfl, hb1⟩)
    | (go_at_call 91; refine (firstWords_any l HR.out _).mono ?_; rintro e w2 ⟨rfl, hb2⟩)
    | (with_reducible refine wpList_store_row rfl 102 (.tmp 4) (.tmp 13) rfl w2.heap.size (ra fun i => fst l i) rfl rfl 102 (ra fun _ => 0) (heap_alloc_new w2 _) (HI.out _) (by simp) (ra_one _) ?_)
    | (refine wpList_make_full _ rfl (.tmp 15) (.tmp 15) 100 rfl w.heap.size 33 i0 _ 1 Try.underlying100 HI0.out HZ0.out HZ1.out .i64 .i64 n n n rfl rfl rfl rfl (by rw [HZ2.out]; omega) (by simp [maxLen]; omega) (by have := hb1.size; have := hb2.size; simp; omega) ?_; intro w3 hown hg3))
  have hs1 := hb1.size
  have hs2 := hb2.size
  have h0 : WordsIn w l n w2.heap.size (.slice (some ⟨w2.heap.size + 1, 0, none⟩) n n) 0 w3 := by
    refine ⟨by omega, ?_, ?_, ?_⟩
    · have h1 := ((Whole.new w2 102 (ra fun _ => 0)).setRow (ra fun i => fst l i)).grown hg3 (by simp)
      have e : (ra fun i => fst l i + ct i (l.take 0)) = ra fun i => fst l i := ra_ext _ _ fun i _ => by simp [ct]
      rw [e]; exact h1
    · have e : wrow l 0 n = (madeCells #[.int .u32 0] (n * 1)).toList := by
        rw [mr_made]; exact mr_ext _ _ _ fun i _ => by simp
      rw [e]
      have e2 : ((w2.alloc (Obj.cells (ra fun x => 0) 102)).setRow w2.heap.size (ra fun i => fst l i)).heap.size = w2.heap.size + 1 := by simp
      rw [e2] at hown
      exact hown
    · exact ((below_setRow (((hb1.trans (hb2.mono hs1))).alloc (by omega) _) _ (by omega)).grown hg3 (by simp; omega) (by simp))
  have H0 := Lib.hid h0; clear h0 hown hg3
  obtain ⟨g, hg⟩ : ∃ g, w2.heap.size = g := ⟨_, rfl⟩
  rw [hg] at H0 hs2 ⊢
  have hgw : w.heap.size ≤ g := by omega
  clear hg hz hb1 hb2 HK dk hs1 hs2
  go_loopw [6, 7, 19] (fun _ _ i wr => ∃ k : Nat, k ≤ n ∧ i = .int .i64 k ∧ WordsIn w l n g (.slice (some ⟨g + 1, 0, none⟩) n n) k wr) (fun _ _ i _ => n - (intOf i).toNat)
  case atStart => exact ⟨0, Nat.zero_le _, rfl, H0.out⟩
  case round =>
    obtain ⟨k, hk, rfl, hin⟩ := hrel
    by_cases hlt : k < n
    · obtain ⟨b, o, rfl, _, hc⟩ := (HS.out.below (hin.2.2.2.mono hB)).int HN.out hlt
      have hkl : k < l.length := by have := HN.out; omega
      have E1 := Lib.hid (fun m => ct_take m l k hkl)
      have EL := Lib.hid (len_eq HOK.out k hkl)
      have hl15 := len_le HOK.out k
      have hwv := wv_32768 HR.out k hkl
      have EV : Hid (wv l k = fst l (len l k) + ct (len l k) (l.take k)) := Lib.hid rfl
      rw [EL.out] at hc
      obtain ⟨m, hm⟩ : ∃ m, len l k = m := ⟨_, rfl⟩
      rw [hm] at hc hl15
      have HM := Lib.hid hm; clear hm
      by_cases hm0 : 0 < m
      · have hm16 : m < 16 := by omega
        have hcm : wr.cell? ⟨g, m, none⟩ = some (.int .i64 (wv l k : Nat)) := by
          have := (hin.2.1.cell m).trans (ra_get _ m hm16)
          rw [EV.out, HM.out]
          exact this
        have hfm := hin.2.1.frozen m
        obtain ⟨hck, hfk, _⟩ := own_cell hin.2.2.1 (i := k) (u := .int .u32 (0 : Nat)) (by
          unfold wrow; rw [mr_get _ _ _ hlt, if_neg (Nat.lt_irrefl _)])
        have HIn := Lib.hid hin; clear hin
        obtain ⟨x, hx⟩ : ∃ x, wv l k = x := ⟨_, rfl⟩
        rw [hx] at hcm hwv
        have HX := Lib.hid hx; clear hx
        have wx : IntKind.u32.wrap (x : Int) = x := IntWalk.u32_in _ (by omega)
        go_wp2
        go_roundw
        case rel =>
          refine ⟨k + 1, by omega, by go_num, HIn.out.1, ?_, ?_, ?_⟩
          · have h1 := (HIn.out.2.1.far (p := ⟨g + 1, k, none⟩) (by simp) (.int .u32 (x : Nat))).put m (.int .i64 ((x + 1 : Nat) : Int))
            rw [ra_set] at h1
            have e : (ra fun i => fst l i + ct i (l.take (k + 1))) = ra (fun i => if i = m then x + 1 else fst l i + ct i (l.take k)) := ra_ext _ _ fun i hi => by
              rw [E1.out i, EL.out, HM.out]
              by_cases him : i = m
              · subst him
                rw [if_pos rfl, if_pos ⟨rfl, by omega⟩, ← HX.out, EV.out, HM.out]; omega
              · rw [if_neg him, if_neg (by omega)]; rfl
            rw [e]
            exact h1
          · have h1 := own_put HIn.out.2.2.1 k (.int .u32 (x : Nat))
            have e : (wrow l k n).set k (.int .u32 (x : Nat)) = wrow l (k + 1) n := by
              unfold wrow
              rw [mr_set]
              exact mr_ext _ _ _ fun i hi => by
                by_cases h : i = k
                · subst h; rw [if_pos rfl, if_pos (by omega), HX.out]
                · rw [if_neg h]
                  by_cases h2 : i < k
                  · rw [if_pos h2, if_pos (by omega)]
                  · rw [if_neg h2, if_neg (by omega)]
            rw [e] at h1
            have hO : Only (fun q => q = g) (wr.setCell ⟨g + 1, k, none⟩ (.int .u32 (x : Nat))) ((wr.setCell ⟨g + 1, k, none⟩ (.int .u32 (x : Nat))).setCell ⟨g, m, none⟩ (.int .i64 ((x : Int) + 1))) := (Only.refl (fun q => q = g) _).setCell (p := ⟨g, m, none⟩) (.inl rfl) _
            exact own_only h1 hO (fun q hq => by simp [Value.ownBlock] at hq; omega)
          · exact (HIn.out.2.2.2.setCell (by show w.heap.size ≤ g + 1; omega) _).setCell hgw _
        case measure => simp [intOf]; omega
      · obtain rfl : m = 0 := by omega
        have HIn := Lib.hid hin; clear hin
        go_wp2
        go_roundw
        case rel =>
          refine ⟨k + 1, by omega, by go_num, HIn.out.1, ?_, ?_, HIn.out.2.2.2⟩
          · have e : (ra fun i => fst l i + ct i (l.take (k + 1))) = ra (fun i => fst l i + ct i (l.take k)) := ra_ext _ _ fun i hi => by
              rw [E1.out i, EL.out, HM.out, if_neg (by omega)]; rfl
            rw [e]; exact HIn.out.2.1
          · have e : wrow l (k + 1) n = wrow l k n := mr_ext _ _ _ fun i hi => by
              by_cases h : i = k
              · subst h; rw [if_pos (by omega), if_neg (by omega), wv_none l i HM.out]
              · by_cases h2 : i < k
                · rw [if_pos h2, if_pos (by omega)]
                · rw [if_neg h2, if_neg (by omega)]
            rw [e]; exact HIn.out.2.2.1
        case measure => simp [intOf]; omega
    · obtain rfl : k = n := by omega
      have HIn := Lib.hid hin; clear hin
      go_wp2
      go_ret2
      exact ⟨_, rfl, HIn.out.2.2.1, HIn.out.2.2.2⟩
end Go.Proofs.Ytnnpiblnjflceaa
