/-
  The cursor of the document: Little, End. Conditions: each theorem names the range of its arguments.
-/
import Derived.Test.YtplilajgncfieaaE1
import Derived.Deep.QuietTactic
import Derived.BigQuiet
namespace Go.Proofs.Ytplilajgncfieaa
open Go.RowKit

/-- The rest of Little: what was taken is turned round, and told. -/
def RLit (w : World) (g : Nat) (A : Option Addr) (c : Nat) (bs : List Nat) (r : List Nat × Nat × Int) (e : Ending) (w' : World) : Prop := RNum w g A c bs r (len_ r.1) e w'

theorem rev_take (l : List Nat) (j : Nat) (h : j < l.length) : (l.take (j + 1)).reverse = l[j] :: (l.take j).reverse := by
  rw [List.take_succ_eq_append_getElem h, List.reverse_append]
  rfl

set_option maxHeartbeats 2000000 in
theorem rlittle_any (g B : Nat) (A : Option Addr) (c : Nat) (bs : List Nat) (a : Nat) (err n : Int) (w : World) (h : RCur w g A c bs a err) (hs : Seen w B 1 A bs.length c (bv bs)) (hB : B ≤ g) (hb : bs.length ≤ 1000000) (hcm : c ≤ 9223372036854775807) (ha : a ≤ bs.length) (h256 : ∀ x ∈ bs, x < 256) :
    Calls Try.prog 50 #[.pointer (some ⟨g, 0, none⟩), .int .i64 n] w (RLit w g A c bs (nxt bs a err n (decide (Wide n)))) := by
  obtain ⟨i0, hi0, hz0, hz1, hz2⟩ := info_parts byte_info
  have c2 := h.c2
  have f2 := Whole.frozen h 2
  have hgw := Whole.lt h
  obtain ⟨r, hr⟩ : ∃ r, nxt bs a err n (decide (Wide n)) = r := ⟨_, rfl⟩
  have h8 := nxt_le8 bs a err n
  have hby := nxt_byte bs a err n (decide (Wide n)) h256
  rw [hr] at h8 hby ⊢
  have HBy := Lib.hid hby; clear hby
  have hcase : (err = 0 ∧ ¬ Wide n) ∨ (err = 0 ∧ Wide n) ∨ (err == 0) = false := by
    by_cases he : err = 0
    · by_cases hw : Wide n
      · exact .inr (.inl ⟨he, hw⟩)
      · exact .inl ⟨he, hw⟩
    · exact .inr (.inr (by simp [he]))
  have HT1 : Hid (err = 0 → ¬ Wide n → Calls Try.prog 40 #[.pointer (some ⟨g, 0, none⟩), .int .i64 n] (w.setCell ⟨g, 2, none⟩ (.int .i64 1)) (RTake (w.setCell ⟨g, 2, none⟩ (.int .i64 1)) g A c bs r)) := by
    intro he hw
    subst he
    have hT := rtake_any g B A c bs a 1 n _ (h.set2 1) (hs.only (only_set w g 2 (.int .i64 1)) (by omega) (fun k hk e => by omega)) hB hb hcm ha
    rw [nxt_bad bs a n hw] at hr
    rw [nxt_one bs a 1 n _ (by decide), hr] at hT
    exact hT
  have HT2 : Hid ((err = 0 → Wide n) → Calls Try.prog 40 #[.pointer (some ⟨g, 0, none⟩), .int .i64 n] w (RTake w g A c bs r)) := by
    intro hw
    have hT := rtake_any g B A c bs a err n _ h hs hB hb hcm ha
    have hsame : nxt bs a err n (decide (Wide n)) = nxt bs a err n (decide (0 ≤ n)) := by
      by_cases he : err = 0
      · rw [decide_eq_true (hw he), decide_eq_true (Wide.nonneg (decide_eq_true (hw he)))]
      · rw [nxt_one _ _ _ _ _ he, nxt_one _ _ _ _ _ he]
    rw [hsame] at hr
    rw [hr] at hT
    exact hT
  clear hr h256 h hs
  obtain ⟨xs, a', err'⟩ := r
  simp only at h8 HBy HT1 HT2
  obtain ⟨m, hm⟩ : ∃ m, xs.length = m := ⟨_, rfl⟩
  rw [hm] at h8
  have HM := Lib.hid hm; clear hm
  rcases hcase with ⟨rfl, hw⟩ | ⟨rfl, hw⟩ | he1
  · have HW := Lib.hid hw; clear hw
    go_enter Try.func50, Try.ntmps50
    go_wp2_with (first | (go_at_call 52; refine (sizeR_no n HW.out _).mono ?_; rintro e w0 ⟨rfl, rfl⟩) | (go_at_call 40; refine (HT1.out (by simp) HW.out).mono ?_; rintro e w1 ⟨v1, rfl, ho1, hR1, hO0⟩; have hO1 := (only_set w g 2 (.int .i64 1)).trans hO0; simp only at ho1; rw [HM.out] at ho1; obtain ⟨A1, c1, rfl, _⟩ := own_form ho1))
    clear hO0
    have HS1 := Lib.hid (Seen.of_own ho1)
    have HR1 := Lib.hid hR1; clear hR1
    have HO1 := Lib.hid hO1; clear hO1 ho1
    go_loopw [5, 25] (fun s i wr => ∃ j : Nat, j ≤ m ∧ i = .int .i64 j ∧ wr.ownsRow w1.heap.size 5 1 s j (bv (xs.take j).reverse) ∧ Below w1.heap.size w1 wr) (fun _ i _ => m - (intOf i).toNat)
    case atStart => exact ⟨0, Nat.zero_le _, rfl, World.ownsRow_nil _ _ _ _, Below.refl _ _⟩
    case round =>
      obtain ⟨j, hj, rfl, hown, hbel⟩ := hrel
      by_cases hlt : j < m
      · have hjl : j < xs.length := by rw [HM.out]; exact hlt
        have ht := Lib.hid (rev_take xs j hjl)
        obtain ⟨b, o, u, rfl, hbk, hu, hcell⟩ := (HS1.out.below hbel).at (k := j) hlt
        have hu' : u = .int .u8 (xs[j] : Nat) := by rw [bv_get _ _ hjl] at hu; exact (Option.some.inj hu).symm
        subst hu'
        clear hu
        generalize xs[j] = y at *
        have hj0 : (0 : Int) ≤ j := by omega
        have hsz := hbel.size
        obtain ⟨A5, c5, rfl, _⟩ := own_form hown
        have HSB := Lib.hid ((Seen.of_own hown).below ((Below.refl _ _).alloc (Nat.le_refl _) (.cells #[.int .u8 (y : Int)] 5)))
        have HBel := Lib.hid hbel; clear hbel hown
        go_wp2_with (at_builtin; refine wpList_append_seen _ rfl (.tmp 30) (.tmp 31) _ rfl w1.heap.size 5 i0 _ 1 1 Try.underlying29 hi0 hz0 hz1 hz2 rfl (by omega) (.slice (some ⟨wr.heap.size, 0, none⟩) 1 1) 1 [.int .u8 (y : Int)] rfl (World.ownsRow_lit wr #[.int .u8 (y : Int)] 1 hsz (by simp only [maxLen]; omega) rfl) _ A5 j c5 _ rfl HSB.out (bv_oneCell _) (by simp only [maxLen]; omega) (by omega) (by simp only [World.size_alloc]; omega) ?_; intro v2 w2 hown2 hg2 hat2)
        go_roundw
        case rel =>
          refine ⟨j + 1, by omega, by go_num, ?_, (HBel.out.alloc hsz _).grown hg2 (by simp; omega) (fun i hi => by simp [Value.ownBlock] at hi; omega)⟩
          rw [ht.out, Nat.add_comm j 1]
          exact hown2
        case measure => simp [intOf]; omega
      · obtain rfl : m = j := by omega
        rw [List.take_of_length_le (by rw [HM.out]; exact Nat.le_refl _)] at hown
        obtain ⟨A5, c5, rfl, _⟩ := own_form hown
        have HSB := Lib.hid (Seen.of_own hown)
        have HBel := Lib.hid hbel; clear hbel hown
        go_wp2_with fail
        refine (rnumber_any A5 m c5 _ xs.reverse (by rw [List.length_reverse]; exact HM.out) h8 (fun x hx => HBy.out x (List.mem_reverse.1 hx)) _ HSB.out).mono ?_; rintro e w2 ⟨rfl, rfl⟩
        rw [big_reverse]
        go_wp2_with fail
        go_ret
        exact ⟨rfl, Whole.only HR1.out (Only.of_below HBel.out Nob) (fun h => h), HO1.out.trans (Only.of_below HBel.out _)⟩
  · have HW := Lib.hid hw; clear hw
    go_enter Try.func50, Try.ntmps50
    go_wp2_with (first | (go_at_call 52; refine (sizeR_yes n HW.out _).mono ?_; rintro e w0 ⟨rfl, rfl⟩) | (go_at_call 40; refine (HT2.out (fun _ => HW.out)).mono ?_; rintro e w1 ⟨v1, rfl, ho1, hR1, hO1⟩; simp only at ho1; rw [HM.out] at ho1; obtain ⟨A1, c1, rfl, _⟩ := own_form ho1))
    have HS1 := Lib.hid (Seen.of_own ho1)
    have HR1 := Lib.hid hR1; clear hR1
    have HO1 := Lib.hid hO1; clear hO1 ho1
    go_loopw [5, 25] (fun s i wr => ∃ j : Nat, j ≤ m ∧ i = .int .i64 j ∧ wr.ownsRow w1.heap.size 5 1 s j (bv (xs.take j).reverse) ∧ Below w1.heap.size w1 wr) (fun _ i _ => m - (intOf i).toNat)
    case atStart => exact ⟨0, Nat.zero_le _, rfl, World.ownsRow_nil _ _ _ _, Below.refl _ _⟩
    case round =>
      obtain ⟨j, hj, rfl, hown, hbel⟩ := hrel
      by_cases hlt : j < m
      · have hjl : j < xs.length := by rw [HM.out]; exact hlt
        have ht := Lib.hid (rev_take xs j hjl)
        obtain ⟨b, o, u, rfl, hbk, hu, hcell⟩ := (HS1.out.below hbel).at (k := j) hlt
        have hu' : u = .int .u8 (xs[j] : Nat) := by rw [bv_get _ _ hjl] at hu; exact (Option.some.inj hu).symm
        subst hu'
        clear hu
        generalize xs[j] = y at *
        have hj0 : (0 : Int) ≤ j := by omega
        have hsz := hbel.size
        obtain ⟨A5, c5, rfl, _⟩ := own_form hown
        have HSB := Lib.hid ((Seen.of_own hown).below ((Below.refl _ _).alloc (Nat.le_refl _) (.cells #[.int .u8 (y : Int)] 5)))
        have HBel := Lib.hid hbel; clear hbel hown
        go_wp2_with (at_builtin; refine wpList_append_seen _ rfl (.tmp 30) (.tmp 31) _ rfl w1.heap.size 5 i0 _ 1 1 Try.underlying29 hi0 hz0 hz1 hz2 rfl (by omega) (.slice (some ⟨wr.heap.size, 0, none⟩) 1 1) 1 [.int .u8 (y : Int)] rfl (World.ownsRow_lit wr #[.int .u8 (y : Int)] 1 hsz (by simp only [maxLen]; omega) rfl) _ A5 j c5 _ rfl HSB.out (bv_oneCell _) (by simp only [maxLen]; omega) (by omega) (by simp only [World.size_alloc]; omega) ?_; intro v2 w2 hown2 hg2 hat2)
        go_roundw
        case rel =>
          refine ⟨j + 1, by omega, by go_num, ?_, (HBel.out.alloc hsz _).grown hg2 (by simp; omega) (fun i hi => by simp [Value.ownBlock] at hi; omega)⟩
          rw [ht.out, Nat.add_comm j 1]
          exact hown2
        case measure => simp [intOf]; omega
      · obtain rfl : m = j := by omega
        rw [List.take_of_length_le (by rw [HM.out]; exact Nat.le_refl _)] at hown
        obtain ⟨A5, c5, rfl, _⟩ := own_form hown
        have HSB := Lib.hid (Seen.of_own hown)
        have HBel := Lib.hid hbel; clear hbel hown
        go_wp2_with fail
        refine (rnumber_any A5 m c5 _ xs.reverse (by rw [List.length_reverse]; exact HM.out) h8 (fun x hx => HBy.out x (List.mem_reverse.1 hx)) _ HSB.out).mono ?_; rintro e w2 ⟨rfl, rfl⟩
        rw [big_reverse]
        go_wp2_with fail
        go_ret
        exact ⟨rfl, Whole.only HR1.out (Only.of_below HBel.out Nob) (fun h => h), HO1.out.trans (Only.of_below HBel.out _)⟩
  · have he0 := Lib.hid (show err = 0 → Wide n from fun e => by subst e; simp at he1)
    go_enter Try.func50, Try.ntmps50
    go_wp2_with (go_at_call 40; refine (HT2.out he0.out).mono ?_; rintro e w1 ⟨v1, rfl, ho1, hR1, hO1⟩; simp only at ho1; rw [HM.out] at ho1; obtain ⟨A1, c1, rfl, _⟩ := own_form ho1)
    have HS1 := Lib.hid (Seen.of_own ho1)
    have HR1 := Lib.hid hR1; clear hR1
    have HO1 := Lib.hid hO1; clear hO1 ho1
    go_loopw [5, 25] (fun s i wr => ∃ j : Nat, j ≤ m ∧ i = .int .i64 j ∧ wr.ownsRow w1.heap.size 5 1 s j (bv (xs.take j).reverse) ∧ Below w1.heap.size w1 wr) (fun _ i _ => m - (intOf i).toNat)
    case atStart => exact ⟨0, Nat.zero_le _, rfl, World.ownsRow_nil _ _ _ _, Below.refl _ _⟩
    case round =>
      obtain ⟨j, hj, rfl, hown, hbel⟩ := hrel
      by_cases hlt : j < m
      · have hjl : j < xs.length := by rw [HM.out]; exact hlt
        have ht := Lib.hid (rev_take xs j hjl)
        obtain ⟨b, o, u, rfl, hbk, hu, hcell⟩ := (HS1.out.below hbel).at (k := j) hlt
        have hu' : u = .int .u8 (xs[j] : Nat) := by rw [bv_get _ _ hjl] at hu; exact (Option.some.inj hu).symm
        subst hu'
        clear hu
        generalize xs[j] = y at *
        have hj0 : (0 : Int) ≤ j := by omega
        have hsz := hbel.size
        obtain ⟨A5, c5, rfl, _⟩ := own_form hown
        have HSB := Lib.hid ((Seen.of_own hown).below ((Below.refl _ _).alloc (Nat.le_refl _) (.cells #[.int .u8 (y : Int)] 5)))
        have HBel := Lib.hid hbel; clear hbel hown
        go_wp2_with (at_builtin; refine wpList_append_seen _ rfl (.tmp 30) (.tmp 31) _ rfl w1.heap.size 5 i0 _ 1 1 Try.underlying29 hi0 hz0 hz1 hz2 rfl (by omega) (.slice (some ⟨wr.heap.size, 0, none⟩) 1 1) 1 [.int .u8 (y : Int)] rfl (World.ownsRow_lit wr #[.int .u8 (y : Int)] 1 hsz (by simp only [maxLen]; omega) rfl) _ A5 j c5 _ rfl HSB.out (bv_oneCell _) (by simp only [maxLen]; omega) (by omega) (by simp only [World.size_alloc]; omega) ?_; intro v2 w2 hown2 hg2 hat2)
        go_roundw
        case rel =>
          refine ⟨j + 1, by omega, by go_num, ?_, (HBel.out.alloc hsz _).grown hg2 (by simp; omega) (fun i hi => by simp [Value.ownBlock] at hi; omega)⟩
          rw [ht.out, Nat.add_comm j 1]
          exact hown2
        case measure => simp [intOf]; omega
      · obtain rfl : m = j := by omega
        rw [List.take_of_length_le (by rw [HM.out]; exact Nat.le_refl _)] at hown
        obtain ⟨A5, c5, rfl, _⟩ := own_form hown
        have HSB := Lib.hid (Seen.of_own hown)
        have HBel := Lib.hid hbel; clear hbel hown
        go_wp2_with fail
        refine (rnumber_any A5 m c5 _ xs.reverse (by rw [List.length_reverse]; exact HM.out) h8 (fun x hx => HBy.out x (List.mem_reverse.1 hx)) _ HSB.out).mono ?_; rintro e w2 ⟨rfl, rfl⟩
        rw [big_reverse]
        go_wp2_with fail
        go_ret
        exact ⟨rfl, Whole.only HR1.out (Only.of_below HBel.out Nob) (fun h => h), HO1.out.trans (Only.of_below HBel.out _)⟩

end Go.Proofs.Ytplilajgncfieaa
