/-
  The walks of MatchFinds and MatchBack: they answer true, and change nothing that was there. Conditions: the slice is read as told (Seen).
-/
import Derived.Test.YthlgceeldnhhbaaY
import Derived.Test.YthlgceeldnhhbaaH
import Derived.Test.YthlgceeldnhhbaaF
import Derived.Test.YthlgceeldnhhbaaO
namespace Go.Proofs.Ythlgceeldnhhbaa
open Go.RowKit
set_option maxRecDepth 100000

theorem finds_far (A : Option Addr) (n cp : Nat) (x : Int) (h : 400 < n) (w : World) : Calls Try.prog 4 #[.slice A n cp, .int .i64 x] w (Gives w (.bool true)) := by
  have d1 : decide (400 < (n : Int)) = true := decide_eq_true (by omega)
  go_enter Try.func4, Try.ntmps4
  go_wp2_with fail
  refine (fixed_any w).mono ?_; rintro e w1 ⟨rfl, hb1⟩; have B1 := Lib.hid hb1; clear hb1
  go_wp2_with fail
  go_ret
  exact ⟨rfl, B1.out⟩

set_option maxHeartbeats 1000000 in
theorem finds_near (A : Option Addr) (n cp : Nat) (x : Int) (hn : n ≤ 400) (bs : List Nat) (hb : bs.length = n) (w : World) (hs : Seen w w.heap.size 1 A n cp (bx bs)) : Calls Try.prog 4 #[.slice A n cp, .int .i64 x] w (Gives w (.bool true)) := by
  have d1 : decide (400 < (n : Int)) = false := decide_eq_false (by omega)
  have C1 := Lib.hid (fun W (hB : Below w.heap.size w W) => find_any A n cp w.heap.size bs hb (by omega) x W (hs.below hB) hB.size)
  have C2 := Lib.hid (fun W (hB : Below w.heap.size w W) => rfind_any A n cp w.heap.size bs hb (by omega) x W (hs.below hB) hB.size)
  obtain ⟨T, hT⟩ : ∃ T, findT bs x = T := ⟨_, rfl⟩
  rw [hT] at C1 C2
  obtain ⟨tl, tm, td⟩ := T
  simp only [tokV] at C1 C2
  clear hT hs hb
  go_enter Try.func4, Try.ntmps4
  go_wp2_with fail
  refine (fixed_any w).mono ?_; rintro e w1 ⟨rfl, hb1⟩; have B1 := Lib.hid hb1; clear hb1
  go_wp2_with fail
  refine (C1.out _ B1.out).mono ?_; rintro e w2 ⟨rfl, hb2⟩; have B2 := Lib.hid (B1.out.trans (hb2.mono B1.out.size)); clear hb2
  go_wp2_with fail
  refine (C2.out _ B2.out).mono ?_; rintro e w3 ⟨rfl, hb3⟩; have B3 := Lib.hid (B2.out.trans (hb3.mono B2.out.size)); clear hb3
  go_wp2_with fail
  go_ret
  exact ⟨by simp, B3.out⟩

theorem finds_law (A : Option Addr) (n cp : Nat) (_ : n ≤ 9223372036854775807) (x : Int) (_ : (Lit.int .i64 x).wf = true) (w : World)
    (hp : ∃ bs : List Nat, bs.length = n ∧ (∀ y ∈ bs, y < 256) ∧ Seen w w.heap.size 1 A n cp (bv bs)) :
    Calls Try.prog 4 #[.slice A n cp, .int .i64 x] w fun e w' => e = .returned (.bool true) ∧ Below w.heap.size w w' := by
  obtain ⟨bs, h1, h2, h3⟩ := hp
  by_cases hf : 400 < n
  · exact finds_far A n cp x hf w
  · exact finds_near A n cp x (by omega) bs h1 w h3

theorem back_far (A : Option Addr) (n cp : Nat) (h : 3000 < n) (w : World) : Calls Try.prog 5 #[.slice A n cp] w (Gives w (.bool true)) := by
  have d1 : decide (3000 < (n : Int)) = true := decide_eq_true (by omega)
  go_enter Try.func5, Try.ntmps5
  go_wp2_with fail
  refine (fixed_any w).mono ?_; rintro e w1 ⟨rfl, hb1⟩; have B1 := Lib.hid hb1; clear hb1
  go_wp2_with fail
  go_ret
  exact ⟨rfl, B1.out⟩

set_option maxHeartbeats 1000000 in
theorem back_near (A : Option Addr) (n cp : Nat) (hn : n ≤ 3000) (bs : List Nat) (hb : bs.length = n) (h256 : ∀ y ∈ bs, y < 256) (w : World) (hs : Seen w w.heap.size 1 A n cp (bx bs)) : Calls Try.prog 5 #[.slice A n cp] w (Gives w (.bool true)) := by
  have d1 : decide (3000 < (n : Int)) = false := decide_eq_false (by omega)
  have C1 := Lib.hid (fun W (hB : Below w.heap.size w W) => tokens_any A n cp bs hb (by omega) h256 W ((hs.below hB).more hB.size))
  have HS := Lib.hid hs
  have HB := Lib.hid hb
  clear hs hb h256
  go_enter Try.func5, Try.ntmps5
  go_wp2_with fail
  refine (fixed_any w).mono ?_; rintro e w1 ⟨rfl, hb1⟩; have B1 := Lib.hid hb1; clear hb1
  go_wp2_with fail
  refine (C1.out _ B1.out).mono ?_; rintro e w2 ⟨l, v, rfl, hown, hexp, hll, hb2⟩
  have B2 := Lib.hid (B1.out.trans (hb2.mono B1.out.size))
  obtain ⟨Al, cl, rfl, _, hsl⟩ := own_seen hown
  have C2 := Lib.hid (rexpand_any Al l.length cl w2.heap.size l (by omega) n (by omega) (by omega) w2 hsl (Nat.le_refl _))
  have HX := Lib.hid hexp
  obtain ⟨m, hm⟩ : ∃ m, l.length = m := ⟨_, rfl⟩
  rw [hm] at C2 hll ⊢
  have dl : decide ((m : Int) ≤ n) = true := decide_eq_true (by omega)
  have dl' : decide (m ≤ n) = true := decide_eq_true (by omega)
  clear hown hsl hb2 hexp hm
  go_wp2_with fail
  refine C2.out.mono ?_
  rintro e w3 (⟨o, v3, h1, rfl, hown3, hb3⟩ | ⟨er, h0, _, h1, _⟩)
  · rw [HX.out] at h1
    injection h1 with _ h1
    subst h1
    rw [HB.out] at hown3
    obtain ⟨A3, c3, rfl, _, hs3⟩ := own_seen hown3
    have hB3 := B2.out.trans (hb3.mono B2.out.size)
    have cv1 : (convert 24 9 (.slice A3 n c3)).run Try.prog w3 = .ok (.string (strOf bs)) w3 := conv_seen hs3
    have cv2 : (convert 24 9 (.slice A n cp)).run Try.prog w3 = .ok (.string (strOf bs)) w3 := conv_seen (HS.out.below hB3)
    have B3 := Lib.hid hB3
    obtain ⟨T, hT⟩ : ∃ T, strOf bs = T := ⟨_, rfl⟩
    rw [hT] at cv1 cv2
    clear hown3 hs3 hb3 hB3 hT
    go_wp2_with fail
    go_ret
    exact ⟨by simp, B3.out⟩
  · rw [HX.out] at h1
    injection h1 with h1 _
    exact absurd h1.symm h0

theorem back_law (A : Option Addr) (n cp : Nat) (_ : n ≤ 9223372036854775807) (w : World)
    (hp : ∃ bs : List Nat, bs.length = n ∧ (∀ y ∈ bs, y < 256) ∧ Seen w w.heap.size 1 A n cp (bv bs)) :
    Calls Try.prog 5 #[.slice A n cp] w fun e w' => e = .returned (.bool true) ∧ Below w.heap.size w w' := by
  obtain ⟨bs, h1, h2, h3⟩ := hp
  by_cases hf : 3000 < n
  · exact back_far A n cp hf w
  · exact back_near A n cp (by omega) bs h1 h2 w h3
end Go.Proofs.Ythlgceeldnhhbaa
