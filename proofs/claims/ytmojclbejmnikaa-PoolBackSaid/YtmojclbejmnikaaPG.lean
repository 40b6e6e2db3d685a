/-
  The library's Contains and Index of numbers. Conditions: a slice of at most a hundred thousand numbers.
-/
import Derived.Test.YtmojclbejmnikaaPF
namespace Go.Proofs.Ytmojclbejmnikaa
open Go Go.RowKit
set_option maxRecDepth 100000

def iv (l : List Int) : List Value := l.map fun x => Value.int .i64 x
/-- Where a number comes first, from a place on; -1 if nowhere. -/
def ixF (x : Int) : List Int → Nat → Int
  | [], _ => -1
  | y :: r, k => if x = y then k else ixF x r (k + 1)
theorem ixF_ge (x : Int) : ∀ (l : List Int) (k : Nat), decide ((0 : Int) ≤ ixF x l k) = l.contains x
  | [], _ => rfl
  | y :: r, k => by
    unfold ixF
    by_cases h : x = y
    · rw [if_pos h]; subst h; simp
    · rw [if_neg h, ixF_ge x r (k + 1)]; simp [h]
theorem ixF_step (x : Int) (l : List Int) (k : Nat) (hk : k < l.length) : ixF x (l.drop k) k = if x = l[k] then (k : Int) else ixF x (l.drop (k + 1)) (k + 1) := by
  rw [List.drop_eq_getElem_cons hk]; rfl

set_option maxHeartbeats 4000000 in
theorem index_any (l : List Int) (A : Option Addr) (n c B : Nat) (x : Int) (hn : l.length = n) (hs : n ≤ 100000) (w : World) (hA : Seen w B 1 A n c (iv l)) :
    Calls Try.prog 54 #[.slice A n c, .int .i64 x] w (Rets w (.int .i64 (ixF x l 0))) := by
  have HA := Lib.hid hA
  obtain ⟨R, hR⟩ : ∃ R, ixF x l 0 = R := ⟨_, rfl⟩
  rw [hR]
  have HR := Lib.hid hR
  clear hA hR
  go_enter Try.func54, Try.ntmps54
  go_wp2
  go_loopg [8] n (fun j v wr => ∃ k : Nat, k ≤ n ∧ j = n - k ∧ v = .int .i64 k ∧ wr = w ∧ ixF x (l.drop k) k = R)
  case atStart => exact ⟨0, by omega, rfl, rfl, rfl, by rw [List.drop_zero]; exact HR.out⟩
  case round =>
    obtain ⟨k, hk, rfl, rfl, rfl, hix⟩ := hrel
    have HX := Lib.hid hix
    clear hix
    by_cases hlt : k < n
    · have hkl : k < l.length := by omega
      have d0 : decide ((k : Int) < (n : Int)) = true := by rw [decide_eq_true_iff]; omega
      have st := Lib.hid (ixF_step x l k hkl)
      obtain ⟨bb, oo, u, rfl, hbb, hu, hc⟩ := HA.out.at hlt
      obtain ⟨y, hy⟩ : ∃ y, l[k] = y := ⟨_, rfl⟩
      have hu2 : u = .int .i64 y := by
        rw [iv, List.getElem?_map, List.getElem?_eq_getElem hkl, hy] at hu; exact (Option.some.inj hu).symm
      subst hu2
      clear hu
      by_cases g : x = y
      · have d1 : (x == y) = true := by rw [beq_iff_eq]; exact g
        have HG := Lib.hid g
        have HY := Lib.hid hy
        clear g hy
        go_wp2_with fail
        go_ret
        refine ⟨?_, rfl⟩
        rw [← HX.out, st.out, if_pos (by rw [HG.out, HY.out])]; rfl
      · have d1 : (x == y) = false := by rw [beq_eq_false_iff_ne]; exact g
        have HG := Lib.hid g
        have HY := Lib.hid hy
        clear g hy
        go_wp2_with fail
        go_roundg (n - (k + 1))
        case measure => omega
        case rel => exact ⟨k + 1, by omega, rfl, by go_num, rfl, by rw [← HX.out, st.out, if_neg (by rw [HY.out]; exact HG.out)]⟩
    · have d0 : decide ((k : Int) < (n : Int)) = false := by rw [decide_eq_false_iff_not]; omega
      have hr : R = -1 := by rw [← HX.out, List.drop_of_length_le (by omega)]; rfl
      have HR2 := Lib.hid hr
      clear hr
      go_wp2_with fail
      go_ret
      exact ⟨by rw [HR2.out]; rfl, rfl⟩
set_option maxHeartbeats 4000000 in
theorem contains_any (l : List Int) (A : Option Addr) (n c B : Nat) (x : Int) (hn : l.length = n) (hs : n ≤ 100000) (w : World) (hA : Seen w B 1 A n c (iv l)) :
    Calls Try.prog 40 #[.slice A n c, .int .i64 x] w (Rets w (.bool (l.contains x))) := by
  have hd := ixF_ge x l 0
  have IX := Lib.hid (index_any l A n c B x hn hs w hA)
  generalize ixF x l 0 = i at hd IX
  generalize l.contains x = b at hd ⊢
  clear hA
  go_enter Try.func40, Try.ntmps40
  go_wp2_with fail
  refine IX.out.mono ?_
  rintro e w1 ⟨rfl, rfl⟩
  go_wp2_with fail
  go_ret
  exact ⟨rfl, rfl⟩
end Go.Proofs.Ytmojclbejmnikaa
