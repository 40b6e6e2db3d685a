/-
  The program's at and textAt. Conditions: a pool in memory, of at most a hundred thousand constants.
-/
import Derived.Test.YtmojclbejmnikaaPA
namespace Go.Proofs.Ytmojclbejmnikaa
open Go Go.RowKit
set_option maxRecDepth 100000

/-- The constant of a number, if there is one. -/
def atR (l : List Raw) (i : Int) : Option Raw := if i ≤ 0 then none else l[i.toNat]?
def atV (l : List Raw) (i : Int) : Value := match atR l i with | some r => ifc r | none => .nilIface
/-- The text of a number, if it has one. -/
def txM (l : List Raw) (i : Int) : Option ByteArray := match atR l i with | some r => if r.tag = 1 then some r.text else none | none => none
def opT (o : Option ByteArray) : ByteArray := o.getD ⟨#[]⟩

set_option maxHeartbeats 4000000 in
theorem at_any (l : List Raw) (A : Option Addr) (n c B : Nat) (i : Int) (hn : l.length = n) (hs : n ≤ 100000) (w : World) (hA : Seen w B 5 A n c (rv l)) :
    Calls Try.prog 83 #[.slice A n c, .int .i64 i] w fun e w' => e = .returned (atV l i) ∧ Below w.heap.size w w' := by
  obtain ⟨V, hV⟩ : ∃ V, atV l i = V := ⟨_, rfl⟩
  rw [hV]
  unfold atV atR at hV
  by_cases h0 : i ≤ 0
  · rw [if_pos h0] at hV
    simp only at hV
    subst hV
    have d0 : decide (i ≤ 0) = true := decide_eq_true h0
    clear h0 hA
    go_enter Try.func83, Try.ntmps83
    go_wp2_with fail
    go_ret
    exact ⟨rfl, Below.refl _ _⟩
  rw [if_neg h0] at hV
  obtain ⟨k, rfl⟩ : ∃ k : Nat, i = (k : Int) := ⟨i.toNat, by omega⟩
  have d0 : decide ((k : Int) ≤ 0) = false := decide_eq_false h0
  have d00 : decide (k = 0) = false := decide_eq_false (by omega)
  rw [Int.toNat_natCast] at hV
  by_cases hk : k < n
  · have hkl : k < l.length := by omega
    rw [List.getElem?_eq_getElem hkl] at hV
    simp only at hV
    have d1 : decide ((n : Int) ≤ (k : Int)) = false := decide_eq_false (by omega)
    have d2 : decide (n ≤ k) = false := decide_eq_false (by omega)
    obtain ⟨b, o, rfl, _, hc⟩ := hA.raw hkl hn
    obtain ⟨r, hr⟩ : ∃ r, l[k] = r := ⟨_, rfl⟩
    rw [hr] at hV hc
    have c0 := hc 0 _ rfl
    have c1 : w.cell? ⟨b, o + k * 5 + 1, none⟩ = some (.string r.text) := by rw [Nat.add_assoc]; exact hc 1 _ rfl
    have c2 : w.cell? ⟨b, o + k * 5 + 2, none⟩ = some (.int .u64 r.bits) := by rw [Nat.add_assoc]; exact hc 2 _ rfl
    have c3 : w.cell? ⟨b, o + k * 5 + 3, none⟩ = some (.int .i64 r.a) := by rw [Nat.add_assoc]; exact hc 3 _ rfl
    have c4 : w.cell? ⟨b, o + k * 5 + 4, none⟩ = some (.int .i64 r.b) := by rw [Nat.add_assoc]; exact hc 4 _ rfl
    rw [Nat.add_zero] at c0
    subst hV
    have H := Lib.hid (And.intro hr (And.intro h0 hs))
    clear hr hc h0 hs hA
    go_enter Try.func83, Try.ntmps83
    go_wp2_with fail
    refine (con_any r _).mono ?_
    rintro e w1 ⟨rfl, rfl⟩
    go_wp2_with fail
    go_ret
    exact ⟨rfl, (Below.refl _ _).alloc (Nat.le_refl _) _⟩
  · rw [List.getElem?_eq_none (by omega)] at hV
    simp only at hV
    subst hV
    have d1 : decide ((n : Int) ≤ (k : Int)) = true := decide_eq_true (by omega)
    have d2 : decide (n ≤ k) = true := decide_eq_true (by omega)
    have H := Lib.hid (And.intro hk (And.intro h0 hs))
    clear hk h0 hs hA
    go_enter Try.func83, Try.ntmps83
    go_wp2_with fail
    go_ret
    exact ⟨rfl, Below.refl _ _⟩
end Go.Proofs.Ytmojclbejmnikaa
