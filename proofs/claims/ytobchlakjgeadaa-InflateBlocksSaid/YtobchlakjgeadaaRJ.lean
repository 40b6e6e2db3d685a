/-
  What the document's dynamic needs: a stronger condition on the way, one length of lengths. Conditions: each theorem names its own.
-/
import Derived.Test.YtobchlakjgeadaaRH
import Derived.Test.YtobchlakjgeadaaTC
namespace Go.Proofs.Ytobchlakjgeadaa
open Go.RowKit
set_option maxRecDepth 100000

/-- What is held may be made stronger on the way. -/
theorem wpAnyT_more {P : Program} {md : Region.Mode} {ops : Array Oper} {Q : Exit → Act → World → Prop} {S S' : World → Prop} {n g : Nat} {T : Act → World → Prop} (hS : ∀ w, S' w → S w) :
    ∀ (fuel : Nat) (listed : Array Bool) (a : Act) (w : World), wpAnyT P md ops Q S' n g T fuel listed a w → wpAnyT P md ops Q S n g T fuel listed a w
  | 0, _, _, _, h => h
  | fuel + 1, _, _, _, h => ⟨h.1, fun i hi => wpOp_mono (fun a' w' h' => ⟨hS _ h'.1, wpAnyT_more hS fuel _ a' w' h'.2⟩) (h.2 i hi)⟩

/-- Three numbers of 5, 5 and 4 bits are one of 14. -/
theorem bits_three {L : List Bool} {a v1 v2 v3 : Nat} (h1 : bitsAt L a 5 = .ok v1) (h2 : bitsAt L (a + 5) 5 = .ok v2) (h3 : bitsAt L (a + 5 + 5) 4 = .ok v3) (l1 : v1 < 32) (l2 : v2 < 32) :
    ∃ v, bitsAt L a 14 = .ok v ∧ v % 32 = v1 ∧ v / 32 % 32 = v2 ∧ v / 1024 = v3 := by
  have e1 := bits_two h1 h2
  have e2 : bitsAt L (a + (5 + 5)) 4 = .ok v3 := by rw [← Nat.add_assoc]; exact h3
  have e3 := bits_two e1 e2
  refine ⟨_, e3, ?_, ?_, ?_⟩
  · show (v1 + 32 * v2 + 1024 * v3) % 32 = v1
    omega
  · show (v1 + 32 * v2 + 1024 * v3) / 32 % 32 = v2
    omega
  · show (v1 + 32 * v2 + 1024 * v3) / 1024 = v3
    omega
theorem bits_three_er1 {L : List Bool} {a : Nat} (h1 : bitsAt L a 5 = .er 6) : bitsAt L a 14 = .er 6 := bits_two_er1 (p := 5) (q := 9) h1
theorem bits_three_er2 {L : List Bool} {a : Nat} (h2 : bitsAt L (a + 5) 5 = .er 6) : bitsAt L a 14 = .er 6 := bits_two_er1 (p := 10) (q := 4) (bits_two_er2 (p := 5) (q := 5) h2)
theorem bits_three_er3 {L : List Bool} {a : Nat} (h3 : bitsAt L (a + 5 + 5) 4 = .er 6) : bitsAt L a 14 = .er 6 := bits_two_er2 (p := 10) (q := 4) (by rw [show a + 10 = a + 5 + 5 by omega]; exact h3)

/-- What the document's dynamic answers. -/
def RDyn (c : Rx) (a : Nat) (o : List Nat) (ov : Value) (w : World) (r : Ending) (w' : World) : Prop :=
  ∃ u v, r = .returned (.tuple #[u, v]) ∧ Fq c.B0 w w' ∧
    ((∃ (a1 ns nd : Nat) (l : List Int) (A1 A2 : Option Addr) (k1 k2 : Nat), 257 ≤ ns ∧ ns ≤ 286 ∧ 1 ≤ nd ∧ nd ≤ 30 ∧ l.length = ns + nd ∧ (∀ most p, dynR c.L most a p = dynTail ns c.L most p (.ok (a1, l))) ∧ u = .slice A1 ns k1 ∧ v = .slice A2 nd k2 ∧
        Seen w' w'.heap.size 1 A1 ns k1 (iv (l.take ns)) ∧ Seen w' w'.heap.size 1 A2 nd k2 (iv (l.drop ns)) ∧ RSt c w' ov a1 o 0) ∨
      (∃ er a' : Nat, 0 < er ∧ er < 100 ∧ (∀ most p, dynR c.L most a p = .er er) ∧ RSt c w' ov a' o er))

/-- Within: k lengths of lengths have been asked for. -/
def RDIn (c : Rx) (a nl : Nat) (o : List Nat) (ov : Value) (w : World) (v : Value) (k e : Nat) (wr : World) : Prop :=
  (∃ l : List Int, l.length = 19 ∧ wr.ownsRow w.heap.size 3 1 v 19 (iv l) ∧ (e = 0 → l = llF c.L a k)) ∧ Fq c.B0 w wr ∧ (∃ b, RSt c wr ov b o e ∧ (e = 0 → b = a + 3 * k)) ∧ (e = 0 ∨ (e = 6 ∧ c.L.length < a + 3 * nl))
end Go.Proofs.Ytobchlakjgeadaa
