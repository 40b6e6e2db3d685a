/-
  The calls whose answers the document fixes: what they come to. No conditions.
-/
import Derived.Test.YtmojclbejmnikaaPS
import Derived.Test.YtmojclbejmnikaaYC
import Derived.Test.YtmojclbejmnikaaYH
namespace Go.Proofs.Ytmojclbejmnikaa
open Go Go.RowKit
set_option maxRecDepth 100000

def ea : ByteArray := ⟨#[97]⟩
def L5 : List Raw := [zr0, ⟨1, ea, 0, 0, 0⟩, ⟨7, ⟨#[]⟩, 0, 1, 0⟩, ⟨5, ⟨#[]⟩, 7, 0, 0⟩, zr0]
def L4 : List Raw := [zr0, ⟨1, ea, 0, 0, 0⟩, ⟨7, ⟨#[]⟩, 0, 1, 0⟩, ⟨5, ⟨#[]⟩, 7, 0, 0⟩]
def vx : Val := ⟨7, ea, 0, ⟨#[]⟩, ⟨#[]⟩, ⟨#[]⟩⟩
theorem fv1 : valueM L5 2 [] = (vx, 0) := by kernel_rfl
theorem fv2 : valueM L5 4 [] = (v0, 5) := by kernel_rfl
theorem fv3 : valueM L5 2 [8] = (v0, 9) := by kernel_rfl
theorem fh5 : hoP L5 L5 0 true = true := by kernel_rfl
theorem fh4 : hoP L4 L4 0 true = false := by kernel_rfl
def B5 : List Nat := [0, 5, 1, 0, 1, 97, 7, 0, 1, 5, 0, 0, 0, 0, 0, 0, 0, 7]
theorem fb5 : bytesM L5 = B5 := by kernel_rfl
theorem fb1 : bytesM [zr0] = [0, 1] := by kernel_rfl
theorem fu : unitsM [97] = some [97] := (units_iff [97] [97]).2 ⟨by decide, by decide⟩
theorem fo1 : oneM B5 2 = (⟨1, ea, 0, 0, 0⟩, 6, 0) := by
  have h := (one_cases B5 2 (t := 1) (a1 := 3) (e1 := 0) (by kernel_rfl)).1 (by decide)
  rw [h]
  rw [show num B5 3 0 2 = (1, 5, 0) by kernel_rfl]
  simp only
  rw [show nxt B5 5 0 ((1 : Nat) : Int) true = ([97], 6, 0) by kernel_rfl]
  simp only
  rw [show List.map UInt8.ofNat [97] = [97] by rfl, fu]
  rfl
theorem fo2 : oneM B5 6 = (⟨7, ⟨#[]⟩, 0, 1, 0⟩, 9, 0) := by
  rw [(one_cases B5 6 (t := 7) (a1 := 7) (e1 := 0) (by kernel_rfl)).2.2.2.1 (by decide), show num B5 7 0 2 = (1, 9, 0) by kernel_rfl]; rfl
theorem fo3 : oneM B5 9 = (⟨5, ⟨#[]⟩, 7, 0, 0⟩, 18, 0) := by
  rw [(one_cases B5 9 (t := 5) (a1 := 10) (e1 := 0) (by kernel_rfl)).2.2.1 (by decide), show num B5 10 0 8 = (7, 18, 0) by kernel_rfl]; rfl
theorem rd_step (bs : List Nat) (n f : Nat) (out : List Raw) (a : Nat) {r : Raw} {a' : Nat} {e' : Int} {o2 : List Raw} (h : oneM bs a = (r, a', e')) (hl : out.length < n) (ho : out ++ r :: (if formM r.tag = 56 then [zr0] else []) = o2) : rdLoop bs n (f + 1) out a 0 = rdLoop bs n f o2 a' e' := by
  rw [rdLoop, if_pos ⟨hl, rfl⟩, h, ← ho]
theorem fr0 : rdLoop B5 5 5 [zr0] 2 0 = (L5, 18, 0) := by
  rw [rd_step B5 5 4 [zr0] 2 fo1 (by decide) (o2 := [zr0, ⟨1, ea, 0, 0, 0⟩]) (by kernel_rfl),
    rd_step B5 5 3 _ 6 fo2 (by decide) (o2 := [zr0, ⟨1, ea, 0, 0, 0⟩, ⟨7, ⟨#[]⟩, 0, 1, 0⟩]) (by kernel_rfl),
    rd_step B5 5 2 _ 9 fo3 (by decide) (o2 := L5) (by kernel_rfl), rdLoop, if_neg (fun h => absurd h.1 (by decide))]
theorem fr : readM B5 = (some L5, 18, 0) := by
  rw [readM_end B5 (n := 5) (a0 := 2) (e0 := 0) (by kernel_rfl) fr0 (fun h => absurd h.1 (by decide)) (fin := 0) (by rfl)]
  rfl
end Go.Proofs.Ytmojclbejmnikaa
