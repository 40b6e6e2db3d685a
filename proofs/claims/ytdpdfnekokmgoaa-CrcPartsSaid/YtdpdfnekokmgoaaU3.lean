/-
  The document: Hits; texts of bytes are alike just if the bytes are. Conditions: each theorem names the range of its arguments.
-/
import Derived.Test.YtdpdfnekokmgoaaU2
import Derived.Deep.RegionWith
import Derived.Lib.Strings
namespace Go.Proofs.Ytdpdfnekokmgoaa
open Go.RowKit

theorem strOf_inj {a b : List Nat} (ha : ∀ x ∈ a, x < 256) (hb : ∀ x ∈ b, x < 256) (h : strOf a = strOf b) : a = b := by
  unfold strOf at h
  have h1 := congrArg (fun s : ByteArray => s.data.toList.map UInt8.toNat) h
  simp only [List.map_map] at h1
  have h2 : ∀ l : List Nat, (∀ x ∈ l, x < 256) → l.map (UInt8.toNat ∘ fun n => UInt8.ofNat n) = l := by
    intro l hl
    induction l with
    | nil => rfl
    | cons x l ih =>
      rw [List.map_cons, ih (fun y hy => hl y (by simp [hy]))]
      congr 1
      have := hl x (by simp)
      simp; omega
  rw [h2 a ha, h2 b hb] at h1
  exact h1

theorem strOf_beq {a b : List Nat} (ha : ∀ x ∈ a, x < 256) (hb : ∀ x ∈ b, x < 256) : ((strOf a).toList == (strOf b).toList) = decide (a = b) := by
  rw [Lib.toList_data, Lib.toList_data]
  by_cases h : a = b
  · subst h; simp
  · have h2 : (strOf a).data.toList ≠ (strOf b).data.toList := fun e => h (strOf_inj ha hb (Go.WideShapes.bytes_inj e))
    rw [decide_eq_false h]
    exact beq_eq_false_iff_ne.2 h2

def GivesBool (w : World) (b : Bool) (e : Ending) (w' : World) : Prop := e = .returned (.bool b) ∧ Below w.heap.size w w'

set_option maxHeartbeats 1000000 in
theorem hits_any (A : Option Addr) (c B : Nat) (bs : List Nat) (n : Nat) (hn : bs.length = n) (h256 : ∀ x ∈ bs, x < 256) (hl : n ≤ 1000) (at' : Int) (h0 : -9223372036854775808 ≤ at') (h1 : at' ≤ 9223372036854775807) (pat : Nat) (hp : pat < 4294967296)
    (w : World) (hs : Seen w B 1 A n c (bv bs)) (hB : B ≤ w.heap.size) :
    Calls Try.prog 17 #[.slice A n c, .int .i64 at', .int .u32 pat] w (GivesBool w (decide (burst bs at' pat ≠ bs))) := by
  have cv0 := conv_seen (w := w.drew) (B := B) (A := A) (n := n) (c := c) (bs := bs) hs
  have HS := Lib.hid hs; clear hs
  have H256 := Lib.hid h256
  have HN := Lib.hid hn; clear hn
  have hbl := Lib.hid (burst_lt bs at' pat)
  have hne := strOf_beq hbl.out H256.out
  have e0 : decide (burst bs at' pat ≠ bs) = !decide (burst bs at' pat = bs) := by simp
  rw [e0]
  generalize decide (burst bs at' pat = bs) = bb at *
  clear h256 e0
  go_enter Try.func17, Try.ntmps17
  go_wp2_with fail
  go_region_with (go_at_call 18; refine (refBurst_any A c B bs n HN.out H256.out hl at' h0 h1 pat hp w.drew (by exact HS.out) (by exact hB)).mono ?_; rintro e w1 ⟨v1, rfl, ho1, hb1⟩; obtain ⟨A1, c1, rfl, hc1, hs1⟩ := own_seen ho1; have cv1 := conv_seen hs1; have HB1 : Hid (Below w.heap.size w w1) := Lib.hid ⟨hb1.os, hb1.tape, hb1.output, hb1.size, hb1.block⟩; have cv2 := conv_seen (HS.out.below (HB1.out.mono hB)); clear hs1 ho1 hb1 hc1)
  all_goals
    go_wp2_with fail
    go_ret
    exact ⟨rfl, HB1.out⟩
end Go.Proofs.Ytdpdfnekokmgoaa
