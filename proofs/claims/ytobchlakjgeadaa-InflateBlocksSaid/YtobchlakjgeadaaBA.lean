/-
  The contract of written: a word's bits, as they stand in a row. Conditions: at most fifteen bits.
-/
import Derived.Test.YtobchlakjgeadaaQ
import Derived.Laws.RangeString
import Derived.Lib.OthersKept
import Derived.Deep.LoopGhost
namespace Go.Proofs.Ytobchlakjgeadaa
open Go.RowKit
set_option maxRecDepth 100000

/-- Block g is a text that is gone through, up to a place. -/
def IterAt (w : World) (g : Nat) (s : ByteArray) (k : Nat) : Prop := w.heap[g]? = some (.stringIter s k)
theorem IterAt.lt {w : World} {g : Nat} {s : ByteArray} {k : Nat} (h : IterAt w g s k) : g < w.heap.size := (Array.getElem?_eq_some_iff.1 h).1
theorem IterAt.only {w w' : World} {g : Nat} {s : ByteArray} {k : Nat} {S : Nat → Prop} (h : IterAt w g s k) (ho : Only S w w') (hg : ¬ S g) : IterAt w' g s k := (ho.block g h.lt hg).trans h
theorem IterAt.ne {w : World} {g g' : Nat} {s : ByteArray} {k : Nat} {t : TypeId} {cs : Array Value} (h : IterAt w g s k) (hw : Whole w g' t cs) : g ≠ g' := by
  rintro rfl
  unfold IterAt at h
  unfold Whole at hw
  rw [h] at hw
  cases hw

theorem IterAt.next {w : World} {g : Nat} {s : ByteArray} {k : Nat} (h : IterAt w g s k) (hk : k < s.size) (ha : (s[k]'hk).toNat < 128) (ty : TypeId) :
    ∃ w', (Instr.next (.pointer (some ⟨g, 0, none⟩)) true ty).run Try.prog w = .ok (.tuple #[.bool true, .int .i64 k, .int .i32 (s[k]'hk).toNat]) w' ∧ IterAt w' g s (k + 1) ∧ Only (fun i => i = g) w w' := by
  refine ⟨_, Lib.run_next_ascii_at (P := Try.prog) w g s k ty h hk ha, Lib.iterAt_heap w g s k _ h, rfl, rfl, rfl, by simp [World.iterAt], fun i _ hi => ?_⟩
  simp [World.iterAt, Ne.symm hi]

set_option maxHeartbeats 1000000 in
theorem written_any (l : List Bool) (n : Nat) (hn : l.length = n) (h15 : n ≤ 15) (w : World) : Calls Try.prog 46 #[.string (tx l)] w (GivesRow w 4 1 n (l.map .bool)) := by
  obtain ⟨i0, hi0, hz0, hz1, hz2⟩ := info_parts bool_info
  have HSZ : Hid ((tx l).size = n) := Lib.hid (by rw [tx_size, hn])
  have HN := Lib.hid hn; clear hn
  have HA := Lib.hid (tx_at l)
  obtain ⟨s, hs⟩ : ∃ s, tx l = s := ⟨_, rfl⟩
  have HT := Lib.hid hs
  rw [hs] at HSZ ⊢
  clear hs
  have HI0 : Hid (IterAt (w.iter s 0) w.heap.size s 0) := Lib.hid (World.iter_heap w s 0)
  have HB0 : Hid (Below w.heap.size w (w.iter s 0)) := Lib.hid ((Below.refl _ _).alloc (Nat.le_refl _) _)
  go_enter Try.func46, Try.ntmps46
  go_wp2
  go_loopg [3] n (fun j v wr => ∃ k : Nat, k ≤ n ∧ j = n - k ∧ wr.ownsRow w.heap.size 4 1 v k ((l.take k).map .bool) ∧ IterAt wr w.heap.size s k ∧ Below w.heap.size w wr)
  case atStart => exact ⟨0, by omega, rfl, World.ownsRow_nil _ _ _ _, HI0.out, HB0.out⟩
  case round =>
    obtain ⟨k, hk, rfl, hown, hit, hbel⟩ := hrel
    by_cases hlt : k < n
    · have hks : k < s.size := by rw [HSZ.out]; exact hlt
      have hkl : k < l.length := by rw [HN.out]; exact hlt
      have hv : (s[k].toNat) = if l[k] then 49 else 48 := by
        have h1 := HT.out
        subst h1
        rw [HA.out]; split <;> rfl
      have h128 : s[k].toNat < 128 := by rw [hv]; split <;> omega
      obtain ⟨w2, hnx, hit2, ho2⟩ := hit.next hks h128 0
      have E : Hid ((l.take (k + 1)).map Value.bool = (l.take k).map Value.bool ++ [.bool l[k]]) := Lib.hid (by rw [List.take_add_one, List.getElem?_eq_getElem hkl, List.map_append]; rfl)
      obtain ⟨A, c, rfl, _⟩ := own_form hown
      have hne : ∀ i, (Value.slice A k c).ownBlock = some i → i ≠ w.heap.size := fun i hi => by
        obtain ⟨_, cs, hw⟩ := own_whole hown hi
        exact (hit.ne hw).symm
      have hB2 := hbel.trans (ho2.below hbel.size (fun i hi => by omega))
      have hO2 := own_only hown ho2 (fun i hi => hne i hi)
      obtain ⟨x, hx⟩ : ∃ x, s[k].toNat = x := ⟨_, rfl⟩
      simp only [hx] at hnx
      rw [hx] at hv
      obtain ⟨b, hb⟩ : ∃ b, l[k] = b := ⟨_, rfl⟩
      rw [hb] at hv E
      have hbx : ((x : Int) == 49) = b := by subst hv; cases b <;> rfl
      have hbx' : (x == 49) = b := by subst hv; cases b <;> rfl
      have HSN : Hid (Seen (w2.alloc (.cells #[.bool b] 4)) (w2.heap.size + 1) 1 (some ⟨w2.heap.size, 0, none⟩) 1 1 [.bool b]) := Lib.hid (seen_one w2 4 (.bool b))
      have hBA : Below w2.heap.size w2 (w2.alloc (.cells #[.bool b] 4)) := (Below.refl _ _).alloc (Nat.le_refl _) _
      have HOA := Lib.hid (own_only hO2 (Only.of_below hBA Nob) (fun _ _ h => h))
      have HIA := Lib.hid (hit2.only (Only.of_below hBA Nob) (fun h => h))
      have HBA := Lib.hid (hB2.trans (hBA.mono hB2.size))
      have HNE := Lib.hid hne
      clear hown hit hbel hit2 ho2 hB2 hO2 hBA hne hv h128 hx hb hks
      go_wp2_with (at_builtin; refine wpList_append_seen _ rfl (.tmp 11) (.tmp 14) _ rfl w.heap.size 4 i0 _ 1 1 Try.underlying29 hi0 hz0 hz1 hz2 rfl (by omega) (.slice A k c) k ((l.take k).map .bool) rfl HOA.out _ _ 1 1 [.bool b] rfl HSN.out (by simp [Value.oneCell']) (by simp only [maxLen]; omega) (by omega) HBA.out.size ?_; intro v3 w3 hown3 hg3 hat3)
      have hO3 : Only (fun i => (Value.slice A k c).ownBlock = some i) _ w3 := (Only.refl _ _).grown hg3 (fun k hk _ => hk)
      have hit3 := HIA.out.only hO3 (fun e => HNE.out _ e rfl)
      have hB3 := HBA.out.grown hg3 HBA.out.size (fun k hk => (own_whole HOA.out hk).1)
      go_roundg (n - (k + 1))
      case measure => omega
      case rel => exact ⟨k + 1, by omega, rfl, by rw [E.out]; exact hown3, hit3, hB3⟩
    · obtain rfl : k = n := by omega
      have hnx := Lib.run_next_end_at (P := Try.prog) wr w.heap.size s k 0 hit (by rw [HSZ.out]; omega)
      obtain ⟨A, c, rfl, _⟩ := own_form hown
      have HO := Lib.hid hown; have HB := Lib.hid hbel
      clear hown hbel hit
      go_wp2_with fail
      go_ret
      refine ⟨_, rfl, ?_, HB.out⟩
      have := HO.out
      rwa [List.take_of_length_le (by rw [HN.out]; exact Nat.le_refl _)] at this
end Go.Proofs.Ytobchlakjgeadaa
