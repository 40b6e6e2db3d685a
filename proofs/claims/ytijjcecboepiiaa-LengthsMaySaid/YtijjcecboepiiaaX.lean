/-
  The document: the bits of bytes. Conditions: each theorem names the range of its arguments.
-/
import Derived.Test.YtijjcecboepiiaaF
import Derived.Deep.LoopGhost
namespace Go.Proofs.Ytijjcecboepiiaa
open Go.RowKit

theorem unpack_snoc (l : List Nat) (x : Nat) : unpack (l ++ [x]) = unpack l ++ bitsOf x 8 := by simp [unpack]

theorem refOf_any (A : Option Addr) (c B : Nat) (bs : List Nat) (n : Nat) (hn : bs.length = n) (w : World) (hs : Seen w B 1 A n c (bs.map fun x : Nat => Value.int .u8 x)) (hB : B ≤ w.heap.size) (hl : n ≤ 1000) (h256 : ∀ x ∈ bs, x < 256) :
    Calls Try.prog 27 #[.slice A n c] w (GivesRow w 4 1 (8 * n) ((unpack bs).map .bool)) := by
  obtain ⟨i0, hi0, hz0, hz1, hz2⟩ := info_parts bool_info
  have HS := Lib.hid hs; clear hs
  have HN := Lib.hid hn; clear hn
  have H256 := Lib.hid h256; clear h256
  go_enter Try.func27, Try.ntmps27
  go_wp2
  go_loopw [3, 8] (fun s i wr => ∃ k : Nat, k ≤ n ∧ i = .int .i64 k ∧ wr.ownsRow w.heap.size 4 1 s (8 * k) ((unpack (bs.take k)).map .bool) ∧ Below w.heap.size w wr) (fun _ i _ => n - (intOf i).toNat)
  case atStart => exact ⟨0, Nat.zero_le _, rfl, World.ownsRow_nil _ _ _ _, Below.refl _ _⟩
  case round =>
    obtain ⟨k, hk, rfl, hown, hbel⟩ := hrel
    by_cases hlt : k < n
    · have hkl : k < bs.length := by rw [HN.out]; exact hlt
      obtain ⟨b, o, u, rfl, hb, hu, hcell⟩ := (HS.out.below (hbel.mono hB)).at (k := k) hlt
      have hu' : u = .int .u8 (bs[k] : Nat) := by simpa [hkl] using hu.symm
      subst hu'
      have hx := H256.out _ (List.getElem_mem hkl)
      have hsn : Hid (unpack (bs.take (k + 1)) = unpack (bs.take k) ++ bitsOf bs[k] 8) := by
        show _ = _
        rw [List.take_succ_eq_append_getElem hkl, unpack_snoc]
      clear hu
      generalize bs[k] = x at *
      have wx : IntKind.u32.wrap (x : Int) = x := IntWalk.u32_in _ (by omega)
      have HOwn := Lib.hid hown; clear hown
      have HBel := Lib.hid hbel; clear hbel
      go_wp2_with fail
      refine (bits_any x 8 (by omega) (by omega) _).mono ?_; rintro e w1 ⟨v1, rfl, ho1, hb1⟩
      obtain ⟨A1, c1, rfl, hc1, hs1⟩ := own_seen ho1
      have HS1 := Lib.hid hs1
      have HB1 := Lib.hid (HBel.out.trans (hb1.mono HBel.out.size))
      have HO1 := Lib.hid (own_only HOwn.out (Only.of_below hb1 Nob) (fun _ _ h => h))
      have HLT := Lib.hid HOwn.out.lt
      have hsz := HB1.out.size
      clear ho1 hs1 hb1
      go_wp2_with (at_builtin; refine wpList_append_seen _ rfl (.tmp 12) (.tmp 15) _ rfl w.heap.size 4 i0 _ 1 1 Try.underlying54 hi0 hz0 hz1 hz2 rfl (by omega) u3 (8 * k) _ rfl HO1.out _ A1 8 c1 _ rfl HS1.out (by intro u hu; obtain ⟨_, _, rfl⟩ := List.mem_map.1 hu; rfl) (by simp only [maxLen]; omega) (by omega) hsz ?_; intro v2 w2 hown2 hg2 hat2)
      go_roundw
      case rel =>
        refine ⟨k + 1, by omega, by go_num, ?_, HB1.out.grown hg2 hsz (fun i hi => (HLT.out i hi).1)⟩
        rw [hsn.out, List.map_append, show 8 * (k + 1) = 8 * k + 8 by omega]
        exact hown2
      case measure => simp [intOf]; omega
    · obtain rfl : n = k := by omega
      rw [List.take_of_length_le (by rw [HN.out]; exact Nat.le_refl _)] at hown
      go_wp2_with fail
      go_ret
      exact ⟨_, rfl, hown, hbel⟩


end Go.Proofs.Ytijjcecboepiiaa
