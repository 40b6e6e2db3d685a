/-
  The document: the bits of bytes, the bytes of bits. Conditions: each theorem names the range of its arguments.
-/
import Derived.Test.YtdpdfnekokmgoaaC1
import Derived.Deep.LoopGhost
namespace Go.Proofs.Ytdpdfnekokmgoaa
open Go.RowKit

theorem unpack_snoc (l : List Nat) (x : Nat) : unpack (l ++ [x]) = unpack l ++ bitsOf x 8 := by simp [unpack]

theorem refOf_any (A : Option Addr) (c B : Nat) (bs : List Nat) (n : Nat) (hn : bs.length = n) (w : World) (hs : Seen w B 1 A n c (bs.map fun x : Nat => Value.int .u8 x)) (hB : B ≤ w.heap.size) (hl : n ≤ 1000) (h256 : ∀ x ∈ bs, x < 256) :
    Calls Try.prog 19 #[.slice A n c] w (GivesRow w 4 1 (8 * n) ((unpack bs).map .bool)) := by
  obtain ⟨i0, hi0, hz0, hz1, hz2⟩ := info_parts bool_info
  have HS := Lib.hid hs; clear hs
  have HN := Lib.hid hn; clear hn
  have H256 := Lib.hid h256; clear h256
  go_enter Try.func19, Try.ntmps19
  go_wp2
  go_loopw [3, 8] (fun s i wr => ∃ k : Nat, k ≤ n ∧ i = .int .i64 k ∧ wr.ownsRow w.heap.size 4 1 s (8 * k) ((unpack (bs.take k)).map .bool) ∧ Below w.heap.size w wr) (fun _ i _ => n - (intOf i).toNat)
  case atStart => exact ⟨0, Nat.zero_le _, rfl, World.ownsRow_nil _ _ _ _, Below.refl _ _⟩
  case round =>
    obtain ⟨k, hk, rfl, hown, hbel⟩ := hrel
    by_cases hlt : k < n
    · have hkl : k < bs.length := by rw [HN.out]; exact hlt
      obtain ⟨b, o, u, rfl, hb, hu, hcell⟩ := (HS.out.below (hbel.mono hB)).at (k := k) hlt
      have hu' : u = .int .u8 (bs[k] : Nat) := by simpa [hkl] using hu.symm
      subst hu'
      have hx := H256.out _ (List.getElem_mem hkl)
      have hsn : Hid (unpack (bs.take (k + 1)) = unpack (bs.take k) ++ bitsOf bs[k] 8) := by
        show _ = _
        rw [List.take_succ_eq_append_getElem hkl, unpack_snoc]
      clear hu
      generalize bs[k] = x at *
      have wx : IntKind.u32.wrap (x : Int) = x := IntWalk.u32_in _ (by omega)
      have HOwn := Lib.hid hown; clear hown
      have HBel := Lib.hid hbel; clear hbel
      go_wp2_with fail
      refine (bits_any x 8 (by omega) (by omega) _).mono ?_; rintro e w1 ⟨v1, rfl, ho1, hb1⟩
      obtain ⟨A1, c1, rfl, hc1, hs1⟩ := own_seen ho1
      have HS1 := Lib.hid hs1
      have HB1 := Lib.hid (HBel.out.trans (hb1.mono HBel.out.size))
      have HO1 := Lib.hid (own_only HOwn.out (Only.of_below hb1 Nob) (fun _ _ h => h))
      have HLT := Lib.hid HOwn.out.lt
      have hsz := HB1.out.size
      clear ho1 hs1 hb1
      go_wp2_with (at_builtin; refine wpList_append_seen _ rfl (.tmp 12) (.tmp 15) _ rfl w.heap.size 4 i0 _ 1 1 Try.underlying41 hi0 hz0 hz1 hz2 rfl (by omega) u3 (8 * k) _ rfl HO1.out _ A1 8 c1 _ rfl HS1.out (by intro u hu; obtain ⟨_, _, rfl⟩ := List.mem_map.1 hu; rfl) (by simp only [maxLen]; omega) (by omega) hsz ?_; intro v2 w2 hown2 hg2 hat2)
      go_roundw
      case rel =>
        refine ⟨k + 1, by omega, by go_num, ?_, HB1.out.grown hg2 hsz (fun i hi => (HLT.out i hi).1)⟩
        rw [hsn.out, List.map_append, show 8 * (k + 1) = 8 * k + 8 by omega]
        exact hown2
      case measure => simp [intOf]; omega
    · obtain rfl : n = k := by omega
      rw [List.take_of_length_le (by rw [HN.out]; exact Nat.le_refl _)] at hown
      go_wp2_with fail
      go_ret
      exact ⟨_, rfl, hown, hbel⟩

/-- The document's bytes of bits. -/
theorem refBytes_any (A : Option Addr) (n c B : Nat) (l : List Bool) (hl : l.length = n) (hn : n ≤ 1000000) (w : World) (hs : Seen w B 1 A n c (l.map .bool)) (hB : B ≤ w.heap.size) :
    Calls Try.prog 29 #[.slice A n c] w (GivesRow w 5 1 ((n + 7) / 8) ((pack l).map fun x : Nat => Value.int .u8 x)) := by
  obtain ⟨i0, hi0, hz0, hz1, hz2⟩ := info_parts byte_info
  have hnc := hs.2.1
  have HS := Lib.hid hs; clear hs
  have HL := Lib.hid hl; clear hl
  go_enter Try.func29, Try.ntmps29
  go_wp2
  go_loopw [3, 4] (fun s i wr => ∃ k : Nat, 8 * k ≤ n + 7 ∧ i = .int .i64 (8 * k : Nat) ∧ wr.ownsRow w.heap.size 5 1 s k (((pack l).take k).map fun x : Nat => Value.int .u8 x) ∧ Below w.heap.size w wr) (fun _ i _ => n + 8 - (intOf i).toNat)
  case atStart => exact ⟨0, by omega, rfl, World.ownsRow_nil _ _ _ _, Below.refl _ _⟩
  case round =>
    obtain ⟨k, hk, rfl, hown, hbel⟩ := hrel
    obtain ⟨a, ha⟩ : ∃ a, 8 * k = a := ⟨_, rfl⟩
    rw [ha]
    have HA := Lib.hid ha; clear ha
    have hsz := hbel.size
    have hlt1 := hown.lt
    have HLT := Lib.hid hlt1; clear hlt1
    by_cases hlt : a < n
    · have hca : (c = a) = False := by simp; omega
      have hS2 := HS.out.below (hbel.mono hB)
      have hk2 : k < (l.length + 7) / 8 := by have := HA.out; have := HL.out; omega
      have hk3 : k ≤ 1000000 := by omega
      have htake0 : (pack l).take (k + 1) = (pack l).take k ++ [num ((l.drop a).take 8)] := by
        have h1 := pack_get l k hk2
        rw [HA.out] at h1
        rw [List.getElem?_eq_getElem (by simpa using hk2)] at h1
        rw [List.take_succ_eq_append_getElem (by simpa using hk2), Option.some.inj h1]
      have hnum : num ((l.drop a).take 8) < 256 := by
        have h1 := num_lt ((l.drop a).take 8)
        have h2 : ((l.drop a).take 8).length ≤ 8 := by simp; omega
        have := Nat.pow_le_pow_right (n := 2) (by omega) h2
        omega
      have htake := Lib.hid htake0; clear htake0
      by_cases hm : n < a + 8
      · have hch : num ((l.drop a).take (n - a)) = num ((l.drop a).take 8) := by
          rw [List.take_of_length_le (by simp [HL.out]), List.take_of_length_le (by simp [HL.out]; omega)]
        generalize num ((l.drop a).take 8) = N at *
        go_wp2_with fail
        refine (number_any _ (n - a) _ ((l.drop a).take (n - a)) (by rw [List.length_take, List.length_drop, HL.out]; omega) (by omega) _ _ (by have h3 := hS2.cut (q := a) (n := (n - a)) (by omega); rw [List.map_take, List.map_drop]; exact h3)).mono ?_; rintro e w' ⟨rfl, rfl⟩
        rw [hch]
        go_wp2_with (at_builtin; refine wpList_append_seen _ rfl (.tmp 11) (.tmp 22) _ rfl w.heap.size 5 i0 _ 1 1 Try.underlying22 hi0 hz0 hz1 hz2 rfl (by omega) u3 k _ rfl (hown.alloc _) _ _ 1 1 _ rfl (seen_one _ _ _) (by simp [Value.oneCell']) (by simp only [maxLen]; omega) (by omega) (by simp only [World.size_alloc]; omega) ?_; intro v1 w1 hown1 hg1 hat1)
        go_roundw
        case rel =>
          refine ⟨k + 1, by have := HA.out; omega, by have := HA.out; go_num, ?_, (hbel.alloc hsz _).grown hg1 (by simp; omega) (fun i hi => (HLT.out i hi).1)⟩
          rw [htake.out, List.map_append]
          exact hown1
        case measure => simp [intOf]; omega
      · generalize hN : num ((l.drop a).take 8) = N at *
        go_wp2_with fail
        refine (number_any _ 8 _ ((l.drop a).take 8) (by rw [List.length_take, List.length_drop, HL.out]; omega) (by omega) _ _ (by have h3 := hS2.cut (q := a) (n := 8) (by omega); rw [List.map_take, List.map_drop]; exact h3)).mono ?_; rintro e w' ⟨rfl, rfl⟩
        rw [hN]
        go_wp2_with (at_builtin; refine wpList_append_seen _ rfl (.tmp 11) (.tmp 22) _ rfl w.heap.size 5 i0 _ 1 1 Try.underlying22 hi0 hz0 hz1 hz2 rfl (by omega) u3 k _ rfl (hown.alloc _) _ _ 1 1 _ rfl (seen_one _ _ _) (by simp [Value.oneCell']) (by simp only [maxLen]; omega) (by omega) (by simp only [World.size_alloc]; omega) ?_; intro v1 w1 hown1 hg1 hat1)
        go_roundw
        case rel =>
          refine ⟨k + 1, by have := HA.out; omega, by have := HA.out; go_num, ?_, (hbel.alloc hsz _).grown hg1 (by simp; omega) (fun i hi => (HLT.out i hi).1)⟩
          rw [htake.out, List.map_append]
          exact hown1
        case measure => simp [intOf]; omega
    · go_wp2_with fail
      go_ret
      have hkk : k = (n + 7) / 8 := by have := HA.out; omega
      subst hkk
      rw [List.take_of_length_le (by simp [HL.out])] at hown
      exact ⟨_, rfl, hown, hbel⟩

end Go.Proofs.Ytdpdfnekokmgoaa
