/-
  Contracts of crc: Add, Sum, Seal, and Open of too few bytes. Conditions: each theorem names the range of its arguments.
-/
import Derived.Test.YtdpdfnekokmgoaaT1
import Derived.Test.YtdpdfnekokmgoaaC1
namespace Go.Proofs.Ytdpdfnekokmgoaa
open Go.RowKit

theorem reg_snoc (r : Nat) (bs : List Nat) (k : Nat) (h : k < bs.length) : reg r (bs.take (k + 1)) = upd (reg r (bs.take k)) bs[k] := by
  rw [List.take_succ_eq_append_getElem h, reg_append]; rfl

theorem not_u32 (r : Nat) (h : r < 4294967296) : bits BinOp.xor IntKind.u32 IntKind.u32.max (r : Int) = ((flip32 r : Nat) : Int) := by
  rw [show IntKind.u32.max = ((4294967295 : Nat) : Int) from rfl, u32_xor_nat _ _ (by omega) h, flip32_xor r h, Nat.xor_comm]

theorem tab_index (r x : Nat) (hx : x < 256) : bits BinOp.xor IntKind.u8 ((r : Int) % 256) (x : Int) = (((r % 256) ^^^ x : Nat) : Int) := by
  rw [show ((r : Int) % 256) = ((r % 256 : Nat) : Int) by omega, u8_xor_nat _ _ (by omega) hx]
theorem tab_index_lt (r x : Nat) (hx : x < 256) : (r % 256) ^^^ x < 256 := Nat.xor_lt_two_pow (n := 8) (by omega) (by omega)
theorem tab_step (r i : Nat) (hr : r < 4294967296) (hi : i < 256) : bits BinOp.xor IntKind.u32 ((sts 8 i : Nat) : Int) ((r : Int) / 256) = ((sts 8 i ^^^ r / 256 : Nat) : Int) := by
  rw [show ((r : Int) / 256) = ((r / 256 : Nat) : Int) by omega, u32_xor_nat _ _ (sts_lt 8 i (by omega)) (by omega)]

theorem add_any (g : Nat) (s : Nat) (hs32 : s < 4294967296) (A : Option Addr) (n c B : Nat) (bs : List Nat) (hn : bs.length = n) (h256 : ∀ x ∈ bs, x < 256) (hn63 : n ≤ 9223372036854775807) (w : World)
    (hT : Whole w g 28 (tabTo 256)) (hs : Seen w B 1 A n c (bv bs)) :
    Calls Try.prog 12 #[.pointer (some ⟨g, 0, none⟩), .int .u32 s, .slice A n c] w fun e w' => e = .returned (.int .u32 (flip32 (reg (flip32 s) bs) : Nat)) ∧ w = w' := by
  have HS := Lib.hid hs; clear hs
  have HT := Lib.hid hT; clear hT
  have HN := Lib.hid hn; clear hn
  have H256 := Lib.hid h256; clear h256
  have hf : flip32 s < 4294967296 := by unfold flip32; omega
  go_enter Try.func12, Try.ntmps12
  go_wp2
  go_loop [8, 18] (fun x i => ∃ k : Nat, k ≤ n ∧ i = .int .i64 k ∧ x = .int .u32 (reg (flip32 s) (bs.take k) : Nat)) (fun _ i => n - (intOf i).toNat)
  case atStart => exact ⟨0, Nat.zero_le _, rfl, by rw [not_u32 s hs32]; rfl⟩
  case round =>
    obtain ⟨k, hk, rfl, rfl⟩ := hrel
    have hr : reg (flip32 s) (bs.take k) < 4294967296 := reg_lt _ _ hf (fun x hx => H256.out x (List.mem_of_mem_take hx))
    by_cases hlt : k < n
    · have hkl : k < bs.length := by rw [HN.out]; exact hlt
      have hsn := Lib.hid (reg_snoc (flip32 s) bs k hkl)
      obtain ⟨b, o, u, rfl, hb, hu, hcell⟩ := HS.out.at (k := k) hlt
      have hu' : u = .int .u8 (bs[k] : Nat) := by rw [bv_get _ _ hkl] at hu; exact (Option.some.inj hu).symm
      subst hu'
      have hx := H256.out _ (List.getElem_mem hkl)
      clear hu
      generalize reg (flip32 s) (bs.take k) = r at *
      generalize bs[k] = x at *
      have hix := tab_index_lt r x hx
      have ti := tab_index r x hx
      have ts := Lib.hid (tab_step r ((r % 256) ^^^ x) hr hix)
      have hc2 : w.cell? ⟨g, (r % 256) ^^^ x, none⟩ = some (.int .u32 (sts 8 ((r % 256) ^^^ x) : Nat)) := by
        rw [HT.out.cell, tabTo_get _ _ hix, if_pos hix]
      have hup : Hid (upd r x = sts 8 ((r % 256) ^^^ x) ^^^ (r / 256)) := rfl
      generalize (r % 256) ^^^ x = j at *
      generalize sts 8 j = v at *
      have hj0 : (0 : Int) ≤ j := by omega
      have hj1 : (j : Int) < 256 := by omega
      go_wp2
      go_round
      case rel => exact ⟨k + 1, by omega, by go_num, by rw [hsn.out, hup.out, ts.out]⟩
      case measure => simp [intOf]; omega
    · obtain rfl : n = k := by omega
      rw [List.take_of_length_le (by rw [HN.out]; exact Nat.le_refl _)] at hr ⊢
      go_wp2
      go_ret
      exact ⟨ret_int (not_u32 _ hr), rfl⟩

/-- A number is given, in new memory nothing that was there has changed. -/
def GivesNum (w : World) (k : IntKind) (x : Nat) (e : Ending) (w' : World) : Prop := e = .returned (.int k x) ∧ Below w.heap.size w w'

theorem tabZero : ∀ W, (zeroValue 28).run Try.prog W = .ok (.agg (tabTo 0)) W := by rw [← tabTo_zero]; exact (zero_of_info row28).1
theorem tabSize (k : Nat) : (Try.prog.info? 28).map (·.size) = some (tabTo k).size := by rw [tabTo_size]; exact size28
theorem tabSame (k l : Nat) : (tabTo k).size = (tabTo l).size := by rw [tabTo_size, tabTo_size]
theorem new1 (w : World) (cs : Array Value) : (w.alloc (.cells cs 28)).heap[w.heap.size]? = some (.cells cs 28 (0, 0)) := heap_alloc_new w _
theorem tab_made (w : World) : Whole ((w.alloc (.cells (tabTo 0) 28)).setRow w.heap.size (tabTo 256)) w.heap.size 28 (tabTo 256) := Whole.setRow (Whole.new w 28 (tabTo 0)) _
theorem tab_made_below {w0 w : World} (h : Below w0.heap.size w0 w) : Below w0.heap.size w0 ((w.alloc (.cells (tabTo 0) 28)).setRow w.heap.size (tabTo 256)) := below_setRow (h.alloc h.size _) _ h.size

theorem sum_any (A : Option Addr) (n c B : Nat) (bs : List Nat) (hn : bs.length = n) (h256 : ∀ x ∈ bs, x < 256) (hn63 : n ≤ 9223372036854775807) (w : World) (hs : Seen w B 1 A n c (bv bs)) (hB : B ≤ w.heap.size) :
    Calls Try.prog 9 #[.slice A n c] w (GivesNum w .u32 (crc bs)) := by
  have HS := Lib.hid hs; clear hs
  have HN := Lib.hid hn; clear hn
  have H256 := Lib.hid h256; clear h256
  have hz := tabZero
  go_enter Try.func9, Try.ntmps9
  go_wp2_with (first
    | (go_at_call 11; refine (table_any _).mono ?_; rintro e w1 ⟨rfl, hb1⟩)
    | (refine wpList_store_row rfl 28 (.tmp 3) (.tmp 4) rfl w1.heap.size (tabTo 256) rfl rfl 28 (tabTo 0) (new1 w1 _) (tabSize 256) (tabSame 0 256) (tabTo_one 256) ?_)
    | (go_at_call 12; refine (add_any w1.heap.size 0 (by omega) A n c B bs HN.out H256.out hn63 _ (tab_made w1) (HS.out.below ((tab_made_below hb1).mono hB))).mono ?_; rintro e w2 ⟨rfl, rfl⟩))
  go_ret
  exact ⟨rfl, tab_made_below hb1⟩

theorem add_nil (s : Nat) (hs32 : s < 4294967296) (A : Option Addr) (n c B : Nat) (bs : List Nat) (hn : bs.length = n) (h256 : ∀ x ∈ bs, x < 256) (hn63 : n ≤ 9223372036854775807) (w : World)
    (hs : Seen w B 1 A n c (bv bs)) (hB : B ≤ w.heap.size) :
    Calls Try.prog 12 #[.pointer none, .int .u32 s, .slice A n c] w (GivesNum w .u32 (flip32 (reg (flip32 s) bs))) := by
  have HS := Lib.hid hs; clear hs
  have HN := Lib.hid hn; clear hn
  have H256 := Lib.hid h256; clear h256
  have hf : flip32 s < 4294967296 := by unfold flip32; omega
  have hz := tabZero
  go_enter Try.func12, Try.ntmps12
  go_wp2_with (first
    | (go_at_call 11; refine (table_any _).mono ?_; rintro e w1 ⟨rfl, hb1⟩)
    | (refine wpList_store_row rfl 28 (.tmp 7) (.tmp 13) rfl w1.heap.size (tabTo 256) rfl rfl 28 (tabTo 0) (new1 w1 _) (tabSize 256) (tabSame 0 256) (tabTo_one 256) ?_))
  have HT := Lib.hid (tab_made w1)
  have HB1 := Lib.hid (tab_made_below hb1)
  generalize (w1.alloc (.cells (tabTo 0) 28)).setRow w1.heap.size (tabTo 256) = W at *
  have HSW := Lib.hid (HS.out.below (HB1.out.mono hB))
  generalize w1.heap.size = g at *
  clear hb1 hz
  go_loop [8, 18] (fun x i => ∃ k : Nat, k ≤ n ∧ i = .int .i64 k ∧ x = .int .u32 (reg (flip32 s) (bs.take k) : Nat)) (fun _ i => n - (intOf i).toNat)
  case atStart => exact ⟨0, Nat.zero_le _, rfl, by rw [not_u32 s hs32]; rfl⟩
  case round =>
    obtain ⟨k, hk, rfl, rfl⟩ := hrel
    have hr : reg (flip32 s) (bs.take k) < 4294967296 := reg_lt _ _ hf (fun x hx => H256.out x (List.mem_of_mem_take hx))
    by_cases hlt : k < n
    · have hkl : k < bs.length := by rw [HN.out]; exact hlt
      have hsn := Lib.hid (reg_snoc (flip32 s) bs k hkl)
      obtain ⟨b, o, u, rfl, hb, hu, hcell⟩ := HSW.out.at (k := k) hlt
      have hu' : u = .int .u8 (bs[k] : Nat) := by rw [bv_get _ _ hkl] at hu; exact (Option.some.inj hu).symm
      subst hu'
      have hx := H256.out _ (List.getElem_mem hkl)
      clear hu
      generalize reg (flip32 s) (bs.take k) = r at *
      generalize bs[k] = x at *
      have hix := tab_index_lt r x hx
      have ti := tab_index r x hx
      have ts := Lib.hid (tab_step r ((r % 256) ^^^ x) hr hix)
      have hc2 : W.cell? ⟨g, (r % 256) ^^^ x, none⟩ = some (.int .u32 (sts 8 ((r % 256) ^^^ x) : Nat)) := by
        rw [HT.out.cell, tabTo_get _ _ hix, if_pos hix]
      have hup : Hid (upd r x = sts 8 ((r % 256) ^^^ x) ^^^ (r / 256)) := rfl
      generalize (r % 256) ^^^ x = j at *
      generalize sts 8 j = v at *
      have hj0 : (0 : Int) ≤ j := by omega
      have hj1 : (j : Int) < 256 := by omega
      go_wp2
      go_round
      case rel => exact ⟨k + 1, by omega, by go_num, by rw [hsn.out, hup.out, ts.out]⟩
      case measure => simp [intOf]; omega
    · obtain rfl : n = k := by omega
      rw [List.take_of_length_le (by rw [HN.out]; exact Nat.le_refl _)] at hr ⊢
      go_wp2
      go_ret
      exact ⟨ret_int (not_u32 _ hr), HB1.out⟩

theorem seal_any (A : Option Addr) (c B : Nat) (bs : List Nat) (h256 : ∀ x ∈ bs, x < 256) (hn : bs.length ≤ 1000000) (w : World) (hs : Seen w B 1 A bs.length c (bv bs)) (hB : B ≤ w.heap.size) :
    Calls Try.prog 14 #[.slice A bs.length c] w (GivesBlock w (bs ++ leb (crc bs) 4)) := by
  have HS := Lib.hid hs; clear hs
  have H256 := Lib.hid h256; clear h256
  have hc32 := crc_lt bs
  have wc : IntKind.u64.wrap ((crc bs : Nat) : Int) = (crc bs : Nat) := IntWalk.u64_in _ (by omega)
  go_enter Try.func14, Try.ntmps14
  go_wp2_with (first
    | (go_at_call 9; refine (sum_any A _ c B bs rfl H256.out (by omega) _ HS.out hB).mono ?_; rintro e w1 ⟨rfl, hb1⟩)
    | (go_at_call 26; refine (little_go A c B bs _ (HS.out.below (hb1.mono hB)) (Nat.le_trans hB hb1.size) hn (crc bs) 4 (by omega) 4 (.inl ⟨.inr (.inr (.inl rfl)), rfl⟩)).mono ?_; rintro e w2 ⟨g, rfl, hW2, hg2, hb2⟩))
  go_ret
  exact ⟨g, by simp, hW2, Nat.le_trans hb1.size hg2, hb1.trans (hb2.mono hb1.size)⟩

theorem open_end (A : Option Addr) (n c : Nat) (h : n < 4) (w : World) : Calls Try.prog 13 #[.slice A n c] w fun e w' => e = .returned (.tuple #[.slice none 0 0, .int .i64 6]) ∧ w = w' := by
  go_enter Try.func13, Try.ntmps13
  go_wp2
  go_ret2
  exact ⟨rfl, rfl⟩
end Go.Proofs.Ytdpdfnekokmgoaa
