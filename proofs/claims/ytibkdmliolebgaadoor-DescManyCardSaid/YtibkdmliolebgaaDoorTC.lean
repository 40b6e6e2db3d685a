/-
  The library's IndexRune, IndexAny, ContainsAny for a few plain signs, at any text. Conditions: two to eight signs below 128; a text of less than four thousand million bytes.
-/
import Derived.Test.YtibkdmliolebgaaDoorTB
namespace Go.Proofs.YtibkdmliolebgaaDoor
open Go Go.RowKit
set_option maxRecDepth 100000

theorem has_byte (l : List UInt8) (u : UInt8) : decide (0 ≤ Lib.indexByte l u) = l.contains u := by
  induction l with
  | nil => rfl
  | cons a l ih =>
    have hg := Lib.indexByte_ge l u
    rw [List.contains_cons, ← ih, show Lib.indexByte (a :: l) u = if a == u then 0 else if Lib.indexByte l u == -1 then -1 else Lib.indexByte l u + 1 from rfl]
    by_cases h : a = u
    · subst h; simp
    · have h1 : (a == u) = false := by rw [beq_eq_false_iff_ne]; exact h
      have h2 : (u == a) = false := by rw [beq_eq_false_iff_ne]; exact fun e => h e.symm
      rw [h1, h2]
      by_cases hm : Lib.indexByte l u = -1
      · rw [hm]; rfl
      · have h3 : (Lib.indexByte l u == -1) = false := by rw [beq_eq_false_iff_ne]; exact hm
        rw [h3]
        simp; omega

theorem irune_low (C : List UInt8) (x : Nat) (h : x < 128) (w : World) : Calls Tryd.prog 49 #[.string (tx C), .int .i32 x] w fun e w' => (∃ v : Int, e = .returned (.int .i64 v) ∧ decide (0 ≤ v) = C.contains (UInt8.ofNat x)) ∧ w' = w :=
  (Any.strings_IndexRune_ascii { Tryd.lays150 with } (tx C) (x : Int) w (by omega) (by omega)).mono fun _ _ ⟨h1, h2⟩ => ⟨⟨_, h1, by rw [tx_list]; exact has_byte C _⟩, h2⟩

set_option maxHeartbeats 4000000 in
theorem irune_none (C : List UInt8) (hC : ∀ b ∈ C, b.toNat < 128) (n : Nat) (hn : C.length = n) (hn2 : n < 1000) (r : Nat) (h : Sign r) (h128 : 128 ≤ r) (w : World) : Calls Tryd.prog 49 #[.string (tx C), .int .i32 r] w (Gives w (.int .i64 (-1))) := by
  by_cases hE : r = 65533
  · have d0 : decide ((0 : Int) ≤ (r : Int)) = true := by rw [decide_eq_true_iff]; omega
    have d1 : decide ((r : Int) < 128) = false := by rw [decide_eq_false_iff_not]; omega
    subst hE
    have hb : (tx C).size = n := by rw [tx_size, hn]
    have hn := Lib.hid (fun (k : Nat) (hk : k < n) => (show ∃ x : Nat, x < 128 ∧ ∀ ty, (Instr.next (.pointer (some ⟨w.heap.size, 0, none⟩)) true ty).run Tryd.prog (w.iter (tx C) k) = .ok (.tuple #[.bool true, .int .i64 k, .int .i32 x]) (w.iter (tx C) (k + 1)) by
      have hks : k < (tx C).size := by omega
      have hlt : ((tx C)[k]'hks).toNat < 128 := by rw [tx_at]; exact hC _ (List.getElem_mem _)
      exact ⟨_, hlt, fun ty => run_next_ascii (P := Tryd.prog) w (tx C) k ty hks hlt⟩))
    have he := Lib.hid (fun ty => run_next_end (P := Tryd.prog) w (tx C) n ty (by omega))
    clear hC
    generalize tx C = D at *
    go_enter Tryd.func49, Tryd.ntmps49
    go_wp2
    go_loopg [5, 6] n (fun j _ _ wr => ∃ k : Nat, k ≤ n ∧ j = n - k ∧ wr = w.iter D k)
    case atStart => exact ⟨0, by omega, rfl, rfl⟩
    case round =>
      obtain ⟨k, hk, rfl, rfl⟩ := hrel
      by_cases hlt : k < n
      · obtain ⟨x, hx, hnx⟩ := hn.out k hlt
        have hx2 : ((x : Int) == 65533) = false := by rw [beq_eq_false_iff_ne]; omega
        go_wp2
        go_roundg (n - (k + 1))
        case measure => omega
        case rel => exact ⟨k + 1, by omega, rfl, rfl⟩
      · obtain rfl : k = n := by omega
        have hee := he.out
        go_wp2
        go_ret
        exact ⟨rfl, (Below.refl _ _).alloc (Nat.le_refl _) _⟩
  · exact irune_big C hC n hn hn2 r h h128 hE w

theorem get_gN (l : List UInt8) (k : Nat) : ((tx l).get! k).toNat = gN l k := by
  show (l.toArray[k]!).toNat = (l.getD k 0).toNat
  by_cases h : k < l.length
  · rw [List.getD_eq_getElem?_getD, List.getElem?_eq_getElem h, getElem!_pos l.toArray k (by simpa using h)]; simp
  · have h2 : l.length ≤ k := by omega
    rw [List.getD_eq_getElem?_getD, List.getElem?_eq_none h2, getElem!_neg l.toArray k (by simpa using h2)]; rfl
theorem gN_lt (l : List UInt8) (k : Nat) : gN l k < 256 := UInt8.toNat_lt _
theorem dec_low (l : List UInt8) (i : Nat) (hi : i < l.length) (h : gN l i < 128) : Utf8.decode (tx l) i = (gN l i, 1) := by
  have hs : i < (tx l).size := by rw [tx_size]; exact hi
  have hx : ((tx l)[i]'hs).toNat = gN l i := by rw [tx_at, gN_at l i hi]
  rw [decode_ascii (tx l) i hs (by omega), hx]
theorem dec_high (l : List UInt8) (i : Nat) (hi : i < l.length) (h : 128 ≤ gN l i) :
    128 ≤ (Utf8.decode (tx l) i).1 ∧ Sign (Utf8.decode (tx l) i).1 ∧ 1 ≤ (Utf8.decode (tx l) i).2 ∧ i + (Utf8.decode (tx l) i).2 ≤ l.length ∧ ∀ j, i ≤ j → j < i + (Utf8.decode (tx l) i).2 → 128 ≤ gN l j := by
  have h4 := Lib.decode_at (tx l) i
  rw [get_gN, get_gN, get_gN, get_gN, tx_size] at h4
  have l0 := gN_lt l i
  generalize hb0 : gN l i = b0 at *
  generalize hb1 : gN l (i + 1) = b1 at *
  generalize hb2 : gN l (i + 2) = b2 at *
  generalize hb3 : gN l (i + 3) = b3 at *
  have key : 128 ≤ (Lib.decodeN (l.length - i) b0 b1 b2 b3).1 ∧ Sign (Lib.decodeN (l.length - i) b0 b1 b2 b3).1 ∧ 1 ≤ (Lib.decodeN (l.length - i) b0 b1 b2 b3).2 ∧ (Lib.decodeN (l.length - i) b0 b1 b2 b3).2 ≤ l.length - i ∧
      (Lib.decodeN (l.length - i) b0 b1 b2 b3).2 ≤ 4 ∧ (2 ≤ (Lib.decodeN (l.length - i) b0 b1 b2 b3).2 → 128 ≤ b1) ∧ (3 ≤ (Lib.decodeN (l.length - i) b0 b1 b2 b3).2 → 128 ≤ b2) ∧ (4 ≤ (Lib.decodeN (l.length - i) b0 b1 b2 b3).2 → 128 ≤ b3) := by
    unfold Lib.decodeN Sign
    repeat' split
    all_goals (simp only; omega)
  rw [h4]
  obtain ⟨k1, k2, k3, k4, k5, k6, k7, k8⟩ := key
  refine ⟨k1, k2, k3, by omega, fun j h1 h2 => ?_⟩
  have hj : j = i ∨ j = i + 1 ∨ j = i + 2 ∨ j = i + 3 := by omega
  rcases hj with rfl | rfl | rfl | rfl
  · omega
  · rw [hb1]; exact k6 (by omega)
  · rw [hb2]; exact k7 (by omega)
  · rw [hb3]; exact k8 (by omega)
theorem dec_next (l : List UInt8) (i : Nat) (hi : i < l.length) : 1 ≤ (Utf8.decode (tx l) i).2 ∧ i + (Utf8.decode (tx l) i).2 ≤ l.length := by
  by_cases h : gN l i < 128
  · rw [dec_low l i hi h]; exact ⟨Nat.le_refl _, hi⟩
  · have := dec_high l i hi (by omega); exact ⟨this.2.2.1, this.2.2.2.1⟩

/-- Is a byte none of these? -/
def okC (C : List UInt8) (x : Nat) : Bool := !C.contains (UInt8.ofNat x)
theorem okC_at (l C : List UInt8) (k : Nat) (hk : k < l.length) : okC C (gN l k) = !C.contains l[k] := by
  rw [okC, gN_at l k hk, UInt8.ofNat_toNat]
theorem woM_yes {l C : List UInt8} (h : ∀ j, j < l.length → okC C (gN l j) = true) : woM l C = true := by
  rw [woM, List.all_eq_true]
  intro x hx
  obtain ⟨k, hk, rfl⟩ := List.getElem_of_mem hx
  rw [← okC_at l C k hk]; exact h k hk
theorem woM_no {l C : List UInt8} {k : Nat} (hk : k < l.length) (h : okC C (gN l k) = false) : woM l C = false := by
  rw [woM, List.all_eq_false]
  exact ⟨l[k], List.getElem_mem hk, by rw [← okC_at l C k hk, h]; simp⟩
theorem okC_high {C : List UInt8} (hC : ∀ b ∈ C, b.toNat < 128) {x : Nat} (h : 128 ≤ x) (h2 : x < 256) : okC C x = true := by
  rw [okC, Bool.not_eq_true', ← Bool.not_eq_true, List.contains_iff_mem]
  intro hm
  have := hC _ hm
  rw [UInt8.toNat_ofNat'] at this; omega

/-- What tells whether there is something. -/
def TellsIdx (w : World) (b : Bool) (e : Ending) (w' : World) : Prop := ∃ v : Int, e = .returned (.int .i64 v) ∧ decide (0 ≤ v) = b ∧ Below w.heap.size w w'

set_option maxHeartbeats 4000000 in
theorem iany_short (C : List UInt8) (hC : ∀ b ∈ C, b.toNat < 128) (c : Nat) (hc : C.length = c) (hc2 : 2 ≤ c) (hc3 : c < 1000) (l : List UInt8) (n : Nat) (hn : l.length = n) (h8 : n ≤ 8) (w : World) :
    Calls Tryd.prog 37 #[.string (tx l), .string (tx C)] w (TellsIdx w (!woM l C)) := by
  have CS := Lib.hid (fun W => Any.strings_shouldUseASCIISet (P := Tryd.prog) { Tryd.lays150 with } (n : Int) W)
  have hcs : (tx C).size = c := by rw [tx_size, hc]
  have hns : (tx l).size = n := by rw [tx_size, hn]
  have hce : (tx C).toList.isEmpty = false := by rw [ba_empty, hcs, decide_eq_false_iff_not]; omega
  have I1 := Lib.hid (irune_low C)
  have I2 := Lib.hid (irune_none C hC c hc hc3)
  have h8z : decide ((8 : Int) < (n : Int)) = false := decide_eq_false (by omega)
  have hc1 : ((c : Int) == 1) = false := by rw [beq_eq_false_iff_ne]; omega
  have HN : Hid (∀ k, k < n → 1 ≤ (Utf8.decode (tx l) k).2 ∧ k + (Utf8.decode (tx l) k).2 ≤ n) := Lib.hid (fun k hk => hn ▸ dec_next l k (by omega))
  have HL := Lib.hid (fun (k : Nat) (hk : k < n) => dec_low l k (by omega))
  have HH := Lib.hid (fun (k : Nat) (hk : k < n) => dec_high l k (by omega))
  have OH := Lib.hid (fun (x : Nat) (h : 128 ≤ x) (h2 : x < 256) => okC_high hC h h2)
  have YES := Lib.hid (fun (h : ∀ j, j < n → okC C (gN l j) = true) => woM_yes (C := C) (l := l) (fun j hj => h j (by omega)))
  have NO := Lib.hid (fun (k : Nat) (hk : k < n) (h : okC C (gN l k) = false) => woM_no (l := l) (C := C) (k := k) (by omega) h)
  obtain ⟨r, hr⟩ : ∃ r, (!woM l C) = r := ⟨_, rfl⟩
  rw [hr]
  have HR := Lib.hid hr
  clear hr hC hc hn
  generalize tx C = B at *
  generalize tx l = s at *
  go_enter Tryd.func37, Tryd.ntmps37
  go_wp2_with (go_at_call 50; refine (CS.out _).mono ?_; rintro e w' ⟨rfl, hw⟩; rw [hw, h8z])
  go_loopg [9, 10] n (fun j _ _ wr => ∃ k : Nat, k ≤ n ∧ j = n - k ∧ wr.heap[w.heap.size]? = some (.stringIter s k) ∧ Below w.heap.size w wr ∧ ∀ j, j < k → okC C (gN l j) = true)
  case atStart => exact ⟨0, by omega, rfl, World.iter_heap w s 0, (Below.refl _ _).alloc (Nat.le_refl _) _, fun j hj => by omega⟩
  case round =>
    obtain ⟨k, hk, rfl, hit, hbl, hal⟩ := hrel
    have HBL := Lib.hid hbl
    clear hbl
    by_cases hlt : k < n
    · have hks : k < s.size := by omega
      have hnx := fun ty => Lib.run_next_any_at (P := Tryd.prog) wr w.heap.size s k ty hit hks
      obtain ⟨d, hd⟩ : ∃ d, Utf8.decode s k = d := ⟨_, rfl⟩
      rw [hd] at hnx
      have hdn := HN.out k hlt
      rw [hd] at hdn
      have HDN := Lib.hid hdn
      have HIT := Lib.hid (Lib.iterAt_heap wr w.heap.size s k (k + d.2) hit)
      have HB2 := Lib.hid (Lib.below_iterAt HBL.out (Nat.le_refl _) s (k + d.2))
      clear hdn
      generalize wr.iterAt w.heap.size s (k + d.2) = W1 at hnx HIT HB2
      by_cases hx : gN l k < 128
      · have hdl := HL.out k hlt hx
        rw [hd] at hdl
        obtain rfl := hdl
        simp only at hnx HDN HIT
        cases ho : okC C (gN l k) with
        | true =>
          have HNX : Hid (∀ j, j < k + 1 → okC C (gN l j) = true) := Lib.hid (fun j hj => by
            by_cases hjk : j < k
            · exact hal j hjk
            · obtain rfl : j = k := by omega
              exact ho)
          have IX := Lib.hid (fun W => I1.out (gN l k) hx W)
          have hoc : okC C (gN l k) = !C.contains (UInt8.ofNat (gN l k)) := rfl
          rw [ho] at hoc
          have hoc2 : C.contains (UInt8.ofNat (gN l k)) = false := by simpa using hoc.symm
          rw [hoc2] at IX
          clear ho hal hit hoc hoc2
          generalize gN l k = x at hnx IX hx
          go_wp2_with (go_at_call 49; refine (IX.out _).mono ?_; rintro e w' ⟨⟨v, rfl, hv⟩, rfl⟩)
          go_roundg (n - (k + 1))
          case measure => omega
          case rel => exact ⟨k + 1, by omega, rfl, HIT.out, HB2.out, HNX.out⟩
        | false =>
          have hvm := NO.out k hlt ho
          have IX := Lib.hid (fun W => I1.out (gN l k) hx W)
          have hoc : okC C (gN l k) = !C.contains (UInt8.ofNat (gN l k)) := rfl
          rw [ho] at hoc
          have hoc2 : C.contains (UInt8.ofNat (gN l k)) = true := by simpa using hoc.symm
          rw [hoc2] at IX
          have HV := Lib.hid hvm
          clear ho hal hit hvm hoc hoc2
          generalize gN l k = x at hnx IX hx
          go_wp2_with (go_at_call 49; refine (IX.out _).mono ?_; rintro e w' ⟨⟨v, rfl, hv⟩, rfl⟩)
          go_ret
          refine ⟨_, rfl, ?_, HB2.out⟩
          rw [← HR.out, HV.out]
          simp
      · have hh := HH.out k hlt (by omega)
        rw [hd] at hh
        obtain ⟨x1, x2, x3, x4, x5⟩ := hh
        have HNX : Hid (∀ j, j < k + d.2 → okC C (gN l j) = true) := Lib.hid (fun j hj => by
          by_cases hjk : j < k
          · exact hal j hjk
          · exact OH.out _ (x5 j (by omega) (by omega)) (gN_lt l j))
        have IX := Lib.hid (fun W => I2.out d.1 x2 x1 W)
        have HX3 := Lib.hid x3
        have HX4 := Lib.hid x4
        clear x1 x2 x3 x4 x5 hal hit hd hx
        obtain ⟨x, m⟩ := d
        simp only at hnx HDN HIT IX HX3 HX4 HNX
        go_wp2_with (go_at_call 49; refine (IX.out _).mono ?_; rintro e w' ⟨rfl, b1⟩)
        have HBW := Lib.hid (bel_after HB2.out (Nat.le_refl _) b1)
        have hlt1 : w.heap.size < W1.heap.size := (Array.getElem?_eq_some_iff.1 HIT.out).1
        go_roundg (n - (k + m))
        case measure => have h1 := HX3.out; have h2 := HDN.out; omega
        case rel => exact ⟨k + m, by have h1 := HX4.out; have h2 := HDN.out; omega, rfl, (b1.block _ hlt1).trans HIT.out, HBW.out, HNX.out⟩
    · obtain rfl : k = n := by omega
      have hv := YES.out hal
      have hnx := fun ty => Lib.run_next_end_at (P := Tryd.prog) wr w.heap.size s k ty hit (by omega)
      have HV := Lib.hid hv
      clear hal hit hv
      go_wp2
      go_ret
      refine ⟨_, rfl, ?_, HBL.out⟩
      rw [← HR.out, HV.out]
      rfl

theorem any_woM (l C : List UInt8) : decide (0 ≤ Lib.indexAny l C) = !woM l C := by
  induction l with
  | nil => rfl
  | cons b l ih =>
    rw [Lib.indexAny, woM, List.all_cons]
    have hge := Lib.indexAny_ge C l
    cases hb : C.contains b with
    | true => simp
    | false =>
      have e : (List.all l fun x => !C.contains x) = woM l C := rfl
      rw [Bool.not_false, Bool.true_and, e, ← ih]
      by_cases hm : Lib.indexAny l C = -1
      · rw [hm]; rfl
      · have : (Lib.indexAny l C == -1) = false := by rw [beq_eq_false_iff_ne]; exact hm
        rw [this]
        simp; omega

set_option maxHeartbeats 2000000 in
theorem iany_any (C : List UInt8) (hC : ∀ b ∈ C, b.toNat < 128) (c : Nat) (hc : C.length = c) (hc2 : 2 ≤ c) (hc3 : c < 1000) (l : List UInt8) (hs : l.length < 4294967281) (w : World) : Calls Tryd.prog 37 #[.string (tx l), .string (tx C)] w (TellsIdx w (!woM l C)) := by
  by_cases h8 : l.length ≤ 8
  · exact iany_short C hC c hc hc2 hc3 l l.length rfl h8 w
  · have hz : (Tryd.prog.info? 51).map (fun i => (i.zero, i.size)) = some (some (.agg (Array.replicate 256 (.bool false))), 256) := by kernel_rfl
    refine (Any.strings_IndexAny_long (P := Tryd.prog) { Tryd.lays150 with } (zero_of_info hz).1 (zero_of_info hz).2 (tx l) (tx C) w (by rw [tx_size]; omega) (by rw [tx_size]; omega) (by rw [tx_size]; omega) (by rw [tx_size]; omega) ?_).mono ?_
    · intro j b hb
      rw [tx_list] at hb
      exact hC b (List.mem_of_getElem? hb)
    · rintro e w' ⟨rfl, rfl⟩
      refine ⟨_, rfl, ?_, ((Below.refl _ _).alloc (Nat.le_refl _) _).alloc (by simp) _⟩
      rw [tx_list, tx_list, any_woM]

theorem cany_any (C : List UInt8) (hC : ∀ b ∈ C, b.toNat < 128) (c : Nat) (hc : C.length = c) (hc2 : 2 ≤ c) (hc3 : c < 1000) (l : List UInt8) (hs : l.length < 4294967281) (w : World) : Calls Tryd.prog 29 #[.string (tx l), .string (tx C)] w (Gives w (.bool (!woM l C))) := by
  have I := Lib.hid (fun W => iany_any C hC c hc hc2 hc3 l hs W)
  generalize tx C = B at *
  generalize tx l = s at *
  go_enter Tryd.func29, Tryd.ntmps29
  go_wp2_with (go_at_call 37; refine (I.out _).mono ?_; rintro e w' ⟨v, rfl, hv, b1⟩)
  go_ret
  exact ⟨by rw [← hv]; rfl, b1⟩
end Go.Proofs.YtibkdmliolebgaaDoor
