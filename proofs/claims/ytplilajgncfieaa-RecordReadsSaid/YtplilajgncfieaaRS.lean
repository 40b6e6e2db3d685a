/-
  The document's readers of records: numbers, want, method. Conditions: the document's cursor stands as told, over at most a million bytes; numbers of 2 or 4 bytes.
-/
import Derived.Test.YtplilajgncfieaaRM
import Derived.Test.YtplilajgncfieaaE2
namespace Go.Proofs.Ytplilajgncfieaa
open Go.RowKit
set_option maxRecDepth 100000

theorem method_any (x : Int) (w : World) : Calls Try.prog 39 #[.int .i64 x] w fun e w' => e = .returned (.bool (x == 0 || x == 8)) ∧ w = w' := by
  rcases zero_or x with ⟨h1, h2⟩ | ⟨h1, h1', h2⟩ | ⟨h1, h1', h2⟩ <;> rw [h2]
  all_goals
    clear h2
    go_enter Try.func39, Try.ntmps39
    go_wp2_with fail
    go_ret
    exact ⟨rfl, rfl⟩
/-- What a reading did to the document's cursor. -/
def RRes (w : World) (g : Nat) (A : Option Addr) (c : Nat) (bs : List Nat) (r : Nat × Int) (w' : World) : Prop := RCur w' g A c bs r.1 r.2 ∧ Only (fun k => k = g) w w'
theorem want_any (g : Nat) (A : Option Addr) (c : Nat) (bs : List Nat) (a : Nat) (err : Int) (h : Bool) (w : World) (hw : RCur w g A c bs a err) :
    Calls Try.prog 38 #[.pointer (some ⟨g, 0, none⟩), .bool h] w fun e w' => e = .returned (.tuple #[]) ∧ RRes w g A c bs (a, if h then err else failed err 2) w' := by
  have c2 := hw.c2
  have f2 := Whole.frozen hw 2
  by_cases he : err = 0
  · subst he
    cases h
    · have hr : (a, if (false = true) then (0 : Int) else failed 0 2) = (a, 2) := by simp [failed]
      rw [hr]
      have H := Lib.hid (hw.set2 2)
      clear hw hr
      go_enter Try.func38, Try.ntmps38
      go_wp2_with fail
      first | go_end0 | go_returns
      exact ⟨rfl, H.out, only_set _ _ _ _⟩
    · have HW := Lib.hid hw
      clear hw
      go_enter Try.func38, Try.ntmps38
      go_wp2_with fail
      first | go_end0 | go_returns
      exact ⟨rfl, HW.out, Only.refl _ _⟩
  · have hr : (if h = true then err else failed err 2) = err := by cases h <;> simp [failed, he]
    rw [hr]
    have hb : (err == 0) = false := by simpa using he
    have HW := Lib.hid hw
    clear hw hr he
    go_enter Try.func38, Try.ntmps38
    go_wp2_with fail
    first | go_end0 | go_returns
    exact ⟨rfl, HW.out, Only.refl _ _⟩

/-- Sizes of 2 or 4. -/
def Sz (l : List Nat) : Prop := ∀ k ∈ l, k = 2 ∨ k = 4
theorem rdz_take (bs : List Nat) (l : List Nat) (a : Nat) (e : Int) (j : Nat) (h : j < l.length) : rdz bs (l.take (j + 1)) a e = ((rdz bs (l.take j) a e).1 ++ [(rd1 bs l[j] (rdz bs (l.take j) a e).2.1 (rdz bs (l.take j) a e).2.2).1], (rd1 bs l[j] (rdz bs (l.take j) a e).2.1 (rdz bs (l.take j) a e).2.2).2) := by
  rw [List.take_succ_eq_append_getElem h, rdz_append]
  rfl
theorem RCur.bel {w w' : World} {g : Nat} {A : Option Addr} {c : Nat} {bs : List Nat} {a : Nat} {err : Int} (h : RCur w g A c bs a err) (hb : Below w.heap.size w w') : RCur w' g A c bs a err := Whole.bel h hb

theorem rnumber1 (g B : Nat) (A : Option Addr) (c : Nat) (bs : List Nat) (a : Nat) (err : Int) (k : Nat) (z : Int) (hk : k = 2 ∨ k = 4) (hz : z = k) (w : World) (h : RCur w g A c bs a err) (hs : Seen w B 1 A bs.length c (bv bs)) (hB : B ≤ g) (hb : bs.length ≤ 1000000) (hcm : c ≤ 9223372036854775807) (ha : a ≤ bs.length) (h256 : ∀ x ∈ bs, x < 256) :
    Calls Try.prog 50 #[.pointer (some ⟨g, 0, none⟩), .int .i64 z] w fun e w' => ∃ x : Nat, e = .returned (.int .u64 x) ∧ (x : Int) = (rd1 bs k a err).1 ∧ RRes w g A c bs (rd1 bs k a err).2 w' := by
  have hW : decide (Wide z) = true := by rw [hz]; exact decide_eq_true (wide24' hk)
  have L := rlittle_any g B A c bs a err z w h hs hB hb hcm ha h256
  rw [hW, hz] at L
  rw [← hz] at L
  refine L.mono ?_
  rintro e w' ⟨rfl, h1, h2⟩
  subst hz
  exact ⟨_, rfl, rfl, h1, h2⟩

/-- The error behind the document's numbers. -/
def magE (m : Bool) (err : Int) : Int := if m then err else failed err 14
/-- A row of numbers that the document read. -/
def RRow (w : World) (g : Nat) (A : Option Addr) (c : Nat) (bs : List Nat) (n : Nat) (xs : List Int) (r : Nat × Int) (e : Ending) (w' : World) : Prop :=
  ∃ v, e = .returned v ∧ w'.ownsRow w.heap.size 3 1 v n (iv xs) ∧ RRes w g A c bs r w'

set_option linter.unusedSimpArgs false in
set_option maxHeartbeats 2000000 in
theorem rnumbers_any (g B : Nat) (A : Option Addr) (c : Nat) (bs : List Nat) (a : Nat) (err : Int) (szs : List Nat) (hsz : Sz szs) (n : Nat) (hn : szs.length = n) (hpos : 0 < n) (hle : n ≤ 100) (An : Option Addr) (cN Bn : Nat) (mg : Nat) (w : World) (h : RCur w g A c bs a err) (hs : Seen w B 1 A bs.length c (bv bs)) (hB : B ≤ g) (hb : bs.length ≤ 1000000) (hcm : c ≤ 9223372036854775807) (ha : a ≤ bs.length) (h256 : ∀ x ∈ bs, x < 256)
    (hN : Seen w Bn 1 An n cN (iv (szs.map fun k : Nat => (k : Int)))) (hg : ∀ b o, An = some ⟨b, o, none⟩ → b ≠ g) :
    Calls Try.prog 37 #[.pointer (some ⟨g, 0, none⟩), .slice An n cN, .int .u64 mg] w (RRow w g A c bs n (rdz bs szs a err).1 ((rdz bs szs a err).2.1, magE ((rdz bs szs a err).1.getD 0 0 == (mg : Int)) (rdz bs szs a err).2.2)) := by
  obtain ⟨i0, hi0, hz0, hz1, hz2⟩ := info_parts int_info
  have HC := Lib.hid h; have HA := Lib.hid ha; have H256 := Lib.hid h256; have HSZ := Lib.hid hsz; have HLN := Lib.hid hn; have HS := Lib.hid hs; have HN := Lib.hid hN; have HG := Lib.hid hg; have HBS := Lib.hid hb; have HCM := Lib.hid hcm
  have hgw := Whole.lt h
  clear h ha h256 hsz hn hs hN hg hb hcm
  obtain ⟨ER, hER⟩ : ∃ E, magE ((rdz bs szs a err).1.getD 0 0 == (mg : Int)) (rdz bs szs a err).2.2 = E := ⟨_, rfl⟩
  rw [hER]
  have HER := Lib.hid hER
  clear hER
  go_enter Try.func37, Try.ntmps37
  go_wp2_with fail
  go_loopw [7, 12] (fun s i wr => ∃ j : Nat, j ≤ n ∧ i = .int .i64 j ∧ wr.ownsRow w.heap.size 3 1 s j (iv (rdz bs (szs.take j) a err).1) ∧ RCur wr g A c bs (rdz bs (szs.take j) a err).2.1 (rdz bs (szs.take j) a err).2.2 ∧ Only (fun i => i = g) w wr) (fun _ i _ => n - (intOf i).toNat)
  case atStart => exact ⟨0, Nat.zero_le _, rfl, World.ownsRow_nil _ _ _ _, HC.out, Only.refl _ _⟩
  case round =>
    obtain ⟨j, hj, rfl, hown, hC, hO⟩ := hrel
    by_cases hlt : j < n
    · have hjl : j < szs.length := by rw [HLN.out]; exact hlt
      obtain ⟨b, o, u, rfl, hbk, hu, hcell⟩ := HN.out.at (k := j) hlt
      have hu' : u = .int .i64 (szs[j] : Nat) := by
        rw [iv_get _ _ (by simpa using hjl)] at hu
        simpa using (Option.some.inj hu).symm
      subst hu'
      clear hu
      have hcell2 := hO.cell hcell (HG.out b o rfl)
      have hk := HSZ.out szs[j] (List.getElem_mem hjl)
      have ht := Lib.hid (rdz_take bs szs a err j hjl)
      have hp := rdz_place bs (szs.take j) a err HA.out
      have hB' : B ≤ w.heap.size := by omega
      have N := Lib.hid (rnumber1 g B A c bs (rdz bs (szs.take j) a err).2.1 (rdz bs (szs.take j) a err).2.2 szs[j] szs[j] hk rfl wr hC (HS.out.only hO hB' (fun k hk e => by omega)) hB HBS.out HCM.out hp H256.out)
      have hlt4 := rd1_lt bs H256.out szs[j] (rdz bs (szs.take j) a err).2.1 (rdz bs (szs.take j) a err).2.2
      have h32 : (256 : Int) ^ szs[j] ≤ 4294967296 := by rcases hk with h | h <;> rw [h] <;> decide
      have hsmall : (rd1 bs szs[j] (rdz bs (szs.take j) a err).2.1 (rdz bs (szs.take j) a err).2.2).1 < 4294967296 := by omega
      clear hlt4 h32 hk hp
      generalize rdz bs (szs.take j) a err = q at *
      generalize szs[j] = k at *
      generalize rd1 bs k q.2.1 q.2.2 = r at *
      have hj0 : (0 : Int) ≤ j := by omega
      obtain ⟨A5, c5, rfl, hc5⟩ := own_form hown
      have HOW := Lib.hid hown; have HO := Lib.hid hO; have HCw := Lib.hid hC
      clear hown hO hC hc5 hcell
      go_wp2_with fail
      refine N.out.mono ?_
      rintro e w2 ⟨x, rfl, hx, hC2, hO2⟩
      have hw2 : IntKind.i64.wrap (x : Int) = r.1 := by rw [hx]; exact IntWalk.i64_in _ (by omega)
      have ho2 := own_only HOW.out hO2 (own_ne_whole HOW.out HCw.out (by decide))
      have C2 := Lib.hid (RCur.bel hC2 ((Below.refl w2.heap.size w2).alloc (Nat.le_refl _) (.cells #[.int .i64 r.1] 3)))
      have O2 := Lib.hid ((HO.out.trans hO2).alloc (.cells #[.int .i64 r.1] 3))
      have W2 := Lib.hid (ho2.alloc (.cells #[.int .i64 r.1] 3))
      have SN := Lib.hid (seen_one w2 3 (.int .i64 r.1))
      have hbase : w.heap.size ≤ (w2.alloc (.cells #[.int .i64 r.1] 3)).heap.size := O2.out.size
      clear hx ho2 hC2 hO2 HOW HO HCw hcell2
      simp only [Array.size_push, World.size_alloc] at hbase
      have hap : ∀ (v' : Value) (w' : World), w'.ownsRow w.heap.size 3 1 v' (j + 1) (iv q.1 ++ [.int .i64 r.1]) → (w2.alloc (.cells #[.int .i64 r.1] 3)).grownBy w' (Value.slice A5 j c5).ownBlock → RCur w' g A c bs r.2.1 r.2.2 ∧ Only (fun k => k = g) w w' := by
        intro v' w' h1 h2
        refine ⟨Whole.grown C2.out h2 (fun e => own_ne_whole W2.out C2.out (by decide) g e.symm rfl), O2.out.grown h2 (fun k hk hlt => ?_)⟩
        have := (own_whole W2.out hk).1
        omega
      have HAP := Lib.hid hap
      clear hap C2
      go_wp2_with (at_builtin; refine wpList_append_seen _ rfl (.tmp 16) (.tmp 21) _ rfl w.heap.size 3 i0 _ 1 8 Try.underlying56 hi0 hz0 hz1 hz2 rfl (by omega) (.slice A5 j c5) j (iv q.1) rfl W2.out _ _ 1 1 [.int .i64 r.1] rfl SN.out (by simp [Value.oneCell']) (by simp only [maxLen]; omega) (by omega) (by simp only [World.size_alloc]; omega) ?_; intro v2 w3 hown2 hg2 hat2; have hA := Lib.hid (HAP.out v2 w3 hown2 hg2); have hO3 := Lib.hid hown2; clear hown2 hg2 hat2)
      go_roundw
      case rel =>
        refine ⟨j + 1, by omega, by go_num, ?_, ?_, hA.out.2⟩
        · rw [ht.out]
          have := hO3.out
          simpa [iv] using this
        · rw [ht.out]
          exact hA.out.1
      case measure => simp [intOf]; omega
    · obtain rfl : n = j := by omega
      have htk : szs.take n = szs := List.take_of_length_le (by rw [HLN.out]; exact Nat.le_refl _)
      rw [htk] at hown hC
      have hx := rdz_length bs szs a err
      have hlt := rdz_lt bs H256.out szs a err
      obtain ⟨k0, hk0⟩ : ∃ k, szs[0]? = some k := ⟨szs[0]'(by rw [HLN.out]; omega), by rw [List.getElem?_eq_getElem]⟩
      obtain ⟨x0, hx0, hge, hlt0⟩ := hlt 0 k0 hk0
      have hk := HSZ.out k0 (List.mem_of_getElem? hk0)
      have h32 : (256 : Int) ^ k0 ≤ 4294967296 := by rcases hk with h | h <;> rw [h] <;> decide
      have hgd : (rdz bs szs a err).1.getD 0 0 = x0 := by rw [List.getD_eq_getElem?_getD, hx0]; rfl
      have hER := HER.out
      rw [hgd] at hER
      clear HER
      generalize rdz bs szs a err = q at *
      obtain ⟨gl, cl, rfl, _, _⟩ := own_pos hown hpos
      have hcell : wr.cell? ⟨gl, 0, none⟩ = some (.int .i64 x0) := by
        have := (own_cell hown (i := 0) (u := .int .i64 x0) (by simp [iv, hx0])).1
        exact this
      obtain ⟨x, rfl⟩ := nat_of hge
      have hu : IntKind.u64.wrap (x : Int) = x := by
        have : IntKind.u64.wrap (x : Int) = (x : Int) % 18446744073709551616 := by simp [IntKind.wrap, IntKind.bits, IntKind.signed]
        omega
      have c2 := hC.c2
      have f2 := Whole.frozen hC 2
      have HOW := Lib.hid hown; have HO := Lib.hid hO; have HC2 := Lib.hid hC
      clear hx hlt hk0 hx0 hge hlt0 hk h32 hgd hown hO hC htk
      obtain ⟨xs, a', e'⟩ := q
      simp only at c2 f2 hER HC2 HOW
      by_cases he : e' = 0
      · subst he
        cases hm : ((x : Int) == (mg : Int))
        · have hne : ((x : Int) != (mg : Int)) = true := by simp [bne, hm]
          have h14 : ER = 14 := by rw [← hER, hm]; simp [magE, failed]
          subst h14
          have H3 := Lib.hid (HC2.out.set2 14)
          have H4 := Lib.hid (own_only HOW.out (only_set wr g 2 (.int .i64 14)) (own_ne_whole HOW.out HC2.out (by decide)))
          have H5 := Lib.hid (HO.out.trans (only_set wr g 2 (.int .i64 14)))
          clear hER hm HC2 HOW HO
          go_wp2_with fail
          go_ret
          exact ⟨_, rfl, H4.out, H3.out, H5.out⟩
        · have hne : ((x : Int) != (mg : Int)) = false := by simp [bne, hm]
          have h14 : ER = 0 := by rw [← hER, hm]; simp [magE]
          subst h14
          clear hER hm
          go_wp2_with fail
          go_ret
          exact ⟨_, rfl, HOW.out, HC2.out, HO.out⟩
      · have hb : (e' == 0) = false := by simpa using he
        have h14 : ER = e' := by rw [← hER]; unfold magE failed; simp [he]
        subst h14
        clear hER he
        go_wp2_with fail
        go_ret
        exact ⟨_, rfl, HOW.out, HC2.out, HO.out⟩

/-- A row of numbers stands in block g, from its beginning. -/
def LRow (w : World) (gl : Nat) (L : List Int) : Prop := gl < w.heap.size ∧ ∀ i v, L[i]? = some v → w.cell? ⟨gl, i, none⟩ = some (.int .i64 v)
theorem LRow.of_own {w : World} {base gl n cl : Nat} {L : List Int} (h : w.ownsRow base 3 1 (.slice (some ⟨gl, 0, none⟩) n cl) n (iv L)) : LRow w gl L := by
  refine ⟨(own_whole h (k := gl) rfl).2.choose_spec.lt, fun i v hv => ?_⟩
  exact (own_cell h (i := i) (u := .int .i64 v) (by simp [iv, hv])).1
theorem LRow.only {w w' : World} {gl : Nat} {L : List Int} {S : Nat → Prop} (h : LRow w gl L) (ho : Only S w w') (hn : ¬ S gl) : LRow w' gl L :=
  ⟨Nat.lt_of_lt_of_le h.1 ho.size, fun i v hv => ho.cell (h.2 i v hv) hn⟩
theorem seen_alloc {w : World} {B n c : Nat} {A : Option Addr} {xs : List Value} (h : Seen w B 1 A n c xs) (hB : B ≤ w.heap.size) (o : Obj) : Seen (w.alloc o) B 1 A n c xs := h.below ((Below.refl _ _).alloc hB o)
theorem lit_ints (W : World) (arr : Array Value) (ns : List Int) (harr : arr = (iv ns).toArray) (n : Nat) (hn : ns.length = n) (g : Nat) (hg : g = W.heap.size) : Seen (W.alloc (.cells arr 3)) (W.alloc (.cells arr 3)).heap.size 1 (some ⟨g, 0, none⟩) n n (iv ns) := by
  subst harr hg
  exact seen_ints (Whole.new W 3 _) hn
end Go.Proofs.Ytplilajgncfieaa
