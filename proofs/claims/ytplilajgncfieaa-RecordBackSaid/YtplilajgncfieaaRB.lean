/-
  What a local and a central record both say: putShared. Conditions: short bytes and names.
-/
import Derived.Test.YtplilajgncfieaaRA
namespace Go.Proofs.Ytplilajgncfieaa
open Go.RowKit

/-- What an archive says of an entry. -/
structure Rec where
  me : Int
  da : Nat
  cl : Nat
  su : Nat
  pa : Int
  si : Int
  na : ByteArray
  of : Int
/-- A record's cells. -/
def recC (r : Rec) : Array Value := #[.int .i64 r.me, .int .u16 r.da, .int .u16 r.cl, .int .u32 r.su, .int .i64 r.pa, .int .i64 r.si, .string r.na, .int .i64 r.of]
/-- Its numbers are of their kinds. -/
structure RecIn (r : Rec) : Prop where
  da : r.da < 65536
  cl : r.cl < 65536
  su : r.su < 4294967296

def flagN (b : Bool) : Int := if b then 8 else 0
/-- The bytes that both records share. -/
def sharedL (r : Rec) (b : Bool) : List Nat := putL [flagN b, r.me, r.cl, r.da] 2 ++ putL [r.su, r.pa, r.si] 4 ++ putL [r.na.size, 0] 2

theorem sharedL_length (r : Rec) (b : Bool) : (sharedL r b).length = 24 := by simp [sharedL, putL_length]

theorem nat_wrap64 {n : Nat} (h : n < 9223372036854775808) : IntKind.i64.wrap (n : Int) = n := IntWalk.i64_in _ (by omega)

/-- A record stands in block g. -/
def RecAt (w : World) (g : Nat) (r : Rec) : Prop := Whole w g 27 (recC r)
theorem RecAt.cells {w : World} {g : Nat} {r : Rec} (h : RecAt w g r) : w.cell? ⟨g, 0, none⟩ = some (.int .i64 r.me) ∧ w.cell? ⟨g, 1, none⟩ = some (.int .u16 r.da) ∧ w.cell? ⟨g, 2, none⟩ = some (.int .u16 r.cl) ∧ w.cell? ⟨g, 3, none⟩ = some (.int .u32 r.su) ∧ w.cell? ⟨g, 4, none⟩ = some (.int .i64 r.pa) ∧ w.cell? ⟨g, 5, none⟩ = some (.int .i64 r.si) ∧ w.cell? ⟨g, 6, none⟩ = some (.string r.na) ∧ w.cell? ⟨g, 7, none⟩ = some (.int .i64 r.of) := by
  unfold RecAt at h
  refine ⟨?_, ?_, ?_, ?_, ?_, ?_, ?_, ?_⟩ <;> rw [h.cell] <;> rfl
theorem RecAt.new (w : World) (r : Rec) : RecAt (w.alloc (.cells (recC r) 27)) w.heap.size r := Whole.new w 27 _

/-- put of numbers that are built in place. -/
theorem putLit (W : World) (A : Option Addr) (c n : Nat) (bs : List Nat) (hn : bs.length = n) (hs : Seen W W.heap.size 1 A n c (bv bs)) (ns : List Int) (arr : Array Value) (harr : arr = (iv ns).toArray) (m : Nat) (hm : ns.length = m) (k : Nat) (z : Int) (hk : Wide z) (hz : z = k) (hle : n + 8 * m ≤ 1000000) (hpos : 0 < m) (g : Nat) (hg : g = W.heap.size) :
    Calls Try.prog 27 #[.slice A n c, .int .i64 z, .slice (some ⟨g, 0, none⟩) m m] (W.alloc (.cells arr 3)) (GivesBlock W (bs ++ putL ns k)) := by
  subst harr hg
  have hl := seen_lit W 3 (iv ns)
  rw [iv_length, hm] at hl
  have hb : Below W.heap.size W (W.alloc (.cells (iv ns).toArray 3)) := (Below.refl _ _).alloc (Nat.le_refl _) _
  refine (put_any A c W.heap.size n bs hn _ m _ m ns hm k z hk hz _ (hs.below hb) hb.size hle hl (by simp) hpos).mono ?_
  rintro e w' ⟨g', rfl, h1, h2, h3⟩
  exact ⟨g', rfl, h1, Nat.le_trans hb.size h2, hb.trans (h3.mono hb.size)⟩

set_option maxHeartbeats 1000000 in
theorem putShared_any (A : Option Addr) (c B n : Nat) (bs : List Nat) (hn : bs.length = n) (hle : n ≤ 900000) (me : Int) (da cl su : Nat) (pa si : Int) (na : ByteArray) (of : Int) (hr : RecIn ⟨me, da, cl, su, pa, si, na, of⟩) (be : Bool)
    (w : World) (hs : Seen w B 1 A n c (bv bs)) (hB : B ≤ w.heap.size) :
    Calls Try.prog 28 #[.slice A n c, .agg #[.int .i64 me, .int .u16 da, .int .u16 cl, .int .u32 su, .int .i64 pa, .int .i64 si, .string na, .int .i64 of], .bool be] w (GivesBlock w (bs ++ sharedL ⟨me, da, cl, su, pa, si, na, of⟩ be)) := by
  obtain ⟨h1, h2, h3⟩ := hr
  simp only at h1 h2 h3
  have w1 := nat_wrap64 (n := da) (by omega)
  have w2 := nat_wrap64 (n := cl) (by omega)
  have w3 := nat_wrap64 (n := su) (by omega)
  have HS := Lib.hid (hs.more hB); clear hs hB B
  have HL := Lib.hid hn; clear hn
  obtain ⟨f, hf⟩ : ∃ f, flagN be = f := ⟨_, rfl⟩
  have HX : Hid (sharedL ⟨me, da, cl, su, pa, si, na, of⟩ be = putL [f, me, cl, da] 2 ++ putL [su, pa, si] 4 ++ putL [na.size, 0] 2) := Lib.hid (by rw [← hf]; rfl)
  rw [HX.out]
  clear HX
  cases be
  all_goals
    (first | (obtain rfl : (0 : Int) = f := hf) | (obtain rfl : (8 : Int) = f := hf))
    go_enter Try.func28, Try.ntmps28
    go_wp2_with fail
    have HR := Lib.hid (RecAt.new w ⟨me, da, cl, su, pa, si, na, of⟩)
    have B0 := Lib.hid ((Below.refl w.heap.size w).alloc (Nat.le_refl _) (.cells (recC ⟨me, da, cl, su, pa, si, na, of⟩) 27))
    simp only [recC] at HR B0
    generalize hw0 : w.alloc _ = w0 at HR B0 ⊢
    obtain ⟨gb, hgb⟩ : ∃ gb, w.heap.size = gb := ⟨_, rfl⟩
    have hg1 : gb + 1 = w0.heap.size := by rw [← hw0, ← hgb]; simp
    rw [hgb] at HR ⊢
    have S0 := Lib.hid ((HS.out.below B0.out).more B0.out.size)
    refine (putLit w0 A c n bs HL.out S0.out [_, me, cl, da] _ rfl 4 rfl 2 2 (.inr (.inl rfl)) rfl (by omega) (by omega) _ hg1).mono ?_
    rintro e w1' ⟨g1, rfl, W1, _, b1⟩
    clear h1 h2 h3 hw0 hgb hg1 S0
    generalize hbs1 : bs ++ putL _ 2 = bs1 at W1 ⊢
    obtain ⟨n1, hn1⟩ : ∃ m, bs1.length = m := ⟨_, rfl⟩
    have hle1 : n1 ≤ 900008 := by rw [← hn1, ← hbs1, List.length_append, putL_length, HL.out]; simp; omega
    rw [hn1]
    have HB1 := Lib.hid hbs1; have HN1 := Lib.hid hn1; clear hbs1 hn1
    have R1 := Lib.hid (Whole.bel HR.out b1)
    have B1 := Lib.hid (bel_after B0.out (Nat.le_refl _) b1)
    have S1 := Lib.hid (seen_block W1); simp only [HN1.out] at S1
    obtain ⟨c0, cd, ck, c3, c4, c5, c6, c7⟩ := RecAt.cells R1.out
    clear W1 b1 B0 HR c0 cd ck c7 w1 w2
    go_wp2_with fail
    obtain ⟨gw, hgw⟩ : ∃ g, w1'.heap.size = g := ⟨_, rfl⟩
    rw [hgw]
    refine (putLit w1' _ _ n1 bs1 HN1.out S1.out [su, pa, si] _ rfl 3 rfl 4 4 (.inr (.inr (.inl rfl))) rfl (by omega) (by omega) _ hgw.symm).mono ?_
    rintro e w2' ⟨g2, rfl, W2, _, b2⟩
    clear hgw c3 c4 c5 c6 w3
    obtain ⟨bs2, hbs2⟩ : ∃ l, bs1 ++ putL [su, pa, si] 4 = l := ⟨_, rfl⟩
    rw [hbs2] at W2 ⊢
    obtain ⟨n2, hn2⟩ : ∃ m, bs2.length = m := ⟨_, rfl⟩
    have hle2 : n2 ≤ 900020 := by rw [← hn2, ← hbs2, List.length_append, putL_length, HN1.out]; simp; omega
    rw [hn2]
    have HB2 := Lib.hid hbs2; have HN2 := Lib.hid hn2; clear hbs2 hn2
    have R2 := Lib.hid (Whole.bel R1.out b2)
    have B2 := Lib.hid (bel_after B1.out (Nat.le_refl _) b2)
    have S2 := Lib.hid (seen_block W2); simp only [HN2.out] at S2
    obtain ⟨c0, cd, ck, c3, c4, c5, c6, c7⟩ := RecAt.cells R2.out
    clear W2 b2 B1 R1 c0 cd ck c3 c4 c5 c7 S1
    go_wp2_with fail
    obtain ⟨gw, hgw⟩ : ∃ g, w2'.heap.size = g := ⟨_, rfl⟩
    rw [hgw]
    refine (putLit w2' _ _ n2 bs2 HN2.out S2.out [na.size, 0] _ rfl 2 rfl 2 2 (.inr (.inl rfl)) rfl (by omega) (by omega) _ hgw.symm).mono ?_
    rintro e w3' ⟨g3, rfl, W3, hg3, b3⟩
    have HX := congrArg (fun l => l ++ putL [(na.size : Int), 0] 2) HB2.out
    rw [← HB1.out] at HX
    simp only [List.append_assoc] at HX
    have B3 := Lib.hid (bel_after B2.out (Nat.le_refl _) b3)
    rw [← HX] at W3
    have WX := Lib.hid W3
    have HG := Lib.hid (Nat.le_trans B2.out.size hg3)
    clear hgw c6 W3 b3 B2 hg3
    rw [← HX]
    clear HX
    go_wp2_with fail
    go_ret
    exact ⟨g3, by simp, by simpa using WX.out, HG.out, B3.out⟩
end Go.Proofs.Ytplilajgncfieaa
