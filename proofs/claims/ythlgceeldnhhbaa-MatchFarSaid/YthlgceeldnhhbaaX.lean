/-
  The contract of Tokens: tokens that stand for the bytes, no more than there are bytes. Conditions: the bytes are read as told (Seen), at most 90000 of them.
-/
import Derived.Test.YthlgceeldnhhbaaW
namespace Go.Proofs.Ythlgceeldnhhbaa
open Go.RowKit
set_option maxRecDepth 100000

theorem seen_tok2 (w : World) (g : Nat) (hg : w.heap.size = g) (tl : Nat) (tm td : Int) : Seen (w.alloc (.cells #[.int .u8 tl, .int .i64 tm, .int .i64 td] 29)) (g + 1) 3 (some ⟨g, 0, none⟩) 1 1 (tvs [⟨tl, tm, td⟩]) := by
  subst hg
  exact seen_tok w tl tm td

/-- What Tokens answers. -/
def Told (n : Nat) (bs : List Nat) (w : World) (e : Ending) (w' : World) : Prop :=
  ∃ (l : List Tok) (v : Value), e = .returned v ∧ w'.ownsRow w.heap.size 29 3 v l.length (tvs l) ∧ expT (n : Int) l [] = (0, bs) ∧ l.length ≤ n ∧ Below w.heap.size w w'

set_option linter.unusedSimpArgs false in
set_option maxHeartbeats 4000000 in
theorem tokens_any (A : Option Addr) (n c : Nat) (bs : List Nat) (hb : bs.length = n) (hn : n ≤ 90000) (h256 : ∀ x ∈ bs, x < 256) (w : World) (hs : Seen w w.heap.size 1 A n c (bx bs)) :
    Calls Try.prog 14 #[.slice A n c] w (Told n bs w) := by
  obtain ⟨i0, hi0, hz0, hz1, hz2⟩ := info_parts tok_info
  have hB0 : Below w.heap.size w (w.alloc (.cells #[] 29)) := (Below.refl _ _).alloc (Nat.le_refl _) _
  have CN := Lib.hid (newChains_any A n c w.heap.size bs hb (by omega) h256 (w.alloc (.cells #[] 29)) (hs.below hB0) (by simp))
  have HO0 : Hid ((w.alloc (.cells #[] 29)).ownsRow w.heap.size 29 3 (.slice (some ⟨w.heap.size, 0, none⟩) 0 0) 0 []) := Lib.hid (World.ownsRow_made w #[] 0 (Nat.le_refl _) (by simp [maxLen]) rfl)
  have HB0 := Lib.hid hB0
  have HB := Lib.hid hb
  have H256 := Lib.hid h256
  clear hs hB0 hb h256
  go_enter Try.func14, Try.ntmps14
  go_wp2_with fail
  refine CN.out.mono ?_
  rintro e w1 ⟨C, rfl, hG, hC1, hb1⟩
  obtain ⟨k, hk⟩ : ∃ k, newK (w.alloc (.cells #[] 29)) A n c w.heap.size bs C = k := ⟨_, rfl⟩
  have kC : k.C = C := by rw [← hk]; rfl
  have kn : k.n = n := by rw [← hk]; rfl
  have kbs : k.bs = bs := by rw [← hk]; rfl
  have kB : k.B = w.heap.size := by rw [← hk]; rfl
  have kA : k.A = A := by rw [← hk]; rfl
  have kc : k.c = c := by rw [← hk]; rfl
  rw [hk] at hG hC1
  have HG := Lib.hid hG; have HC1 := Lib.hid hC1
  have HO1 := Lib.hid (own_only HO0.out (Only.of_below hb1 Nob) (fun _ _ h => h))
  have HB1 := Lib.hid (HB0.out.trans (hb1.mono (by simp)))
  have HKN := Lib.hid kn; have HKB := Lib.hid kbs; have HKL := Lib.hid kB; have HKC := Lib.hid kC; have HKA := Lib.hid kA; have HKc := Lib.hid kc
  clear hG hC1 hb1 hk kn kbs kB kA kc CN kC
  have CF := Lib.hid (fun W h a (hh : h ≤ a) (H : ChAt k W h) => cfind_any HG.out h a hh W H)
  have CH := Lib.hid (fun W a (ha : a ≤ 200000) (H : ChAt k W a) => hang_any HG.out a ha W H)
  rw [HKC.out] at CF CH
  go_wp2_with fail
  refine (CF.out w1 0 0 (Nat.le_refl _) HC1.out).mono ?_
  rintro e w2 ⟨⟨fl, fm, fd⟩, hF, hF0, rfl, hb2⟩
  simp only [tokV]
  simp only at hF0
  have hlt1 : w.heap.size < w1.heap.size := (own_whole HO1.out (k := w.heap.size) rfl).2.choose_spec.lt
  have hT0 : TkAt k w.heap.size w2.heap.size (w2.alloc (.cells #[.int .u8 fl, .int .i64 fm, .int .i64 fd] 29)) (.slice (some ⟨w.heap.size, 0, none⟩) 0 0) 0 [] ⟨fl, fm, fd⟩ := by
    have hbb := hb2.trans (((Below.refl w1.heap.size w2).alloc hb2.size (.cells #[.int .u8 fl, .int .i64 fm, .int .i64 fd] 29)))
    have := hb2.size
    refine ⟨own_only HO1.out (Only.of_below hbb Nob) (fun _ _ h => h), ?_, Whole.new _ _ _, HC1.out.below hbb, by rw [HKL.out]; omega, by rw [HKL.out]; exact Nat.le_refl _⟩
    intro j hj
    simp [Value.ownBlock] at hj
    omega
  have HT0 := Lib.hid hT0
  have HF := Lib.hid hF
  have HB2 := Lib.hid ((HB1.out.trans (hb2.mono HB1.out.size)).alloc (Nat.le_trans HB1.out.size hb2.size) (.cells #[.int .u8 fl, .int .i64 fm, .int .i64 fd] 29))
  have hg5 : w.heap.size ≤ w2.heap.size := by have := hb2.size; omega
  clear hb2 hT0 hF HO1 HC1 hlt1 HO0 HB0 HB1
  obtain ⟨g5, hg5e⟩ : ∃ g, w2.heap.size = g := ⟨_, rfl⟩
  rw [hg5e] at HT0 hg5
  go_wp2_with fail
  clear hg5e
  go_loopw [3, 6] (fun s av wr => ∃ (a : Nat) (l : List Tok) (T : Tok), a ≤ n ∧ av = .int .i64 a ∧ TkAt k w.heap.size g5 wr s a l T ∧ expT (n : Int) l [] = (0, bs.take a) ∧ l.length ≤ a ∧ (a < n → Fits bs a T) ∧ 0 ≤ T.len ∧ Below w.heap.size w wr) (fun _ av _ => n - (intOf av).toNat)
  case atStart => exact ⟨0, [], ⟨fl, fm, fd⟩, Nat.zero_le _, rfl, HT0.out, rfl, Nat.le_refl _, by rw [← HKN.out, ← HKB.out]; exact HF.out, hF0, HB2.out⟩
  case round =>
    obtain ⟨a, l, ⟨tl, tm, td⟩, ha, rfl, hT, hE, hll, hfit, htm, hbel⟩ := hrel
    have HT := Lib.hid hT; have HBel := Lib.hid hbel; have HE := Lib.hid hE
    clear hT hbel hE
    by_cases han : a < n
    · have hlt5 := HT.out.tk.lt
      have hszr := HBel.out.size
      have hown := HT.out.own
      obtain ⟨As, cs, rfl, _⟩ := own_form hown
      clear hown
      have hsj : ∀ j, (Value.slice As l.length cs).ownBlock = some j → j < wr.heap.size := fun j hj => (own_whole HT.out.own hj).2.choose_spec.lt
      have HSJ := Lib.hid hsj; clear hsj
      have han' : decide ((a : Int) < n) = true := decide_eq_true (by omega)
      have han'' : decide (a < n) = true := decide_eq_true han
      go_wp2_with fail
      refine (CH.out wr a (by omega) HT.out.ch).mono ?_
      rintro e w3 ⟨rfl, hC3, hO3⟩
      have HT3 := Lib.hid (HT.out.kept hC3 hO3)
      have HB3 := Lib.hid (HBel.out.trans (hO3.below HBel.out.size (fun i hi => by have h1 := HG.out.M; have h2 := HG.out.g; rw [HKL.out] at h1 h2; rcases hi with rfl | rfl <;> assumption)))
      have hsz3 := hO3.size
      clear hC3 hO3
      have CF3 := CF.out w3 (a + 1) (a + 1) (Nat.le_refl _) HT3.out.ch
      rw [show ((a + 1 : Nat) : Int) = (a : Int) + 1 by omega] at CF3
      have HCF3 := Lib.hid CF3; clear CF3
      go_wp2_with fail
      refine HCF3.out.mono ?_
      rintro e w4 ⟨⟨nl, nm, nd⟩, hN, hN0, rfl, hb4⟩
      simp only [tokV]
      simp only at hN0
      have HN : Hid (a + 1 < n → Fits bs (a + 1) ⟨nl, nm, nd⟩) := Lib.hid (by rw [← HKN.out, ← HKB.out]; exact hN)
      have hsz4 := hb4.size
      have hB4 : Below w3.heap.size w3 (w4.alloc (.cells #[.int .u8 nl, .int .i64 nm, .int .i64 nd] 29)) := hb4.alloc hb4.size _
      have HT4 := Lib.hid (HT3.out.below hB4)
      have HV4 : Hid (Whole (w4.alloc (.cells #[.int .u8 nl, .int .i64 nm, .int .i64 nd] 29)) w4.heap.size 29 #[.int .u8 nl, .int .i64 nm, .int .i64 nd]) := Lib.hid (Whole.new _ _ _)
      have HB4 := Lib.hid (HB3.out.trans (hB4.mono HB3.out.size))
      have hg7 : w4.heap.size ≠ g5 := by omega
      have hg7B : w.heap.size ≤ w4.heap.size := by omega
      have HS7 : Hid (∀ j, (Value.slice As l.length cs).ownBlock = some j → j ≠ w4.heap.size) := Lib.hid (fun j hj => by have := HSJ.out j hj; omega)
      have HT4w := Lib.hid (HT3.out.below hb4)
      have HB4w := Lib.hid (HB3.out.trans (hb4.mono HB3.out.size))
      have hszw := HB4w.out.size
      have hg5w : g5 < w4.heap.size := by omega
      have hszW := HB4.out.size
      obtain ⟨g7, hg7e⟩ : ∃ g, w4.heap.size = g := ⟨_, rfl⟩
      rw [hg7e] at HV4 hg7 HS7 hg7B hg5w
      have hg5w' : g5 < w4.heap.size := by omega
      clear hN hb4 hB4 HT HBel HT3 HB3 hsz4 hsz3
      have v0 : w4.cell? ⟨g5, 0, none⟩ = some (.int .u8 tl) := HT4w.out.tk.cell 0
      have v1 : w4.cell? ⟨g5, 1, none⟩ = some (.int .i64 tm) := HT4w.out.tk.cell 1
      have v2 : w4.cell? ⟨g5, 2, none⟩ = some (.int .i64 td) := HT4w.out.tk.cell 2
      by_cases hif : tm < nm
      · have dn : decide (tm < nm) = true := decide_eq_true hif
        have z0 := HT4w.out.tk.frozen 0
        have z1 := HT4w.out.tk.frozen 1
        have z2 := HT4w.out.tk.frozen 2
        have hsn := HT4w.out.ch.seen
        rw [HKA.out, HKN.out, HKB.out, HKc.out] at hsn
        obtain ⟨b, o, hA, hbB, hcell⟩ := hsn.bytes HB.out (by omega)
        rw [HKL.out] at hbB
        have xa := hcell a han
        obtain ⟨la, hla⟩ : ∃ x, bs.getD a 0 = x := ⟨_, rfl⟩
        rw [hla] at xa
        have HFT : Hid (Fits bs a ⟨la, 0, 0⟩) := Lib.hid (by rw [← hla]; exact Fits.byte _ _)
        subst hA
        have a0 : (0 : Int) ≤ a := by omega
        have HT5 := Lib.hid ((HT4w.out.put la 0 0).alloc (.cells #[.int .u8 nl, .int .i64 nm, .int .i64 nd] 29))
        have HV5 : Hid (Whole ((((w4.setCell ⟨g5, 0, none⟩ (.int .u8 la)).setCell ⟨g5, 1, none⟩ (.int .i64 0)).setCell ⟨g5, 2, none⟩ (.int .i64 0)).alloc (.cells #[.int .u8 nl, .int .i64 nm, .int .i64 nd] 29)) g7 29 #[.int .u8 nl, .int .i64 nm, .int .i64 nd]) := Lib.hid (by have h0 := Whole.new (((w4.setCell ⟨g5, 0, none⟩ (.int .u8 la)).setCell ⟨g5, 1, none⟩ (.int .i64 0)).setCell ⟨g5, 2, none⟩ (.int .i64 0)) 29 #[.int .u8 nl, .int .i64 nm, .int .i64 nd]; rwa [show (((w4.setCell ⟨g5, 0, none⟩ (.int .u8 la)).setCell ⟨g5, 1, none⟩ (.int .i64 0)).setCell ⟨g5, 2, none⟩ (.int .i64 0)).heap.size = g7 by simp [World.setCell, hg7e]] at h0)
        have HB5 := Lib.hid ((below_put3 HB4w.out hg5 (.int .u8 la) (.int .i64 0) (.int .i64 0)).alloc (by have := hszw; simp [World.setCell]; omega) (.cells #[.int .u8 nl, .int .i64 nm, .int .i64 nd] 29))
        clear hcell hsn hla
        have hbw : b < w4.heap.size := by omega
        have hbne : g5 ≠ b := by omega
        have hbne7 : g7 ≠ b := by omega
        have hbw7 : b < g7 := by omega
        have HSN : Hid (Seen (((((w4.setCell ⟨g5, 0, none⟩ (.int .u8 la)).setCell ⟨g5, 1, none⟩ (.int .i64 0)).setCell ⟨g5, 2, none⟩ (.int .i64 0)).alloc (.cells #[.int .u8 nl, .int .i64 nm, .int .i64 nd] 29)).alloc (.cells #[.int .u8 la, .int .i64 0, .int .i64 0] 29)) (g7 + 1 + 1) 3 (some ⟨g7 + 1, 0, none⟩) 1 1 (tvs [⟨la, 0, 0⟩])) := Lib.hid (seen_tok2 _ _ (by simp [World.setCell, hg7e]) _ _ _)
        have HTA := Lib.hid (HT5.out.alloc (.cells #[.int .u8 la, .int .i64 0, .int .i64 0] 29))
        have HBA := Lib.hid (HB5.out.alloc HB5.out.size (.cells #[.int .u8 la, .int .i64 0, .int .i64 0] 29))
        have HVA := Lib.hid (HV5.out.alloc (.cells #[.int .u8 la, .int .i64 0, .int .i64 0] 29))
        go_wp2_with (at_builtin; refine wpList_append_seen _ rfl (.tmp 35) (.tmp 37) _ rfl w.heap.size 29 i0 _ 3 24 Try.underlying22 hi0 hz0 hz1 hz2 rfl (by omega) (.slice As l.length cs) l.length (tvs l) rfl HTA.out.own _ _ 1 1 (tvs [⟨la, 0, 0⟩]) rfl HSN.out (tvs_one _) (by simp only [maxLen]; omega) (by omega) (HBA.out.size) ?_; intro s1 w6 hown6 hg6 hat6)
        have HT6 := Lib.hid (HTA.out.push hg6 hown6 hat6)
        have HV6 := Lib.hid (HVA.out.grown hg6 (fun e => HS7.out g7 e.symm rfl))
        have HB6 := Lib.hid (HBA.out.grown hg6 HBA.out.size (fun j hj => (own_whole HTA.out.own hj).1))
        have HS71 : Hid (∀ j, s1.ownBlock = some j → j ≠ g7) := Lib.hid (fun j hj => by
          rcases hat6 with e | e
          · exact HS7.out j (by rw [← e]; exact hj)
          · rw [e] at hj; injection hj with hj; have := HVA.out.lt; omega)
        have hA6 := HFT.out.add (by rw [HB.out]; exact han)
        rw [HB.out] at hA6
        have HE6 : Hid (expT (n : Int) (l ++ [⟨la, 0, 0⟩]) [] = (0, bs.take (a + (max (0 : Int) 1).toNat))) := Lib.hid (by rw [expT_append HE.out hA6.1, hA6.2.1])
        have HA6 := Lib.hid hA6
        clear hown6 hg6 hat6 hA6 HTA HBA HVA HSN HT5 HB5 HV5 v0 v1 v2 z0 z1 z2 xa HT4w
        have u0 : w6.cell? ⟨g5, 0, none⟩ = some (.int .u8 la) := HT6.out.tk.cell 0
        have u1 : w6.cell? ⟨g5, 1, none⟩ = some (.int .i64 0) := HT6.out.tk.cell 1
        have u2 : w6.cell? ⟨g5, 2, none⟩ = some (.int .i64 0) := HT6.out.tk.cell 2
        go_wp2_with fail
        go_loopw [8] (fun i wq => i = .int .i64 1 ∧ wq = w6) (fun _ _ => 0)
        case atStart => exact ⟨rfl, rfl⟩
        case round =>
          obtain ⟨rfl, rfl⟩ := hrel
          have CS := size_any la 0 0 wr
          rw [show max (0 : Int) 1 = 1 by omega] at CS
          have HCS := Lib.hid CS; clear CS
          go_wp2_with fail
          refine HCS.out.mono ?_
          rintro e w8 ⟨rfl, hb8⟩
          have HT8 := Lib.hid (HT6.out.below hb8)
          have HV8 := Lib.hid (HV6.out.only (Only.of_below hb8 Nob) (fun h => h))
          have HB8 := Lib.hid (HB6.out.trans (hb8.mono HB6.out.size))
          clear hb8 u0 u1 u2
          have v0 : w8.cell? ⟨g5, 0, none⟩ = some (.int .u8 la) := HT8.out.tk.cell 0
          have v1 : w8.cell? ⟨g5, 1, none⟩ = some (.int .i64 0) := HT8.out.tk.cell 1
          have v2 : w8.cell? ⟨g5, 2, none⟩ = some (.int .i64 0) := HT8.out.tk.cell 2
          have n0 : w8.cell? ⟨g7, 0, none⟩ = some (.int .u8 nl) := HV8.out.cell 0
          have n1 : w8.cell? ⟨g7, 1, none⟩ = some (.int .i64 nm) := HV8.out.cell 1
          have n2 : w8.cell? ⟨g7, 2, none⟩ = some (.int .i64 nd) := HV8.out.cell 2
          have z0 := HT8.out.tk.frozen 0
          have z1 := HT8.out.tk.frozen 1
          have z2 := HT8.out.tk.frozen 2
          go_wp2_with fail
          go_roundw
          case rel => exact ⟨a + 1, l ++ [⟨la, 0, 0⟩], ⟨nl, nm, nd⟩, by omega, by go_num, HT8.out.put nl nm nd, HE6.out, by simp; omega, HN.out, hN0, below_put3 HB8.out hg5 _ _ _⟩
          case measure => simp [intOf]; omega
      · have dn : decide (tm < nm) = false := decide_eq_false (by omega)
        have HFT := Lib.hid (hfit han)
        by_cases hz : tm = 0
        · subst hz
          have HSN : Hid (Seen ((w4.alloc (.cells #[.int .u8 nl, .int .i64 nm, .int .i64 nd] 29)).alloc (.cells #[.int .u8 tl, .int .i64 0, .int .i64 td] 29)) (g7 + 1 + 1) 3 (some ⟨g7 + 1, 0, none⟩) 1 1 (tvs [⟨tl, 0, td⟩])) := Lib.hid (seen_tok2 _ _ (by simp [World.setCell, hg7e]) _ _ _)
          have HTA := Lib.hid (HT4.out.alloc (.cells #[.int .u8 tl, .int .i64 0, .int .i64 td] 29))
          have HBA := Lib.hid (HB4.out.alloc HB4.out.size (.cells #[.int .u8 tl, .int .i64 0, .int .i64 td] 29))
          have HVA := Lib.hid (HV4.out.alloc (.cells #[.int .u8 tl, .int .i64 0, .int .i64 td] 29))
          go_wp2_with (at_builtin; refine wpList_append_seen _ rfl (.tmp 35) (.tmp 37) _ rfl w.heap.size 29 i0 _ 3 24 Try.underlying22 hi0 hz0 hz1 hz2 rfl (by omega) (.slice As l.length cs) l.length (tvs l) rfl HTA.out.own _ _ 1 1 (tvs [⟨tl, 0, td⟩]) rfl HSN.out (tvs_one _) (by simp only [maxLen]; omega) (by omega) (HBA.out.size) ?_; intro s1 w6 hown6 hg6 hat6)
          have HT6 := Lib.hid (HTA.out.push hg6 hown6 hat6)
          have HV6 := Lib.hid (HVA.out.grown hg6 (fun e => HS7.out g7 e.symm rfl))
          have HB6 := Lib.hid (HBA.out.grown hg6 HBA.out.size (fun j hj => (own_whole HTA.out.own hj).1))
          have HS71 : Hid (∀ j, s1.ownBlock = some j → j ≠ g7) := Lib.hid (fun j hj => by
            rcases hat6 with e | e
            · exact HS7.out j (by rw [← e]; exact hj)
            · rw [e] at hj; injection hj with hj; have := HVA.out.lt; omega)
          have hA6 := HFT.out.add (by rw [HB.out]; exact han)
          rw [HB.out] at hA6
          have HE6 : Hid (expT (n : Int) (l ++ [⟨tl, 0, td⟩]) [] = (0, bs.take (a + (max (0 : Int) 1).toNat))) := Lib.hid (by rw [expT_append HE.out hA6.1, hA6.2.1])
          have HA6 := Lib.hid hA6
          clear hown6 hg6 hat6 hA6 HTA HBA HVA HSN HT4 HB4 HV4 v0 v1 v2 HT4w
          have u0 : w6.cell? ⟨g5, 0, none⟩ = some (.int .u8 tl) := HT6.out.tk.cell 0
          have u1 : w6.cell? ⟨g5, 1, none⟩ = some (.int .i64 0) := HT6.out.tk.cell 1
          have u2 : w6.cell? ⟨g5, 2, none⟩ = some (.int .i64 td) := HT6.out.tk.cell 2
          go_wp2_with fail
          go_loopw [8] (fun i wq => i = .int .i64 1 ∧ wq = w6) (fun _ _ => 0)
          case atStart => exact ⟨rfl, rfl⟩
          case round =>
            obtain ⟨rfl, rfl⟩ := hrel
            have CS := size_any tl 0 td wr
            rw [show max (0 : Int) 1 = 1 by omega] at CS
            have HCS := Lib.hid CS; clear CS
            go_wp2_with fail
            refine HCS.out.mono ?_
            rintro e w8 ⟨rfl, hb8⟩
            have HT8 := Lib.hid (HT6.out.below hb8)
            have HV8 := Lib.hid (HV6.out.only (Only.of_below hb8 Nob) (fun h => h))
            have HB8 := Lib.hid (HB6.out.trans (hb8.mono HB6.out.size))
            clear hb8 u0 u1 u2
            have v0 : w8.cell? ⟨g5, 0, none⟩ = some (.int .u8 tl) := HT8.out.tk.cell 0
            have v1 : w8.cell? ⟨g5, 1, none⟩ = some (.int .i64 0) := HT8.out.tk.cell 1
            have v2 : w8.cell? ⟨g5, 2, none⟩ = some (.int .i64 td) := HT8.out.tk.cell 2
            have n0 : w8.cell? ⟨g7, 0, none⟩ = some (.int .u8 nl) := HV8.out.cell 0
            have n1 : w8.cell? ⟨g7, 1, none⟩ = some (.int .i64 nm) := HV8.out.cell 1
            have n2 : w8.cell? ⟨g7, 2, none⟩ = some (.int .i64 nd) := HV8.out.cell 2
            have z0 := HT8.out.tk.frozen 0
            have z1 := HT8.out.tk.frozen 1
            have z2 := HT8.out.tk.frozen 2
            go_wp2_with fail
            go_roundw
            case rel => exact ⟨a + 1, l ++ [⟨tl, 0, td⟩], ⟨nl, nm, nd⟩, by omega, by go_num, HT8.out.put nl nm nd, HE6.out, by simp; omega, HN.out, hN0, below_put3 HB8.out hg5 _ _ _⟩
            case measure => simp [intOf]; omega
        · obtain ⟨N, rfl⟩ := Int.eq_ofNat_of_zero_le htm
          have hN3 : 3 ≤ N ∧ a + N ≤ n := by
            rcases hfit han with ⟨h1, _⟩ | ⟨_, n', _, h1, _, h3, _, _, _, _, h8, _⟩
            · exact absurd h1 hz
            · rw [HB.out] at h8; simp only at h1; omega
          obtain ⟨hN3, hNn⟩ := hN3
          have HSN : Hid (Seen ((w4.alloc (.cells #[.int .u8 nl, .int .i64 nm, .int .i64 nd] 29)).alloc (.cells #[.int .u8 tl, .int .i64 N, .int .i64 td] 29)) (g7 + 1 + 1) 3 (some ⟨g7 + 1, 0, none⟩) 1 1 (tvs [⟨tl, N, td⟩])) := Lib.hid (seen_tok2 _ _ (by simp [World.setCell, hg7e]) _ _ _)
          have HTA := Lib.hid (HT4.out.alloc (.cells #[.int .u8 tl, .int .i64 N, .int .i64 td] 29))
          have HBA := Lib.hid (HB4.out.alloc HB4.out.size (.cells #[.int .u8 tl, .int .i64 N, .int .i64 td] 29))
          have HVA := Lib.hid (HV4.out.alloc (.cells #[.int .u8 tl, .int .i64 N, .int .i64 td] 29))
          go_wp2_with (at_builtin; refine wpList_append_seen _ rfl (.tmp 35) (.tmp 37) _ rfl w.heap.size 29 i0 _ 3 24 Try.underlying22 hi0 hz0 hz1 hz2 rfl (by omega) (.slice As l.length cs) l.length (tvs l) rfl HTA.out.own _ _ 1 1 (tvs [⟨tl, N, td⟩]) rfl HSN.out (tvs_one _) (by simp only [maxLen]; omega) (by omega) (HBA.out.size) ?_; intro s1 w6 hown6 hg6 hat6)
          have HT6 := Lib.hid (HTA.out.push hg6 hown6 hat6)
          have HV6 := Lib.hid (HVA.out.grown hg6 (fun e => HS7.out g7 e.symm rfl))
          have HB6 := Lib.hid (HBA.out.grown hg6 HBA.out.size (fun j hj => (own_whole HTA.out.own hj).1))
          have HS71 : Hid (∀ j, s1.ownBlock = some j → j ≠ g7) := Lib.hid (fun j hj => by
            rcases hat6 with e | e
            · exact HS7.out j (by rw [← e]; exact hj)
            · rw [e] at hj; injection hj with hj; have := HVA.out.lt; omega)
          have hA6 := HFT.out.add (by rw [HB.out]; exact han)
          rw [HB.out] at hA6
          have HE6 : Hid (expT (n : Int) (l ++ [⟨tl, N, td⟩]) [] = (0, bs.take (a + (max (N : Int) 1).toNat))) := Lib.hid (by rw [expT_append HE.out hA6.1, hA6.2.1])
          have HA6 := Lib.hid hA6
          clear hown6 hg6 hat6 hA6 HTA HBA HVA HSN HT4 HB4 HV4 v0 v1 v2 HT4w hfit
          have u1 : w6.cell? ⟨g5, 1, none⟩ = some (.int .i64 N) := HT6.out.tk.cell 1
          go_wp2_with fail
          clear u1
          go_loopw [8] (fun iv wq => ∃ i : Nat, 1 ≤ i ∧ i ≤ N ∧ iv = .int .i64 i ∧ TkAt k w.heap.size g5 wq s1 (a + i) (l ++ [⟨tl, N, td⟩]) ⟨tl, N, td⟩ ∧ Whole wq g7 29 #[.int .u8 nl, .int .i64 nm, .int .i64 nd] ∧ Below w.heap.size w wq) (fun iv _ => N - (intOf iv).toNat)
          case atStart => exact ⟨1, by omega, by omega, rfl, HT6.out, HV6.out, HB6.out⟩
          case round =>
            obtain ⟨i, hi1, hiN, rfl, hT7, hV7, hB7⟩ := hrel
            have HT7 := Lib.hid hT7; have HV7 := Lib.hid hV7; have HB7 := Lib.hid hB7
            clear hT7 hV7 hB7
            have v0 : wr.cell? ⟨g5, 0, none⟩ = some (.int .u8 tl) := HT7.out.tk.cell 0
            have v1 : wr.cell? ⟨g5, 1, none⟩ = some (.int .i64 N) := HT7.out.tk.cell 1
            have v2 : wr.cell? ⟨g5, 2, none⟩ = some (.int .i64 td) := HT7.out.tk.cell 2
            by_cases hlt : i < N
            · have hc := CH.out wr (a + i) (by omega) HT7.out.ch
              rw [show ((a + i : Nat) : Int) = (a : Int) + i by omega] at hc
              have HCC := Lib.hid hc; clear hc
              go_wp2_with fail
              refine HCC.out.mono ?_
              rintro e w8 ⟨rfl, hC8, hO8⟩
              have HT8 := Lib.hid (HT7.out.kept hC8 hO8)
              have HV8 := Lib.hid (HT7.out.ch.keepW hO8 HV7.out)
              have HB8 := Lib.hid (HB7.out.trans (hO8.below HB7.out.size (fun i hi => by have h1 := HG.out.M; have h2 := HG.out.g; rw [HKL.out] at h1 h2; rcases hi with rfl | rfl <;> assumption)))
              clear hC8 hO8
              go_wp2_with fail
              go_roundw
              case rel => exact ⟨i + 1, by omega, by omega, by go_num, HT8.out, HV8.out, HB8.out⟩
              case measure => simp [intOf]; omega
            · obtain rfl : i = N := by omega
              have CS := size_any tl i td wr
              rw [show max (i : Int) 1 = i by omega] at CS
              have HCS := Lib.hid CS; clear CS
              have dgt : decide ((0 : Int) < i) = true := decide_eq_true (by omega)
              have dgt' : decide (0 < i) = true := decide_eq_true (by omega)
              go_wp2_with fail
              refine HCS.out.mono ?_
              rintro e w8 ⟨rfl, hb8⟩
              have HT8 := Lib.hid (HT7.out.below hb8)
              have HV8 := Lib.hid (HV7.out.only (Only.of_below hb8 Nob) (fun h => h))
              have HB8 := Lib.hid (HB7.out.trans (hb8.mono HB7.out.size))
              clear hb8 v0 v1 v2
              have u1 : w8.cell? ⟨g5, 1, none⟩ = some (.int .i64 i) := HT8.out.tk.cell 1
              have hc := CF.out w8 (a + i) (a + i) (Nat.le_refl _) HT8.out.ch
              rw [show ((a + i : Nat) : Int) = (a : Int) + i by omega] at hc
              have HCC := Lib.hid hc; clear hc
              go_wp2_with fail
              refine HCC.out.mono ?_
              rintro e w9 ⟨⟨ml, mm, md⟩, hM9, hM90, rfl, hb9⟩
              simp only [tokV]
              simp only at hM90
              have HM9 : Hid (a + i < n → Fits bs (a + i) ⟨ml, mm, md⟩) := Lib.hid (by rw [← HKN.out, ← HKB.out]; exact hM9)
              have HT9 := Lib.hid (HT8.out.below hb9)
              have HV9 := Lib.hid (HV8.out.only (Only.of_below hb9 Nob) (fun h => h))
              have HB9 := Lib.hid (HB8.out.trans (hb9.mono HB8.out.size))
              have q0 := HV9.out.frozen 0
              have q1 := HV9.out.frozen 1
              have q2 := HV9.out.frozen 2
              clear hb9 u1 hM9
              have n0 : w9.cell? ⟨g7, 0, none⟩ = some (.int .u8 nl) := HV9.out.cell 0
              have n1 : w9.cell? ⟨g7, 1, none⟩ = some (.int .i64 nm) := HV9.out.cell 1
              have n2 : w9.cell? ⟨g7, 2, none⟩ = some (.int .i64 nd) := HV9.out.cell 2
              have HT10 := Lib.hid (HT9.out.beside HV9.out hg7 HS71.out (by rw [HKL.out]; exact hg7B) (only_put3 w9 g7 (.int .u8 ml) (.int .i64 mm) (.int .i64 md)))
              have HV10 := Lib.hid (HV9.out.put3 (.int .u8 ml) (.int .i64 mm) (.int .i64 md))
              have HB10 := Lib.hid (below_put3 HB9.out hg7B (.int .u8 ml) (.int .i64 mm) (.int .i64 md))
              have z0 := HT10.out.tk.frozen 0
              have z1 := HT10.out.tk.frozen 1
              have z2 := HT10.out.tk.frozen 2
              have v0 : (((w9.setCell ⟨g7, 0, none⟩ (.int .u8 ml)).setCell ⟨g7, 1, none⟩ (.int .i64 mm)).setCell ⟨g7, 2, none⟩ (.int .i64 md)).cell? ⟨g5, 0, none⟩ = some (.int .u8 tl) := HT10.out.tk.cell 0
              have v1 : (((w9.setCell ⟨g7, 0, none⟩ (.int .u8 ml)).setCell ⟨g7, 1, none⟩ (.int .i64 mm)).setCell ⟨g7, 2, none⟩ (.int .i64 md)).cell? ⟨g5, 1, none⟩ = some (.int .i64 i) := HT10.out.tk.cell 1
              have v2 : (((w9.setCell ⟨g7, 0, none⟩ (.int .u8 ml)).setCell ⟨g7, 1, none⟩ (.int .i64 mm)).setCell ⟨g7, 2, none⟩ (.int .i64 md)).cell? ⟨g5, 2, none⟩ = some (.int .i64 td) := HT10.out.tk.cell 2
              have m0 : (((w9.setCell ⟨g7, 0, none⟩ (.int .u8 ml)).setCell ⟨g7, 1, none⟩ (.int .i64 mm)).setCell ⟨g7, 2, none⟩ (.int .i64 md)).cell? ⟨g7, 0, none⟩ = some (.int .u8 ml) := HV10.out.cell 0
              have m1 : (((w9.setCell ⟨g7, 0, none⟩ (.int .u8 ml)).setCell ⟨g7, 1, none⟩ (.int .i64 mm)).setCell ⟨g7, 2, none⟩ (.int .i64 md)).cell? ⟨g7, 1, none⟩ = some (.int .i64 mm) := HV10.out.cell 1
              have m2 : (((w9.setCell ⟨g7, 0, none⟩ (.int .u8 ml)).setCell ⟨g7, 1, none⟩ (.int .i64 mm)).setCell ⟨g7, 2, none⟩ (.int .i64 md)).cell? ⟨g7, 2, none⟩ = some (.int .i64 md) := HV10.out.cell 2
              go_wp2_with fail
              have hA6 := HA6.out
              rw [show (max (i : Int) 1).toNat = i by omega] at hA6
              have hE6 := HE6.out
              rw [show (max (i : Int) 1).toNat = i by omega] at hE6
              go_roundw
              case rel => exact ⟨a + i, l ++ [⟨tl, i, td⟩], ⟨ml, mm, md⟩, by omega, by go_num, HT10.out.put ml mm md, hE6, by simp; omega, HM9.out, hM90, below_put3 HB10.out hg5 _ _ _⟩
              case measure => simp [intOf]; omega
    · obtain rfl : a = n := by omega
      have hown := HT.out.own
      obtain ⟨As, cs, rfl, _⟩ := own_form hown
      clear hown
      go_wp2_with fail
      go_ret
      refine ⟨l, _, rfl, HT.out.own, ?_, hll, HBel.out⟩
      rw [HE.out, List.take_of_length_le (by rw [HB.out]; exact Nat.le_refl _)]
end Go.Proofs.Ythlgceeldnhhbaa
