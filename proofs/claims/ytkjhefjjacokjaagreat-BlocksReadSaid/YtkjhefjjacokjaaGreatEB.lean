/-
  Contracts of Fixed and Dynamic, of tokens; a writer beside rows of tokens and bytes. Conditions: tokens are right, at most a thousand.
  Contracts of FixedBits and DynamicBits, of tokens. Conditions: tokens are right, at most a thousand.
  The document's FixedBits. Conditions: tokens are right, at most a thousand.
-/
import Derived.Test.YtkjhefjjacokjaaGreatDM
import Derived.Test.YtkjhefjjacokjaaGreatST
import Derived.Test.YtkjhefjjacokjaaGreatTL
import Derived.Test.YtkjhefjjacokjaaGreatIG
import Derived.Test.YtkjhefjjacokjaaGreatRX
import Derived.Test.YtkjhefjjacokjaaGreatLT
namespace Go.Proofs.YtkjhefjjacokjaaGreat
open Go.RowKit
set_option maxRecDepth 100000
theorem PutPost.fromB {w0 w w' : World} {B g : Nat} {sv : Value} {bits : List Bool} (h : PutPost w B g sv bits w') (hb : Below w0.heap.size w0 w) : PutPost w0 B g sv bits w' := by
  obtain ⟨s, h1, h2, h3⟩ := h
  exact ⟨s, h1, (Only.of_below hb _).trans h2, fun k hk => (h3 k hk).imp id (fun h => Nat.le_trans hb.size h)⟩
set_option maxHeartbeats 4000000 in
theorem written_fixT (B g : Nat) (sv : Value) (bits : List Bool) (hbl : bits.length ≤ 1000) (last : Bool) (At : Option Addr) (nt ct Bt : Nat) (l : List Tok) (hl : Tks l) (hnt : nt ≤ 1000) (hln : l.length = nt)
    (w : World) (hw : WriterAt w B g sv bits) (hst : Seen w Bt 3 At nt ct (tvs l)) (hBt : Bt ≤ w.heap.size) (hT : ToksIn w At nt ct l) :
    Calls Tryz.prog 24 #[.pointer (some ⟨g, 0, none⟩), .slice At nt ct, .bool last, .func (.func 25) #[] #[]] w fun e w' => e = .returned (.int .i64 0) ∧ PutPost w B g sv (bits ++ fixW l last) w' := by
  obtain ⟨Z, hZ⟩ : ∃ Z, bits ++ fixW l last = Z := ⟨_, rfl⟩
  rw [hZ]
  have HZ := Lib.hid hZ
  clear hZ
  have hCW : CntW (cntL l cnt0) l := ⟨rfl, hl, by omega⟩
  have hall : l.all rightT = true := List.all_eq_true.2 (fun t ht => (hl t ht).2)
  have CN := Lib.hid (tcounted_any At nt ct Bt l (fun t ht => (hl t ht).1) hnt w hst hBt)
  obtain ⟨F, hF⟩ : ∃ F, cntL l cnt0 = F := ⟨_, rfl⟩
  unfold CntRes at CN
  rw [hF] at hCW CN
  have CF := Lib.hid (fun W => fixedBlock_any F W)
  have HI := Lib.hid (show (Tryz.prog.info? 60).map (·.size) = some (rz 317 F).size by rw [rz_size]; exact (zero_of_info row59).2)
  have hzs9 : Hid (Tryz.zeroCells60.size = (rz 317 F).size) := Lib.hid (by rw [rz_size]; kernel_rfl)
  have hone := Lib.hid (rz_one 317 F)
  obtain ⟨R, hR⟩ : ∃ R, rz 317 F = R := ⟨_, rfl⟩
  rw [hR] at HI hzs9 hone CN CF
  have HALL := Lib.hid hall; have HCW := Lib.hid hCW; have HW := Lib.hid hw; have HT := Lib.hid hT; have HFF := Lib.hid hF
  clear hF hR hall hCW hw hst hT hl
  go_enter Tryz.func24, Tryz.ntmps24
  go_wp2_with fail
  refine CN.out.mono ?_
  rintro e w0 hres
  rcases hres with ⟨_, rfl, hb0⟩ | ⟨h0, _⟩
  rotate_left
  · rw [HALL.out] at h0; cases h0
  have B0 := Lib.hid hb0
  have W1 := Lib.hid (heap_alloc_new w0 (.cells Tryz.zeroCells60 60))
  have W2 := Lib.hid (seen59 w0 R)
  have B2 : Hid (Below w0.heap.size w0 ((w0.alloc (.cells Tryz.zeroCells60 60)).setRow w0.heap.size R)) := Lib.hid (below_setRow ((Below.refl _ _).alloc (Nat.le_refl _) _) _ (Nat.le_refl _))
  clear hb0 CN
  go_wp2_with (first
    | (refine wpList_store_row rfl 60 (.tmp 9) (.tmp 16) rfl w0.heap.size R rfl rfl 60 Tryz.zeroCells60 W1.out HI.out hzs9.out hone.out ?_)
    | (refine wpList_load_row rfl 60 (.tmp 9) rfl w0.heap.size rfl 60 R (0, 0) _ W2.out Tryz.underlying60 rfl HI.out ?_))
  generalize (w0.alloc (.cells Tryz.zeroCells60 60)).setRow w0.heap.size R = w1 at *
  have BEL := Lib.hid (B0.out.trans (B2.out.mono B0.out.size))
  refine (CF.out w1).mono ?_
  rintro e w2 hres
  obtain ⟨C, rfl, hraw, hb2⟩ := fixRaw_of hres
  have BEL2 := Lib.hid (BEL.out.trans (hb2.mono BEL.out.size))
  have K := Lib.hid (fixBlk HCW.out At nt ct hnt C w2 hraw)
  have HW2 := Lib.hid (HW.out.below BEL2.out)
  clear hres hraw hb2 W1 W2 B0 B2 BEL
  go_wp2_with fail
  refine (K.out.write w2 B g sv bits last (Tw.refl _) HW2.out (by omega) (fun _ hW => HT.out _ ((Tw.of_below BEL2.out).trans hW))).mono ?_
  rintro e w3 ⟨rfl, hp⟩
  have HPP := Lib.hid (hp.fromB BEL2.out); clear hp
  go_wp2_with fail
  go_ret
  exact ⟨rfl, by rw [← HZ.out]; exact HPP.out⟩
theorem fixed_T (B g : Nat) (sv : Value) (bits : List Bool) (hbl : bits.length ≤ 1000) (last : Bool) (At : Option Addr) (nt ct Bt : Nat) (l : List Tok) (hl : Tks l) (hnt : nt ≤ 1000) (hln : l.length = nt)
    (w : World) (hw : WriterAt w B g sv bits) (hst : Seen w Bt 3 At nt ct (tvs l)) (hBt : Bt ≤ w.heap.size) (hT : ToksIn w At nt ct l) :
    Calls Tryz.prog 9 #[.pointer (some ⟨g, 0, none⟩), .slice At nt ct, .bool last] w fun e w' => e = .returned (.int .i64 0) ∧ PutPost w B g sv (bits ++ fixW l last) w' := by
  have C := Lib.hid (written_fixT B g sv bits hbl last At nt ct Bt l hl hnt hln w hw hst hBt hT)
  obtain ⟨Z, hZ⟩ : ∃ Z, bits ++ fixW l last = Z := ⟨_, rfl⟩
  rw [hZ] at C ⊢
  clear hZ
  clear hw hst hT hl
  go_enter Tryz.func9, Tryz.ntmps9
  go_wp2_with fail
  refine C.out.mono ?_
  rintro e w1 ⟨rfl, p⟩
  have PP := Lib.hid p; clear p
  go_wp2_with fail
  go_ret
  exact ⟨rfl, PP.out⟩
set_option maxHeartbeats 4000000 in
theorem written_dynT (B g : Nat) (sv : Value) (bits : List Bool) (hbl : bits.length ≤ 1000) (last : Bool) (At : Option Addr) (nt ct Bt : Nat) (l : List Tok) (hl : Tks l) (hnt : nt ≤ 1000) (hln : l.length = nt)
    (w : World) (hw : WriterAt w B g sv bits) (hst : Seen w Bt 3 At nt ct (tvs l)) (hBt : Bt ≤ w.heap.size) (hT : ToksIn w At nt ct l) :
    Calls Tryz.prog 24 #[.pointer (some ⟨g, 0, none⟩), .slice At nt ct, .bool last, .func (.func 32) #[] #[]] w fun e w' => e = .returned (.int .i64 0) ∧ PutPost w B g sv (bits ++ dynW (cntL l cnt0) l last) w' := by
  obtain ⟨Z, hZ⟩ : ∃ Z, bits ++ dynW (cntL l cnt0) l last = Z := ⟨_, rfl⟩
  rw [hZ]
  have HZ := Lib.hid hZ
  clear hZ
  have hCW : CntW (cntL l cnt0) l := ⟨rfl, hl, by omega⟩
  have hall : l.all rightT = true := List.all_eq_true.2 (fun t ht => (hl t ht).2)
  have CN := Lib.hid (tcounted_any At nt ct Bt l (fun t ht => (hl t ht).1) hnt w hst hBt)
  obtain ⟨F, hF⟩ : ∃ F, cntL l cnt0 = F := ⟨_, rfl⟩
  unfold CntRes at CN
  rw [hF] at hCW CN
  have CF := Lib.hid (fun W => dynamicBlock_any F hCW.ok W)
  have HI := Lib.hid (show (Tryz.prog.info? 60).map (·.size) = some (rz 317 F).size by rw [rz_size]; exact (zero_of_info row59).2)
  have hzs9 : Hid (Tryz.zeroCells60.size = (rz 317 F).size) := Lib.hid (by rw [rz_size]; kernel_rfl)
  have hone := Lib.hid (rz_one 317 F)
  obtain ⟨R, hR⟩ : ∃ R, rz 317 F = R := ⟨_, rfl⟩
  rw [hR] at HI hzs9 hone CN CF
  have HALL := Lib.hid hall; have HCW := Lib.hid hCW; have HW := Lib.hid hw; have HT := Lib.hid hT; have HFF := Lib.hid hF
  clear hF hR hall hCW hw hst hT hl
  go_enter Tryz.func24, Tryz.ntmps24
  go_wp2_with fail
  refine CN.out.mono ?_
  rintro e w0 hres
  rcases hres with ⟨_, rfl, hb0⟩ | ⟨h0, _⟩
  rotate_left
  · rw [HALL.out] at h0; cases h0
  have B0 := Lib.hid hb0
  have W1 := Lib.hid (heap_alloc_new w0 (.cells Tryz.zeroCells60 60))
  have W2 := Lib.hid (seen59 w0 R)
  have B2 : Hid (Below w0.heap.size w0 ((w0.alloc (.cells Tryz.zeroCells60 60)).setRow w0.heap.size R)) := Lib.hid (below_setRow ((Below.refl _ _).alloc (Nat.le_refl _) _) _ (Nat.le_refl _))
  clear hb0 CN
  go_wp2_with (first
    | (refine wpList_store_row rfl 60 (.tmp 9) (.tmp 16) rfl w0.heap.size R rfl rfl 60 Tryz.zeroCells60 W1.out HI.out hzs9.out hone.out ?_)
    | (refine wpList_load_row rfl 60 (.tmp 9) rfl w0.heap.size rfl 60 R (0, 0) _ W2.out Tryz.underlying60 rfl HI.out ?_))
  generalize (w0.alloc (.cells Tryz.zeroCells60 60)).setRow w0.heap.size R = w1 at *
  have BEL := Lib.hid (B0.out.trans (B2.out.mono B0.out.size))
  refine (CF.out w1).mono ?_
  rintro e w2 hres
  obtain ⟨C, rfl, hraw, hb2⟩ := dynRaw_of hres
  have BEL2 := Lib.hid (BEL.out.trans (hb2.mono BEL.out.size))
  have K := Lib.hid (dynBlk HCW.out At nt ct hnt C w2 hraw)
  have HW2 := Lib.hid (HW.out.below BEL2.out)
  clear hres hraw hb2 W1 W2 B0 B2 BEL
  go_wp2_with fail
  refine (K.out.write w2 B g sv bits last (Tw.refl _) HW2.out (by omega) (fun _ hW => HT.out _ ((Tw.of_below BEL2.out).trans hW))).mono ?_
  rintro e w3 ⟨rfl, hp⟩
  have HPP := Lib.hid (hp.fromB BEL2.out); clear hp
  go_wp2_with fail
  go_ret
  exact ⟨rfl, by rw [← HZ.out, HFF.out]; exact HPP.out⟩
theorem dynamic_T (B g : Nat) (sv : Value) (bits : List Bool) (hbl : bits.length ≤ 1000) (last : Bool) (At : Option Addr) (nt ct Bt : Nat) (l : List Tok) (hl : Tks l) (hnt : nt ≤ 1000) (hln : l.length = nt)
    (w : World) (hw : WriterAt w B g sv bits) (hst : Seen w Bt 3 At nt ct (tvs l)) (hBt : Bt ≤ w.heap.size) (hT : ToksIn w At nt ct l) :
    Calls Tryz.prog 12 #[.pointer (some ⟨g, 0, none⟩), .slice At nt ct, .bool last] w fun e w' => e = .returned (.int .i64 0) ∧ PutPost w B g sv (bits ++ dynW (cntL l cnt0) l last) w' := by
  have C := Lib.hid (written_dynT B g sv bits hbl last At nt ct Bt l hl hnt hln w hw hst hBt hT)
  obtain ⟨Z, hZ⟩ : ∃ Z, bits ++ dynW (cntL l cnt0) l last = Z := ⟨_, rfl⟩
  rw [hZ] at C ⊢
  clear hZ
  clear hw hst hT hl
  go_enter Tryz.func12, Tryz.ntmps12
  go_wp2_with fail
  refine C.out.mono ?_
  rintro e w1 ⟨rfl, p⟩
  have PP := Lib.hid p; clear p
  go_wp2_with fail
  go_ret
  exact ⟨rfl, PP.out⟩
theorem own_tw41 {w w' : World} {base n : Nat} {v : Value} {xs : List Value} (h : w.ownsRow base 42 3 v n xs) (ho : Tw w w') : w'.ownsRow base 42 3 v n xs :=
  own_only h ho (fun k hk => by
    rintro ⟨t, cs, hW, ht⟩
    obtain ⟨_, cs', hW'⟩ := own_whole h hk
    rcases ht with rfl | rfl
    · exact hW'.ne hW (by decide) rfl
    · exact hW'.ne hW (by decide) rfl)
/-- A writer, beside a row of tokens and a row of bytes. -/
structure PenAt (w0 : World) (Ao : Option Addr) (nt co : Nat) (P : List Tok) (Ab : Option Addr) (nb cb : Nat) (bs : List Nat) (w : World) (gw : Nat) (sv : Value) (X : List Bool) : Prop where
  wr : WriterAt w gw gw sv X
  new : ∀ k, sv.ownBlock = some k → gw ≤ k
  o : w.ownsRow w0.heap.size 42 3 (.slice Ao nt co) nt (tvs P)
  b : w.ownsRow w0.heap.size 5 1 (.slice Ab nb cb) nb (bx bs)
  old : ∀ k, (Value.slice Ab nb cb).ownBlock = some k → k < gw
  lo : w0.heap.size ≤ gw
  bel : Below w0.heap.size w0 w
section
variable {w0 w w' : World} {Ao : Option Addr} {nt co : Nat} {P : List Tok} {Ab : Option Addr} {nb cb : Nat} {bs : List Nat} {gw : Nat} {sv : Value} {X Y : List Bool}
theorem PenAt.far (h : PenAt w0 Ao nt co P Ab nb cb bs w gw sv X) : ∀ k, (Value.slice Ab nb cb).ownBlock = some k → ¬ Foot gw sv k := fun k hk e => by
  have := h.old k hk
  rcases e with e | e
  · omega
  · have := h.new k e; omega
theorem PenAt.bytes (h : PenAt w0 Ao nt co P Ab nb cb bs w gw sv X) : BytesIn w gw sv Ab nb cb bs := fun _ hW =>
  ⟨_, Seen.of_own (own_only h.b hW (fun k hk => h.far k hk))⟩
theorem PenAt.toks (h : PenAt w0 Ao nt co P Ab nb cb bs w gw sv X) : ToksIn w Ao nt co P := fun _ hW =>
  ⟨_, Nat.le_refl _, Seen.of_own (own_tw41 h.o hW)⟩
theorem PenAt.step (h : PenAt w0 Ao nt co P Ab nb cb bs w gw sv X) (p : PutPost w gw gw sv Y w') : ∃ sv', PenAt w0 Ao nt co P Ab nb cb bs w' gw sv' Y := by
  have ht := Tw.of_put h.wr p
  obtain ⟨sv', p1, p2, p3⟩ := p
  refine ⟨sv', p1, fun k hk => ?_, own_tw41 h.o ht, own_only h.b p2 (fun k hk => h.far k hk), h.old, h.lo, h.bel.trans (p2.below h.bel.size (fun k hk => ?_))⟩
  · rcases p3 k hk with e | e
    · exact h.new k e
    · have := h.wr.2.1.lt; omega
  · have := h.lo
    rcases hk with e | e
    · omega
    · have := h.new k e; omega
end

end Go.Proofs.YtkjhefjjacokjaaGreat

namespace Go.Proofs.YtkjhefjjacokjaaGreat
open Go.RowKit
set_option maxRecDepth 100000
set_option maxHeartbeats 4000000 in
theorem bitsOf_fixT (At : Option Addr) (nt ct Bt : Nat) (l : List Tok) (hl : Tks l) (hnt : nt ≤ 1000) (hln : l.length = nt)
    (w : World) (hst : Seen w Bt 3 At nt ct (tvs l)) (hBt : Bt ≤ w.heap.size) :
    Calls Tryz.prog 26 #[.slice At nt ct, .func (.func 25) #[] #[]] w (Gives w (.int .i64 (fixM l : Nat))) := by
  have hCW : CntW (cntL l cnt0) l := ⟨rfl, hl, by omega⟩
  have hall : l.all rightT = true := List.all_eq_true.2 (fun t ht => (hl t ht).2)
  have CN := Lib.hid (tcounted_any At nt ct Bt l (fun t ht => (hl t ht).1) hnt w hst hBt)
  obtain ⟨F, hF⟩ : ∃ F, cntL l cnt0 = F := ⟨_, rfl⟩
  unfold CntRes at CN
  rw [hF] at hCW CN
  have CF := Lib.hid (fun W => fixedBlock_any F W)
  have HI := Lib.hid (show (Tryz.prog.info? 60).map (·.size) = some (rz 317 F).size by rw [rz_size]; exact (zero_of_info row59).2)
  have hzs9 : Hid (Tryz.zeroCells60.size = (rz 317 F).size) := Lib.hid (by rw [rz_size]; kernel_rfl)
  have hone := Lib.hid (rz_one 317 F)
  obtain ⟨R, hR⟩ : ∃ R, rz 317 F = R := ⟨_, rfl⟩
  rw [hR] at HI hzs9 hone CN CF
  have HALL := Lib.hid hall; have HCW := Lib.hid hCW; have HFF := Lib.hid hF
  clear hF hR hall hCW hst hl
  go_enter Tryz.func26, Tryz.ntmps26
  go_wp2_with fail
  refine CN.out.mono ?_
  rintro e w0 hres
  rcases hres with ⟨_, rfl, hb0⟩ | ⟨h0, _⟩
  rotate_left
  · rw [HALL.out] at h0; cases h0
  have B0 := Lib.hid hb0
  have W1 := Lib.hid (heap_alloc_new w0 (.cells Tryz.zeroCells60 60))
  have W2 := Lib.hid (seen59 w0 R)
  have B2 : Hid (Below w0.heap.size w0 ((w0.alloc (.cells Tryz.zeroCells60 60)).setRow w0.heap.size R)) := Lib.hid (below_setRow ((Below.refl _ _).alloc (Nat.le_refl _) _) _ (Nat.le_refl _))
  clear hb0 CN
  go_wp2_with (first
    | (refine wpList_store_row rfl 60 (.tmp 5) (.tmp 10) rfl w0.heap.size R rfl rfl 60 Tryz.zeroCells60 W1.out HI.out hzs9.out hone.out ?_)
    | (refine wpList_load_row rfl 60 (.tmp 5) rfl w0.heap.size rfl 60 R (0, 0) _ W2.out Tryz.underlying60 rfl HI.out ?_))
  generalize (w0.alloc (.cells Tryz.zeroCells60 60)).setRow w0.heap.size R = w1 at *
  have BEL := Lib.hid (B0.out.trans (B2.out.mono B0.out.size))
  refine (CF.out w1).mono ?_
  rintro e w2 hres
  obtain ⟨C, rfl, hraw, hb2⟩ := fixRaw_of hres
  have BEL2 := Lib.hid (BEL.out.trans (hb2.mono BEL.out.size))
  have K := Lib.hid (fixBlk HCW.out At nt ct hnt C w2 hraw)
  clear hres hraw hb2 W1 W2 B0 B2 BEL
  go_wp2_with fail
  refine (K.out.bits w2 (Tw.refl _)).mono ?_
  rintro e w3 ⟨rfl, hb3⟩
  have BEL3 := Lib.hid (BEL2.out.trans (hb3.mono BEL2.out.size))
  clear hb3 BEL2
  go_wp2_with fail
  go_ret
  exact ⟨rfl, BEL3.out⟩
theorem fixedBits_T (At : Option Addr) (nt ct Bt : Nat) (l : List Tok) (hl : Tks l) (hnt : nt ≤ 1000) (hln : l.length = nt)
    (w : World) (hst : Seen w Bt 3 At nt ct (tvs l)) (hBt : Bt ≤ w.heap.size) :
    Calls Tryz.prog 10 #[.slice At nt ct] w (Gives w (.int .i64 (fixM l : Nat))) := by
  have C := Lib.hid (bitsOf_fixT At nt ct Bt l hl hnt hln w hst hBt)
  clear hst hl
  go_enter Tryz.func10, Tryz.ntmps10
  go_wp2_with fail
  refine C.out.mono ?_
  rintro e w1 ⟨rfl, hb⟩
  have BB := Lib.hid hb; clear hb
  go_wp2_with fail
  go_ret
  exact ⟨rfl, BB.out⟩
set_option maxHeartbeats 4000000 in
theorem bitsOf_dynT (At : Option Addr) (nt ct Bt : Nat) (l : List Tok) (hl : Tks l) (hnt : nt ≤ 1000) (hln : l.length = nt)
    (w : World) (hst : Seen w Bt 3 At nt ct (tvs l)) (hBt : Bt ≤ w.heap.size) :
    Calls Tryz.prog 26 #[.slice At nt ct, .func (.func 32) #[] #[]] w (Gives w (.int .i64 (dynM (cntL l cnt0) l : Nat))) := by
  have hCW : CntW (cntL l cnt0) l := ⟨rfl, hl, by omega⟩
  have hall : l.all rightT = true := List.all_eq_true.2 (fun t ht => (hl t ht).2)
  have CN := Lib.hid (tcounted_any At nt ct Bt l (fun t ht => (hl t ht).1) hnt w hst hBt)
  obtain ⟨F, hF⟩ : ∃ F, cntL l cnt0 = F := ⟨_, rfl⟩
  unfold CntRes at CN
  rw [hF] at hCW CN
  have CF := Lib.hid (fun W => dynamicBlock_any F hCW.ok W)
  have HI := Lib.hid (show (Tryz.prog.info? 60).map (·.size) = some (rz 317 F).size by rw [rz_size]; exact (zero_of_info row59).2)
  have hzs9 : Hid (Tryz.zeroCells60.size = (rz 317 F).size) := Lib.hid (by rw [rz_size]; kernel_rfl)
  have hone := Lib.hid (rz_one 317 F)
  obtain ⟨R, hR⟩ : ∃ R, rz 317 F = R := ⟨_, rfl⟩
  rw [hR] at HI hzs9 hone CN CF
  have HALL := Lib.hid hall; have HCW := Lib.hid hCW; have HFF := Lib.hid hF
  clear hF hR hall hCW hst hl
  go_enter Tryz.func26, Tryz.ntmps26
  go_wp2_with fail
  refine CN.out.mono ?_
  rintro e w0 hres
  rcases hres with ⟨_, rfl, hb0⟩ | ⟨h0, _⟩
  rotate_left
  · rw [HALL.out] at h0; cases h0
  have B0 := Lib.hid hb0
  have W1 := Lib.hid (heap_alloc_new w0 (.cells Tryz.zeroCells60 60))
  have W2 := Lib.hid (seen59 w0 R)
  have B2 : Hid (Below w0.heap.size w0 ((w0.alloc (.cells Tryz.zeroCells60 60)).setRow w0.heap.size R)) := Lib.hid (below_setRow ((Below.refl _ _).alloc (Nat.le_refl _) _) _ (Nat.le_refl _))
  clear hb0 CN
  go_wp2_with (first
    | (refine wpList_store_row rfl 60 (.tmp 5) (.tmp 10) rfl w0.heap.size R rfl rfl 60 Tryz.zeroCells60 W1.out HI.out hzs9.out hone.out ?_)
    | (refine wpList_load_row rfl 60 (.tmp 5) rfl w0.heap.size rfl 60 R (0, 0) _ W2.out Tryz.underlying60 rfl HI.out ?_))
  generalize (w0.alloc (.cells Tryz.zeroCells60 60)).setRow w0.heap.size R = w1 at *
  have BEL := Lib.hid (B0.out.trans (B2.out.mono B0.out.size))
  refine (CF.out w1).mono ?_
  rintro e w2 hres
  obtain ⟨C, rfl, hraw, hb2⟩ := dynRaw_of hres
  have BEL2 := Lib.hid (BEL.out.trans (hb2.mono BEL.out.size))
  have K := Lib.hid (dynBlk HCW.out At nt ct hnt C w2 hraw)
  clear hres hraw hb2 W1 W2 B0 B2 BEL
  go_wp2_with fail
  refine (K.out.bits w2 (Tw.refl _)).mono ?_
  rintro e w3 ⟨rfl, hb3⟩
  have BEL3 := Lib.hid (BEL2.out.trans (hb3.mono BEL2.out.size))
  clear hb3 BEL2
  go_wp2_with fail
  go_ret
  exact ⟨by rw [HFF.out]; rfl, BEL3.out⟩
theorem dynamicBits_T (At : Option Addr) (nt ct Bt : Nat) (l : List Tok) (hl : Tks l) (hnt : nt ≤ 1000) (hln : l.length = nt)
    (w : World) (hst : Seen w Bt 3 At nt ct (tvs l)) (hBt : Bt ≤ w.heap.size) :
    Calls Tryz.prog 13 #[.slice At nt ct] w (Gives w (.int .i64 (dynM (cntL l cnt0) l : Nat))) := by
  have C := Lib.hid (bitsOf_dynT At nt ct Bt l hl hnt hln w hst hBt)
  clear hst hl
  go_enter Tryz.func13, Tryz.ntmps13
  go_wp2_with fail
  refine C.out.mono ?_
  rintro e w1 ⟨rfl, hb⟩
  have BB := Lib.hid hb; clear hb
  go_wp2_with fail
  go_ret
  exact ⟨rfl, BB.out⟩
end Go.Proofs.YtkjhefjjacokjaaGreat

namespace Go.Proofs.YtkjhefjjacokjaaGreat
open Go.RowKit
set_option maxRecDepth 100000
theorem seen_at {w : World} {B b o n c : Nat} {l : List Int} (h : Seen w B 1 (some ⟨b, o, none⟩) n c (iv l)) (hn : l.length = n) {k : Nat} (hk : k < n) : w.cell? ⟨b, o + k, none⟩ = some (.int .i64 (l.getD k 0)) := by
  obtain ⟨b', o', e, _, hc⟩ := h.int hn hk
  simp only [Option.some.injEq, Addr.mk.injEq] at e
  obtain ⟨e1, e2, _⟩ := e
  subst e1; subst e2
  rw [hc]
  simp [List.getD, show k < l.length by omega]
theorem fxS_get (s : Nat) (hs : s < 288) : fixL.getD s 0 = ((len fxS s : Nat) : Int) ∧ len fxS s ≤ 9 := by
  rw [fx_is.1]
  have e : fxS.getD s 0 = fixS s := by unfold fxS; simp [List.getD, hs]
  unfold len
  rw [e]
  unfold fixS
  repeat (first | omega | split)
theorem fxD_len (s : Nat) (hs : s < 32) : len fxD s = 5 := by
  unfold len fxD
  simp [List.getD, hs]
theorem tokF_lit {t : Tok} (h : t.len = 0) : (tokB fxS fxD t).length = len fxS t.lit := by rw [tokB_lit h, wb_length]
theorem tokF_copy {t : Tok} (hr : rightT t = true) (h : t.len ≠ 0) : (tokB fxS fxD t).length = len fxS (lsn t.len.toNat) + lenM (lsn t.len.toNat) + 5 + dstM (dsn t.dist.toNat) := by
  have := dsn_tok hr h
  rw [tokB_copy h]
  simp only [List.length_append, wb_length, bitsOf_length]
  rw [fxD_len _ (by omega)]
  omega
/-- What the first k tokens take. -/
def fbk (l : List Tok) (k : Nat) : Nat := 10 + ((l.take k).flatMap (tokB fxS fxD)).length
theorem fbk_next (l : List Tok) (k : Nat) (t : Tok) (h : l[k]? = some t) : fbk l (k + 1) = fbk l k + (tokB fxS fxD t).length := by
  obtain ⟨hk, ht⟩ := List.getElem?_eq_some_iff.1 h
  unfold fbk
  rw [flat_takeT l _ k hk, ht, List.length_append]
  omega
theorem fbk_end (l : List Tok) : fbk l l.length = fixM l := by
  unfold fbk fixM
  rw [List.take_length, show len fxS 256 = 7 by decide]
  omega
theorem tokF_le {t : Tok} (hr : rightT t = true) : (tokB fxS fxD t).length ≤ 100 := by
  have := flat_toks fxS fxD (fun x hx => ?_) (fun x hx => ?_) [t] (fun u hu => ?_)
  · simp at this; omega
  · have := fx_small.1 x hx
    obtain ⟨i, _, rfl⟩ := List.mem_map.1 hx
    unfold fixS
    repeat (first | omega | split)
  · obtain ⟨i, _, rfl⟩ := List.mem_map.1 hx
    omega
  · rw [List.mem_singleton.1 hu]; exact hr
set_option maxHeartbeats 2000000 in
theorem refFixedBits_any (At : Option Addr) (nt ct Bt : Nat) (l : List Tok) (hl : Tks l) (hnt : nt ≤ 1000) (hln : l.length = nt) (w : World) (hst : Seen w Bt 3 At nt ct (tvs l)) (hBt : Bt ≤ w.heap.size) :
    Calls Tryz.prog 11 #[.slice At nt ct] w (Gives w (.int .i64 (fixM l : Nat))) := by
  have FX := Lib.hid (rfixed_any w)
  have HST := Lib.hid hst; have HL := Lib.hid hl; have HN := Lib.hid hln
  clear hst hl hln
  unfold RFix at FX
  go_enter Tryz.func11, Tryz.ntmps11
  go_wp2_with fail
  refine FX.out.mono ?_
  rintro e w1 ⟨u, v, rfl, hu, hv, hb⟩
  obtain ⟨A1, c1, rfl, _⟩ := own_form hu
  obtain ⟨A2, c2, rfl, _⟩ := own_form hv
  have FS := Lib.hid (Seen.of_own hu)
  obtain ⟨b1, o1, rfl, hb1, _⟩ := FS.out.int (l := fixL) rfl (k := 0) (by omega)
  have B1 := Lib.hid hb
  clear hu hv hb FX
  have c256 := seen_at FS.out (l := fixL) rfl (k := 256) (by omega)
  rw [show fixL.getD 256 0 = 7 by decide] at c256
  go_wp2_with fail
  clear c256
  have w1sz := B1.out.size
  go_loopw [5, 7, 8, 9, 10, 11, 12, 13, 14, 15, 16, 17, 18, 19, 30] (fun a5 _ _ _ _ _ _ _ _ _ _ _ _ _ a30 wr => ∃ k : Nat, k ≤ nt ∧ a5 = .int .i64 (fbk l k : Nat) ∧ a30 = .int .i64 k ∧ fbk l k ≤ 10 + 100 * k ∧ Below w1.heap.size w1 wr) (fun _ _ _ _ _ _ _ _ _ _ _ _ _ _ i _ => nt - (intOf i).toNat)
  case atStart => exact ⟨0, Nat.zero_le _, rfl, rfl, by simp [fbk], Below.refl _ _⟩
  case round =>
    obtain ⟨k, hk, rfl, rfl, hfb, hbel⟩ := hrel
    by_cases hlt : k < nt
    · obtain ⟨t, b, of', ht, rfl, hbB, c0, c1, c2⟩ := ((HST.out.below (B1.out.mono hBt)).below (hbel.mono (by omega))).tok hlt
      have hbr : b < wr.heap.size := by have := hbel.size; omega
      have hne : wr.heap.size ≠ b := by omega
      obtain ⟨hkl, ht2⟩ := List.getElem?_eq_some_iff.1 ht
      have hmem : t ∈ l := by rw [← ht2]; exact List.getElem_mem hkl
      obtain ⟨htl, htr⟩ := HL.out t hmem
      have hnx := fbk_next l k t ht
      have hle := tokF_le htr
      have HF := Lib.hid hnx; have HFB := Lib.hid hfb; have HBE := Lib.hid hbel
      have hk0 : (0 : Int) ≤ k := by omega
      have hklt : (k : Int) < nt := by omega
      by_cases hz : t.len = 0
      · have hg := fxS_get t.lit (by omega)
        have hc := seen_at (FS.out.below hbel) (l := fixL) rfl (k := t.lit) (by omega)
        rw [hg.1] at hc
        have hc' : (wr.alloc (.cells #[.int .u8 t.lit, .int .i64 t.len, .int .i64 t.dist] 42)).cell? ⟨b1, o1 + t.lit, none⟩ = some (.int .i64 ((len fxS t.lit : Nat) : Int)) := by
          rw [World.cell?_of_block ((Below.refl wr.heap.size wr).alloc (Nat.le_refl _) _ |>.block b1 (by have := hbel.size; omega))]
          exact hc
        rw [tokF_lit hz] at HF
        have BN := Lib.hid ((hbel.alloc (Nat.le_trans (Nat.le_refl _) hbel.size) (.cells #[.int .u8 t.lit, .int .i64 t.len, .int .i64 t.dist] 42)))
        rw [tokF_lit hz] at hle
        obtain ⟨tl, tn, td⟩ := t
        simp only at c0 c1 c2 htl hz hc' hle BN HF
        subst hz
        obtain ⟨V, hV⟩ : ∃ V, fbk l k = V := ⟨_, rfl⟩
        obtain ⟨U, hU⟩ : ∃ V, len fxS tl = V := ⟨_, rfl⟩
        rw [hV] at HF HFB ⊢
        rw [hU] at HF hc' hle
        have t0 : (0 : Int) ≤ tl := by omega
        have t1 : (tl : Int) < 288 := by omega
        have hvb := HFB.out
        clear hV hU hc hg ht ht2 hkl hmem htr hnx hfb hbel hbr
        go_wp2_with fail
        go_roundw
        case rel => exact ⟨k + 1, by omega, by rw [HF.out]; go_num, by go_num, by rw [HF.out]; omega, BN.out⟩
        case measure => simp [intOf]; omega
      · obtain ⟨r1, r2, r3, r4, r5⟩ := rightT_copy htr hz
        obtain ⟨tl, tn, td⟩ := t
        simp only at c0 c1 c2 htl hz r1 r2 r3 r4 r5
        obtain ⟨n, rfl⟩ : ∃ n : Nat, tn = n := ⟨tn.toNat, by omega⟩
        obtain ⟨dd, rfl⟩ : ∃ n : Nat, td = n := ⟨td.toNat, by omega⟩
        obtain ⟨p1, p2, p3, p4⟩ := lsn_part n (by omega) (by omega)
        obtain ⟨d1, d2, d3⟩ := dsn_part dd (by omega) (by omega)
        have CLS := Lib.hid (fun W => refLengthSign_any n W)
        rw [lsV_in n (by omega) (by omega)] at CLS
        have CL := Lib.hid (fun W => refLength_any (lsn n : Nat) W)
        rw [if_neg (by omega), Int.toNat_natCast, lenOf_some p1 p2] at CL
        have CDS := Lib.hid (fun W => refDistanceSign_any dd W)
        rw [dsV_in dd (by omega) (by omega)] at CDS
        have CDD := Lib.hid (fun W => refDistance_any (dsn dd : Nat) W)
        rw [if_neg (by omega), Int.toNat_natCast, dstOf_some d1] at CDD
        simp only [optV] at CL CDD
        have hg := fxS_get (lsn n) (by omega)
        have hc := seen_at (FS.out.below hbel) (l := fixL) rfl (k := lsn n) (by omega)
        rw [hg.1] at hc
        have hc' : (wr.alloc (.cells #[.int .u8 tl, .int .i64 n, .int .i64 dd] 42)).cell? ⟨b1, o1 + lsn n, none⟩ = some (.int .i64 ((len fxS (lsn n) : Nat) : Int)) := by
          rw [World.cell?_of_block ((Below.refl wr.heap.size wr).alloc (Nat.le_refl _) _ |>.block b1 (by have := hbel.size; omega))]
          exact hc
        have BN := Lib.hid ((hbel.alloc (Nat.le_trans (Nat.le_refl _) hbel.size) (.cells #[.int .u8 tl, .int .i64 n, .int .i64 dd] 42)))
        rw [tokF_copy htr hz] at HF hle
        simp only [Int.toNat_natCast] at HF hle
        have hz' : ((n : Int) == 0) = false := by simpa using hz
        obtain ⟨V, hV⟩ : ∃ V, fbk l k = V := ⟨_, rfl⟩
        obtain ⟨U, hU⟩ : ∃ V, len fxS (lsn n) = V := ⟨_, rfl⟩
        obtain ⟨m1, hm1⟩ : ∃ V, lenM (lsn n) = V := ⟨_, rfl⟩
        obtain ⟨m2, hm2⟩ : ∃ V, dstM (dsn dd) = V := ⟨_, rfl⟩
        rw [hV] at HF HFB ⊢
        rw [hU] at HF hc' hle
        rw [hm1] at HF CL hle
        rw [hm2] at HF CDD hle
        obtain ⟨s, hs⟩ : ∃ V, lsn n = V := ⟨_, rfl⟩
        obtain ⟨q, hq⟩ : ∃ V, dsn dd = V := ⟨_, rfl⟩
        rw [hs] at CLS CL hc' p1 p2
        rw [hq] at CDS CDD
        have t0 : (0 : Int) ≤ s := by omega
        have t1 : (s : Int) < 288 := by omega
        have hvb := HFB.out
        generalize lenB s = x1 at *
        generalize dstB q = x2 at *
        clear hV hU hm1 hm2 hs hq hc hg ht ht2 hkl hmem htr hnx hfb hbel hbr p1 p2 p3 p4 d1 d2 d3 r1 r2 r3 r4 r5
        go_wp2_with fail
        refine (CLS.out _).mono ?_; rintro e _ ⟨rfl, rfl⟩
        go_wp2_with fail
        refine (CL.out _).mono ?_; rintro e _ ⟨rfl, rfl⟩
        go_wp2_with fail
        refine (CDS.out _).mono ?_; rintro e _ ⟨rfl, rfl⟩
        go_wp2_with fail
        refine (CDD.out _).mono ?_; rintro e _ ⟨rfl, rfl⟩
        go_wp2_with fail
        go_roundw
        case rel => exact ⟨k + 1, by omega, by rw [HF.out]; go_num, by go_num, by rw [HF.out]; omega, BN.out⟩
        case measure => simp [intOf]; omega
    · obtain rfl : k = nt := by omega
      have HBE := Lib.hid hbel
      clear hfb hbel
      go_wp2_with fail
      go_ret
      exact ⟨by rw [← HN.out, fbk_end]; rfl, B1.out.trans (HBE.out.mono B1.out.size)⟩
end Go.Proofs.YtkjhefjjacokjaaGreat
