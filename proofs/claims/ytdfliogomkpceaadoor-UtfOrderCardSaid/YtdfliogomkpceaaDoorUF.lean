/-
  The document's signs of a text. Conditions: a text of at most a hundred thousand bytes.
-/
import Derived.Test.YtdfliogomkpceaaDoorUE
import Derived.Lib.OthersKept
import Derived.Lib.MapLaws
import Derived.Lib.RuneCount
namespace Go.Proofs.YtdfliogomkpceaaDoor
open Go Go.RowKit
set_option maxRecDepth 100000

/-- What the sign is that no text has. -/
def badS (s : List UInt8) : Prop := (Lib.decodeL s).1 = 65533 ∧ s.take 3 ≠ [239, 191, 189]
instance (s : List UInt8) : Decidable (badS s) := by unfold badS; infer_instance
/-- The signs of a text, behind others. -/
def sgM (p : List Nat) (s : List UInt8) : Option (List Nat) :=
  match s with
  | [] => some p
  | c :: r => if badS (c :: r) then none else sgM (p ++ [(Lib.decodeL (c :: r)).1]) (r.drop ((Lib.decodeL (c :: r)).2 - 1))
termination_by s.length
decreasing_by simp; omega
def iv (l : List Nat) : List Value := l.map fun x : Nat => Value.int .i64 x
theorem iv_app (a b : List Nat) : iv (a ++ b) = iv a ++ iv b := by simp [iv]
theorem iv_one (l : List Nat) : ∀ u ∈ iv l, u.oneCell' = true := by
  intro u hu
  obtain ⟨_, _, rfl⟩ := List.mem_map.1 hu
  rfl
theorem dec_drop (l : List UInt8) (k : Nat) : Utf8.decode (tx l) k = Lib.decodeL (l.drop k) := by
  rw [← Lib.decodeL_drop, tx_list]
theorem dec_pos (l : List UInt8) (k : Nat) (h : k < l.length) : 1 ≤ (Lib.decodeL (l.drop k)).2 ∧ k + (Lib.decodeL (l.drop k)).2 ≤ l.length := by
  have h1 := Lib.decode_width_pos (tx l) k (by rw [tx_size]; exact h)
  rw [dec_drop] at h1
  have hne : l.drop k ≠ [] := by intro e; have := congrArg List.length e; simp at this; omega
  have h2 := Lib.decodeL_le (l.drop k) hne
  rw [List.length_drop] at h2
  omega
theorem sgM_step {p : List Nat} {l : List UInt8} {k c m : Nat} (hk : k < l.length) (hd : Lib.decodeL (l.drop k) = (c, m)) : sgM p (l.drop k) = if badS (l.drop k) then none else sgM (p ++ [c]) (l.drop (k + m)) := by
  have hp := dec_pos l k hk
  rw [hd] at hp
  simp only at hp
  have e : l.drop k = l[k] :: l.drop (k + 1) := List.drop_eq_getElem_cons hk
  rw [e] at hd ⊢
  rw [sgM, hd]
  simp only
  rw [List.drop_drop, show k + 1 + (m - 1) = k + m by omega]
theorem take_three {l : List UInt8} {k : Nat} (h : k + 2 < l.length) : (l.drop k).take 3 = [l[k], l[k + 1], l[k + 2]] := by
  rw [List.drop_eq_getElem_cons (show k < l.length by omega), List.drop_eq_getElem_cons (show k + 1 < l.length by omega), List.drop_eq_getElem_cons h]
  rfl
theorem nat_u8 {a : UInt8} {x : Nat} (h : a.toNat = x) {b : UInt8} (hb : b.toNat = x) : a = b := UInt8.toNat_inj.1 (h.trans hb.symm)
theorem dec_bound {l : List UInt8} {c m : Nat} (h : Lib.decodeL l = (c, m)) : c < 1114112 := by
  rw [Lib.decodeL_N] at h
  have hb : ∀ k, (l.getD k 0).toNat < 256 := fun k => UInt8.toNat_lt _
  have h0 := hb 0
  have h1 := hb 1
  have h2 := hb 2
  have h3 := hb 3
  generalize (l.getD 0 0).toNat = b0 at *
  generalize (l.getD 1 0).toNat = b1 at *
  generalize (l.getD 2 0).toNat = b2 at *
  generalize (l.getD 3 0).toNat = b3 at *
  unfold Lib.decodeN at h
  repeat' split at h
  all_goals (cases h; omega)
theorem iter_only (w : World) (k : Nat) (s : ByteArray) (pos : Nat) : Only (fun j => j = k) w (w.iterAt k s pos) :=
  ⟨rfl, rfl, rfl, by rw [Lib.iterAt_size]; exact Nat.le_refl _, fun i _ hn => Lib.iterAt_other w k i s pos hn⟩
def GivesInts (w : World) (r : Option (List Nat)) (e : Ending) (w' : World) : Prop :=
  ∃ v, e = .returned (.tuple #[v, .bool r.isSome]) ∧ Below w.heap.size w w' ∧ (r = none → v = .slice none 0 0) ∧ ∀ u, r = some u → w'.ownsRow w.heap.size 3 1 v u.length (iv u)

set_option maxHeartbeats 16000000 in
theorem signs_any (l : List UInt8) (n : Nat) (hn : l.length = n) (hs : n ≤ 100000) (w : World) : Calls Tryd.prog 21 #[.string (tx l)] w (GivesInts w (sgM [] l)) := by
  obtain ⟨i0, hi0, hz0, hz1, hz2⟩ := info_parts int_info
  have hts : (tx l).size = n := by rw [tx_size, hn]
  go_enter Tryd.func21, Tryd.ntmps21
  go_wp2
  go_loopg [4, 9, 10] n (fun j v4 _ _ wr => ∃ (k : Nat) (p : List Nat), k ≤ n ∧ j = n - k ∧ wr.heap[w.heap.size]? = some (.stringIter (tx l) k) ∧ Below w.heap.size w wr ∧ wr.ownsRow (w.heap.size + 1) 3 1 v4 p.length (iv p) ∧ p.length ≤ k ∧ sgM [] l = sgM p (l.drop k))
  case atStart => exact ⟨0, [], by omega, rfl, World.iter_heap w (tx l) 0, (Below.refl _ _).alloc (Nat.le_refl _) _, World.ownsRow_nil _ _ _ _, Nat.le_refl _, rfl⟩
  case round =>
    obtain ⟨k, p, hk, rfl, hit, hbl, ho, hpl, hd⟩ := hrel
    obtain ⟨A4, c4, rfl, _⟩ := own_form ho
    obtain ⟨P, hP⟩ : ∃ P, p.length = P := ⟨_, rfl⟩
    rw [hP] at ho hpl ⊢
    have HBL := Lib.hid hbl
    have HO := Lib.hid ho
    have HD := Lib.hid hd
    have HP := Lib.hid hP
    clear hbl ho hd hP
    by_cases hlt : k < n
    · have hkl : k < l.length := by omega
      have hnx := fun ty => Lib.run_next_any_at (P := Tryd.prog) wr w.heap.size (tx l) k ty hit (by rw [hts]; exact hlt)
      obtain ⟨d, hdd⟩ : ∃ d, Utf8.decode (tx l) k = d := ⟨_, rfl⟩
      rw [hdd] at hnx
      rw [dec_drop] at hdd
      have hdp := dec_pos l k hkl
      rw [hdd] at hdp
      obtain ⟨c, m⟩ := d
      simp only at hnx hdp
      have hcb : c < 1114112 := dec_bound hdd
      have hst := sgM_step (p := p) hkl hdd
      have HIT := Lib.hid (Lib.iterAt_heap wr w.heap.size (tx l) k (k + m) hit)
      have HB2 := Lib.hid (Lib.below_iterAt HBL.out (Nat.le_refl _) (tx l) (k + m))
      have HO2 := Lib.hid (own_only HO.out (iter_only wr w.heap.size (tx l) (k + m)) (fun j hj hj2 => by have := (own_whole HO.out hj).1; omega))
      have HST := Lib.hid hst
      have HDP := Lib.hid hdp
      have HDD := Lib.hid hdd
      clear hst hdp hdd hit
      generalize wr.iterAt w.heap.size (tx l) (k + m) = W1 at hnx HIT HB2 HO2
      have yc : 0 ≤ (c : Int) ∧ (c : Int) ≤ 10000000 := by omega
      have zc : ∀ z : Int, z = (c : Int) → wrap64 z = (c : Int) := fun z h => h ▸ w64 (c : Int) yc
      by_cases h1 : c = 65533
      rotate_left
      · have hnb : ¬ badS (l.drop k) := fun h => h1 (by have := h.1; rw [HDD.out] at this; exact this)
        have e1 : ((c : Int) == 65533) = false := by rw [beq_eq_false_iff_ne]; omega
        have hnx2 : sgM [] l = sgM (p ++ [c]) (l.drop (k + m)) := by rw [HD.out, HST.out, if_neg hnb]
        have HNX := Lib.hid hnx2
        have HS := Lib.hid (seen_new W1 3 (iv [c]) 1 rfl #[.int .i64 (c : Int)] rfl)
        have BB := Lib.hid ((Below.refl W1.heap.size W1).alloc (Nat.le_refl _) (.cells #[.int .i64 (c : Int)] 3))
        have HO3 := Lib.hid (own_only HO2.out (Only.of_below BB.out Nob) (fun _ _ h => h))
        have hlt1 : w.heap.size < W1.heap.size := (Array.getElem?_eq_some_iff.1 HIT.out).1
        have r1 : P + 1 ≤ maxLen := by simp [maxLen]; omega
        have r2 : (P + 1) * 8 ≤ 140737488355328 := by omega
        have r3 : w.heap.size + 1 ≤ (W1.alloc (.cells #[.int .i64 (c : Int)] 3)).heap.size := by rw [World.size_alloc]; omega
        clear hnx2 hnb
        go_wp2_with (at_builtin; refine wpList_append_seen _ rfl (.tmp 42) (.tmp 45) _ rfl (w.heap.size + 1) 3 i0 _ 1 8 Tryd.underlying37 hi0 hz0 hz1 hz2 rfl (by omega) (.slice A4 P c4) P (iv p) rfl HO3.out (W1.heap.size + 1) (some ⟨W1.heap.size, 0, none⟩) 1 1 (iv [c]) rfl HS.out (iv_one _) r1 r2 r3 ?_; intro v2 w2 ho2 hg2 hv2)
        have X2 : Only (fun j => (Value.slice A4 P c4).ownBlock = some j) W1 w2 := ((Only.refl _ W1).alloc _).grown hg2 (fun j hj _ => hj)
        have hdp := HDP.out
        go_roundg (n - (k + m))
        case measure => omega
        case rel => exact ⟨k + m, p ++ [c], by omega, rfl, (X2.block w.heap.size hlt1 (fun h => by have := (own_whole HO2.out h).1; omega)).trans HIT.out, HB2.out.trans (X2.below (by omega) (fun j hj => by have := (own_whole HO2.out hj).1; omega)), (by rw [List.length_append, HP.out, iv_app]; exact ho2), (by rw [List.length_append, HP.out]; simp; omega), HNX.out⟩
      have e1 : ((c : Int) == 65533) = true := by rw [h1]; rfl
      have hc1 : (Lib.decodeL (l.drop k)).1 = 65533 := by rw [HDD.out]; exact h1
      have HC1 := Lib.hid hc1
      have HH1 := Lib.hid h1
      clear h1 hc1
      by_cases h2 : n ≤ k + 2
      · skip
        have e2 : decide ((n : Int) ≤ (k : Int) + 2) = true := by rw [decide_eq_true_iff]; omega
        have hb : badS (l.drop k) := ⟨HC1.out, fun e => by have := congrArg List.length e; simp at this; omega⟩
        have hr : sgM [] l = none := by rw [HD.out, HST.out, if_pos hb]
        have HR := Lib.hid hr
        clear hb hr
        go_wp2_with fail
        go_ret2
        rw [HR.out]
        exact ⟨_, rfl, HB2.out, fun _ => rfl, fun u h => (by cases h)⟩
      have e2 : decide ((n : Int) ≤ (k : Int) + 2) = false := by rw [decide_eq_false_iff_not]; omega
      have h3 := take_three (l := l) (k := k) (by omega)
      have H3 := Lib.hid h3
      have ht0 := tx_at l (k) (by rw [hts]; omega)
      obtain ⟨y0, hy0⟩ : ∃ y, (l[k]'(by omega)).toNat = y := ⟨_, rfl⟩
      have hg0 : ((tx l)[k]'(by rw [hts]; omega)).toNat = y0 := by rw [ht0]; exact hy0
      have HY0 := Lib.hid hy0
      have ht1 := tx_at l (k + 1) (by rw [hts]; omega)
      obtain ⟨y1, hy1⟩ : ∃ y, (l[k + 1]'(by omega)).toNat = y := ⟨_, rfl⟩
      have hg1 : ((tx l)[k + 1]'(by rw [hts]; omega)).toNat = y1 := by rw [ht1]; exact hy1
      have HY1 := Lib.hid hy1
      have ht2 := tx_at l (k + 2) (by rw [hts]; omega)
      obtain ⟨y2, hy2⟩ : ∃ y, (l[k + 2]'(by omega)).toNat = y := ⟨_, rfl⟩
      have hg2 : ((tx l)[k + 2]'(by rw [hts]; omega)).toNat = y2 := by rw [ht2]; exact hy2
      have HY2 := Lib.hid hy2
      clear h3 ht0 ht1 ht2 hy0 hy1 hy2
      have j1 : (k : Int) + 1 < (n : Int) := by omega
      have j2 : (k : Int) + 2 < (n : Int) := by omega
      by_cases g0 : y0 = 239
      rotate_left
      · skip
        have f0 : ((y0 : Int) != 239) = true := by rw [bne_iff_ne]; omega
        have hb : badS (l.drop k) := ⟨HC1.out, fun e => g0 (by rw [H3.out] at e; simp only [List.cons.injEq] at e; rw [← HY0.out, e.1]; rfl)⟩
        have hr : sgM [] l = none := by rw [HD.out, HST.out, if_pos hb]
        have HR := Lib.hid hr
        clear hb hr
        go_wp2_with fail
        go_ret2
        rw [HR.out]
        exact ⟨_, rfl, HB2.out, fun _ => rfl, fun u h => (by cases h)⟩
      by_cases g1 : y1 = 191
      rotate_left
      · skip
        have f0 : ((y0 : Int) != 239) = false := by rw [g0]; rfl
        have f1 : ((y1 : Int) != 191) = true := by rw [bne_iff_ne]; omega
        have hb : badS (l.drop k) := ⟨HC1.out, fun e => g1 (by rw [H3.out] at e; simp only [List.cons.injEq] at e; rw [← HY1.out, e.2.1]; rfl)⟩
        have hr : sgM [] l = none := by rw [HD.out, HST.out, if_pos hb]
        have HR := Lib.hid hr
        clear hb hr
        go_wp2_with fail
        go_ret2
        rw [HR.out]
        exact ⟨_, rfl, HB2.out, fun _ => rfl, fun u h => (by cases h)⟩
      by_cases g2 : y2 = 189
      rotate_left
      · skip
        have f0 : ((y0 : Int) != 239) = false := by rw [g0]; rfl
        have f1 : ((y1 : Int) != 191) = false := by rw [g1]; rfl
        have f2 : ((y2 : Int) != 189) = true := by rw [bne_iff_ne]; omega
        have hb : badS (l.drop k) := ⟨HC1.out, fun e => g2 (by rw [H3.out] at e; simp only [List.cons.injEq] at e; rw [← HY2.out, e.2.2.1]; rfl)⟩
        have hr : sgM [] l = none := by rw [HD.out, HST.out, if_pos hb]
        have HR := Lib.hid hr
        clear hb hr
        go_wp2_with fail
        go_ret2
        rw [HR.out]
        exact ⟨_, rfl, HB2.out, fun _ => rfl, fun u h => (by cases h)⟩
      have hnb : ¬ badS (l.drop k) := fun h => h.2 (by rw [H3.out, nat_u8 (b := 239) (HY0.out.trans g0) rfl, nat_u8 (b := 191) (HY1.out.trans g1) rfl, nat_u8 (b := 189) (HY2.out.trans g2) rfl])
      have f0 : ((y0 : Int) != 239) = false := by rw [g0]; rfl
      have f1 : ((y1 : Int) != 191) = false := by rw [g1]; rfl
      have f2 : ((y2 : Int) != 189) = false := by rw [g2]; rfl
      have hnx2 : sgM [] l = sgM (p ++ [c]) (l.drop (k + m)) := by rw [HD.out, HST.out, if_neg hnb]
      have HNX := Lib.hid hnx2
      have HS := Lib.hid (seen_new W1 3 (iv [c]) 1 rfl #[.int .i64 (c : Int)] rfl)
      have BB := Lib.hid ((Below.refl W1.heap.size W1).alloc (Nat.le_refl _) (.cells #[.int .i64 (c : Int)] 3))
      have HO3 := Lib.hid (own_only HO2.out (Only.of_below BB.out Nob) (fun _ _ h => h))
      have hlt1 : w.heap.size < W1.heap.size := (Array.getElem?_eq_some_iff.1 HIT.out).1
      have r1 : P + 1 ≤ maxLen := by simp [maxLen]; omega
      have r2 : (P + 1) * 8 ≤ 140737488355328 := by omega
      have r3 : w.heap.size + 1 ≤ (W1.alloc (.cells #[.int .i64 (c : Int)] 3)).heap.size := by rw [World.size_alloc]; omega
      clear hnx2 hnb
      go_wp2_with (at_builtin; refine wpList_append_seen _ rfl (.tmp 42) (.tmp 45) _ rfl (w.heap.size + 1) 3 i0 _ 1 8 Tryd.underlying37 hi0 hz0 hz1 hz2 rfl (by omega) (.slice A4 P c4) P (iv p) rfl HO3.out (W1.heap.size + 1) (some ⟨W1.heap.size, 0, none⟩) 1 1 (iv [c]) rfl HS.out (iv_one _) r1 r2 r3 ?_; intro v2 w2 ho2 hg2 hv2)
      have X2 : Only (fun j => (Value.slice A4 P c4).ownBlock = some j) W1 w2 := ((Only.refl _ W1).alloc _).grown hg2 (fun j hj _ => hj)
      have hdp := HDP.out
      go_roundg (n - (k + m))
      case measure => omega
      case rel => exact ⟨k + m, p ++ [c], by omega, rfl, (X2.block w.heap.size hlt1 (fun h => by have := (own_whole HO2.out h).1; omega)).trans HIT.out, HB2.out.trans (X2.below (by omega) (fun j hj => by have := (own_whole HO2.out hj).1; omega)), (by rw [List.length_append, HP.out, iv_app]; exact ho2), (by rw [List.length_append, HP.out]; simp; omega), HNX.out⟩
    · obtain rfl : k = n := by omega
      have hr : sgM [] l = some p := by rw [HD.out, List.drop_eq_nil_of_le (by omega), sgM]
      have hnx := fun ty => Lib.run_next_end_at (P := Tryd.prog) wr w.heap.size (tx l) k ty hit (by omega)
      have HR := Lib.hid hr
      clear hit hr
      go_wp2
      go_ret2
      rw [HR.out]
      exact ⟨_, rfl, HBL.out, fun h => (by cases h), fun u h => (by cases h; rw [HP.out]; exact own_base HO.out (Nat.le_succ _))⟩
end Go.Proofs.YtdfliogomkpceaaDoor
