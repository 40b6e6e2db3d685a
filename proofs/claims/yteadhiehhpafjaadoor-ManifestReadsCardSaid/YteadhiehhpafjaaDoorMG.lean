/-
  The document's check of a header. Conditions: texts of at most a million bytes.
-/
import Derived.Test.YteadhiehhpafjaaDoorMF
import Derived.Deep.MidRow
import Derived.OrdersHeld
import Derived.Deep.RegionHeld3
namespace Go.Proofs.YteadhiehhpafjaaDoor
open Go.RowKit
set_option maxRecDepth 100000

theorem Whole.bel {w w' : World} {g : Nat} {t : TypeId} {cs : Array Value} (h : Whole w g t cs) (hb : Below w.heap.size w w') : Whole w' g t cs := h.only (Only.of_below hb Nob) (fun h => h)
theorem Whole.setRow_far {w : World} {g g' : Nat} {t : TypeId} {cs : Array Value} (h : Whole w g t cs) (cs' : Array Value) (hne : g ≠ g') : Whole (w.setRow g' cs') g t cs := (setRow_other w g' g cs' hne).trans h
theorem bel_after {B : Nat} {a b c : World} (h : Below B a b) (hB : B ≤ a.heap.size) (k : Below b.heap.size b c) : Below B a c := h.trans (k.mono (Nat.le_trans hB h.size))
/-- How a section begins. -/
def firstM (b : Bool) : ByteArray := if b then ⟨#[109, 97, 110, 105, 102, 101, 115, 116, 45, 118, 101, 114, 115, 105, 111, 110]⟩ else ⟨#[110, 97, 109, 101]⟩
/-- What is wrong with a header. -/
def checkM (main : Bool) (ahead : List (ByteArray × ByteArray)) (p : ByteArray × ByteArray) : Int :=
  if valueM p.2 = false then 2
  else if nameM p.1 = false then 8
  else if ahead = [] ∧ smallM p.1 ≠ firstM main then 8
  else if (∃ q ∈ ahead, smallM q.1 = smallM p.1) then 10 else 0
/-- Headers' cells. -/
def pvs (l : List (ByteArray × ByteArray)) : List Value := l.flatMap fun p => [.string p.1, .string p.2]
theorem pvs_length (l : List (ByteArray × ByteArray)) : (pvs l).length = l.length * 2 := by
  induction l with
  | nil => rfl
  | cons t l ih =>
    have : pvs (t :: l) = [.string t.1, .string t.2] ++ pvs l := rfl
    rw [this, List.length_append, ih]; simp; omega
theorem pvs_get : ∀ (l : List (ByteArray × ByteArray)) (k : Nat) (h : k < l.length), (pvs l)[k * 2]? = some (.string l[k].1) ∧ (pvs l)[k * 2 + 1]? = some (.string l[k].2)
  | t :: l, 0, _ => ⟨rfl, rfl⟩
  | t :: l, k + 1, h => by
    have e : pvs (t :: l) = [.string t.1, .string t.2] ++ pvs l := rfl
    have := pvs_get l k (by simpa using h)
    rw [e, show (k + 1) * 2 = k * 2 + 2 by omega, show k * 2 + 2 + 1 = (k * 2 + 1) + 2 by omega]
    simpa using this
theorem Seen.pr {w : World} {B n c : Nat} {A : Option Addr} {l : List (ByteArray × ByteArray)} (h : Seen w B 2 A n c (pvs l)) {k : Nat} (hk : k < l.length) (hn : l.length = n) : ∃ (b o : Nat), A = some ⟨b, o, none⟩ ∧ b < B ∧ w.cell? ⟨b, o + k * 2, none⟩ = some (.string l[k].1) ∧ w.cell? ⟨b, o + k * 2 + 1, none⟩ = some (.string l[k].2) := by
  obtain ⟨h1, h2, h3⟩ := h
  rcases h3 with ⟨rfl, rfl⟩ | ⟨a, rfl, h3⟩
  · rw [pvs_length] at h1; omega
  · obtain ⟨g1, g2, g3⟩ := h3 (by intro e; have := pvs_length l; rw [e] at this; simp at this; omega)
    obtain ⟨b, o, s⟩ := a
    simp only at g1 g2
    subst g1
    obtain ⟨e1, e2⟩ := pvs_get l k hk
    exact ⟨b, o, rfl, g2, g3 _ _ e1, g3 _ _ e2⟩

set_option maxHeartbeats 4000000 in
theorem check_any (main : Bool) (ah : List (ByteArray × ByteArray)) (a b : ByteArray) (A : Option Addr) (n c B : Nat) (hn : ah.length = n) (hs : n ≤ 1000000) (ha : a.size ≤ 1000000) (hb : b.size ≤ 1000000) (hah : ∀ q ∈ ah, q.1.size ≤ 1000000) (w : World) (hA : Seen w B 2 A n c (pvs ah)) (hB : B ≤ w.heap.size) :
    Calls Tryd.prog 27 #[.bool main, .slice A n c, .agg (pairA a b)] w (Gives w (.int .i64 (checkM main ah (a, b)))) := by
  have F0 := Lib.hid (Whole.new w 44 (pairA a b))
  have B0 := Lib.hid ((Below.refl w.heap.size w).alloc (Nat.le_refl _) (.cells (pairA a b) 44))
  have HA := Lib.hid hA
  clear hA
  obtain ⟨r, hr⟩ : ∃ r, checkM main ah (a, b) = r := ⟨_, rfl⟩
  rw [hr]
  have VA := Lib.hid (fun W => value_any b b.size rfl hb W)
  go_enter Tryd.func27, Tryd.ntmps27
  have p0 : (pairA a b)[0]? = some (.string a) := rfl
  have p1 : (pairA a b)[1]? = some (.string b) := rfl
  have C0 := F0.out.cell 0
  have C1 := F0.out.cell 1
  rw [p0] at C0
  rw [p1] at C1
  obtain ⟨w0, hw0⟩ : ∃ W, w.alloc (.cells (pairA a b) 44) = W := ⟨_, rfl⟩
  rw [hw0] at F0 B0 C0 C1
  have NA := Lib.hid (fun W => name_any a a.size rfl ha W)
  have SA := Lib.hid (fun W => small_any a a.size rfl ha W)
  have FA := Lib.hid (fun W => (show Calls Tryd.prog 43 #[.bool main] W (Rets W (.string (firstM main))) from first_any main W))
  rw [checkM] at hr
  obtain ⟨FM, hFM⟩ : ∃ F, firstM main = F := ⟨_, rfl⟩
  obtain ⟨SM, hSM⟩ : ∃ F, smallM a = F := ⟨_, rfl⟩
  rw [hFM] at FA hr
  rw [hSM] at SA
  simp only [hSM] at hr
  cases hv : valueM b with
  | false =>
    obtain rfl : r = 2 := by rw [← hr, if_pos hv]
    rw [hv] at VA
    go_wp2_with (go_at_call 42; refine (VA.out _).mono ?_; rintro e w' ⟨rfl, rfl⟩)
    go_ret
    exact ⟨rfl, B0.out⟩
  | true =>
    rw [hv] at VA
    rw [if_neg (by rw [hv]; simp)] at hr
    cases hnm : nameM a with
    | false =>
      obtain rfl : r = 8 := by rw [← hr, if_pos hnm]
      rw [hnm] at NA
      go_wp2_with (first | (go_at_call 42; refine (VA.out _).mono ?_; rintro e w' ⟨rfl, rfl⟩) | (go_at_call 18; refine (NA.out _).mono ?_; rintro e w' ⟨rfl, rfl⟩))
      go_ret
      exact ⟨rfl, B0.out⟩
    | true =>
      rw [hnm] at NA
      rw [if_neg (by rw [hnm]; simp)] at hr
      by_cases h0 : n = 0
      · obtain rfl : ah = [] := List.eq_nil_of_length_eq_zero (by omega)
        subst h0
        by_cases hne : SM = FM
        · have hc : (SM.toList == FM.toList) = true := by rw [hne]; simp
          rw [if_neg (by simp [hne]), if_neg (by simp)] at hr
          subst hr
          go_wp2_with (first | (go_at_call 42; refine (VA.out _).mono ?_; rintro e w' ⟨rfl, rfl⟩) | (go_at_call 18; refine (NA.out _).mono ?_; rintro e w' ⟨rfl, rfl⟩) | (go_at_call 20; refine (SA.out _).mono ?_; rintro e w1 ⟨rfl, b1⟩) | (go_at_call 43; refine (FA.out _).mono ?_; rintro e w' ⟨rfl, rfl⟩))
          go_loopg [32] 0 (fun j v wr => v = .int .i64 0 ∧ wr = w1)
          case atStart => exact ⟨rfl, rfl⟩
          case round =>
            obtain ⟨rfl, rfl⟩ := hrel
            go_wp2
            go_ret
            exact ⟨rfl, bel_after B0.out (Nat.le_refl _) b1⟩
        · have hc : (SM.toList == FM.toList) = false := by
            rw [beq_eq_false_iff_ne, ByteArray.toList_eq, ByteArray.toList_eq]
            intro e
            exact hne (ByteArray.ext (by rw [← Array.toArray_toList (xs := SM.data), e, Array.toArray_toList]))
          rw [if_pos ⟨rfl, hne⟩] at hr
          subst hr
          go_wp2_with (first | (go_at_call 42; refine (VA.out _).mono ?_; rintro e w' ⟨rfl, rfl⟩) | (go_at_call 18; refine (NA.out _).mono ?_; rintro e w' ⟨rfl, rfl⟩) | (go_at_call 20; refine (SA.out _).mono ?_; rintro e w1 ⟨rfl, b1⟩) | (go_at_call 43; refine (FA.out _).mono ?_; rintro e w' ⟨rfl, rfl⟩))
          go_ret
          exact ⟨rfl, bel_after B0.out (Nat.le_refl _) b1⟩
      · have hne0 : ¬ (ah = [] ∧ SM ≠ FM) := by rintro ⟨rfl, _⟩; simp at hn; omega
        rw [if_neg hne0] at hr
        have d0 : ((n : Int) == 0) = false := by rw [beq_eq_false_iff_ne]; omega
        go_wp2_with (first | (go_at_call 42; refine (VA.out _).mono ?_; rintro e w' ⟨rfl, rfl⟩) | (go_at_call 18; refine (NA.out _).mono ?_; rintro e w' ⟨rfl, rfl⟩))
        go_loopg [32] n (fun j v wr => ∃ k : Nat, k ≤ n ∧ j = n - k ∧ v = .int .i64 k ∧ Below w0.heap.size w0 wr ∧ ∀ j (h : j < ah.length), j < k → smallM ah[j].1 ≠ SM)
        case atStart => exact ⟨0, by omega, rfl, rfl, Below.refl _ _, fun j h hj => by omega⟩
        case round =>
          obtain ⟨k, hk, rfl, rfl, hbl, hal⟩ := hrel
          by_cases hlt : k < n
          · have hkl : k < ah.length := by omega
            have BW := Lib.hid (bel_after B0.out (Nat.le_refl _) hbl)
            obtain ⟨bk, o, rfl, hbk, hc1, hc2⟩ := (HA.out.below (BW.out.mono hB)).pr hkl hn
            obtain ⟨q, hq⟩ : ∃ q, ah[k] = q := ⟨_, rfl⟩
            have hqs := hah _ (List.getElem_mem hkl)
            rw [hq] at hc1 hc2 hqs
            have FR := Lib.hid (F0.out.bel hbl)
            have RG : Hid (wr.rangeAt bk (o + k * 2) (pairA q.1 q.2).toList) := Lib.hid (by
              intro j v hj
              match j, hj with
              | 0, hj => rw [Nat.add_zero, hc1]; exact hj
              | 1, hj => rw [hc2]; exact hj)
            have SQ := Lib.hid (fun W => small_any q.1 q.1.size rfl hqs W)
            have ZW := Lib.hid (Whole.new wr 44 (pairA ⟨#[]⟩ ⟨#[]⟩))
            go_wp2_with (first | (refine wpList_load_mid rfl 44 (.tmp 34) rfl bk (o + k * 2) rfl (pairA q.1 q.2).toList _ RG.out Tryd.underlying44 rfl (pair_size _ _) ?_) | (refine wpList_store_row rfl 44 (.tmp 8) (.tmp 35) rfl wr.heap.size (pairA q.1 q.2) rfl rfl 44 (pairA ⟨#[]⟩ ⟨#[]⟩) ZW.out (pair_size _ _) rfl (pair_one _ _) ?_))
            have Q1 := Lib.hid (ZW.out.setRow (pairA q.1 q.2))
            have F1 := Lib.hid ((FR.out.alloc (.cells (pairA ⟨#[]⟩ ⟨#[]⟩) 44)).setRow_far (g' := wr.heap.size) (pairA q.1 q.2) (Nat.ne_of_lt FR.out.lt))
            have B1 := Lib.hid (below_setRow (hbl.alloc hbl.size (.cells (pairA ⟨#[]⟩ ⟨#[]⟩) 44)) (pairA q.1 q.2) hbl.size)
            have pq0 : (pairA q.1 q.2)[0]? = some (.string q.1) := rfl
            obtain ⟨w2, hw2⟩ : ∃ W, (wr.alloc (.cells (pairA ⟨#[]⟩ ⟨#[]⟩) 44)).setRow wr.heap.size (pairA q.1 q.2) = W := ⟨_, rfl⟩
            rw [hw2] at Q1 F1 B1
            have hw3 : (wr.alloc (.cells #[.string ⟨#[]⟩, .string ⟨#[]⟩] 44)).setRow wr.heap.size (pairA q.1 q.2) = w2 := hw2
            rw [hw3]
            clear hw2 hw3 ZW RG hc1 hc2 FR
            obtain ⟨Q, hQ⟩ : ∃ F, smallM q.1 = F := ⟨_, rfl⟩
            rw [hQ] at SQ
            have HAL := Lib.hid hal
            have HR := Lib.hid hr
            have HQ := Lib.hid hq
            clear hal hr hq hah hbl C0 C1 VA NA FA
            refine wp_region_held_drew (S := fun W => Below w2.heap.size w2 W) (by kernel_rfl) (Below.refl _ _).drew (fun hHeld => ?_)
            refine wpAnyH_take (i := 0) (oi := ⟨some 36, _, _, _, _, _⟩) (v := ?v0) rfl (by kernel_rfl) (by kernel_rfl) (by kernel_rfl) (fun _ _ _ h => h) (Or.inl ⟨by rfl, ?hy0⟩) (by assumption) ?rest0
            case hy0 => intro W hSW; go_simp; try rfl
            try simp only [Act.put, List.setIfInBounds_toArray, List.set_cons_zero, List.set_cons_succ]
            refine wpAnyH_take (i := 1) (oi := ⟨some 37, _, _, _, _, _⟩) (v := ?v1) rfl (by kernel_rfl) (by kernel_rfl) (by kernel_rfl) (fun _ _ _ h => h) (Or.inl ⟨by rfl, ?hy1⟩) (by assumption) ?rest1
            case hy1 => intro W hSW; have cq := (Q1.out.bel hSW).cell 0; rw [pq0] at cq; go_simp; try rfl
            try simp only [Act.put, List.setIfInBounds_toArray, List.set_cons_zero, List.set_cons_succ]
            refine wpAnyH_take (i := 3) (oi := ⟨some 39, _, _, _, _, _⟩) (v := ?v3) rfl (by kernel_rfl) (by kernel_rfl) (by kernel_rfl) (fun _ _ _ h => h) (Or.inl ⟨by rfl, ?hy3⟩) (by assumption) ?rest3
            case hy3 => intro W hSW; go_simp; try rfl
            try simp only [Act.put, List.setIfInBounds_toArray, List.set_cons_zero, List.set_cons_succ]
            refine wpAnyH_take (i := 4) (oi := ⟨some 40, _, _, _, _, _⟩) (v := ?v4) rfl (by kernel_rfl) (by kernel_rfl) (by kernel_rfl) (fun _ _ _ h => h) (Or.inl ⟨by rfl, ?hy4⟩) (by assumption) ?rest4
            case hy4 => intro W hSW; have cf := (F1.out.bel hSW).cell 0; rw [p0] at cf; go_simp; try rfl
            try simp only [Act.put, List.setIfInBounds_toArray, List.set_cons_zero, List.set_cons_succ]
            refine wpAnyH_ready (rs := [2]) (by kernel_rfl) (by simp) ?_
            refine AllReadyH.cons (o := ⟨some 38, _, _, _, _, _⟩) rfl (fun K hK => ?_) AllReadyH.nil
            go_simp
            refine (SQ.out _).mono ?_; rintro e w5 ⟨rfl, b5⟩
            refine hK.out _ _ ?_ (fun hHeld2 => ?_)
            · exact hHeld.trans (b5.mono hHeld.size)
            clear hK K hHeld
            have hHeld := hHeld2; clear hHeld2
            try simp only [Act.put, List.setIfInBounds_toArray, List.set_cons_zero, List.set_cons_succ]
            refine wpAnyH_ready (rs := [5]) (by kernel_rfl) (by simp) ?_
            refine AllReadyH.cons (o := ⟨some 41, _, _, _, _, _⟩) rfl (fun K hK => ?_) AllReadyH.nil
            go_simp
            refine (SA.out _).mono ?_; rintro e w6 ⟨rfl, b6⟩
            refine hK.out _ _ ?_ (fun hHeld2 => ?_)
            · exact hHeld.trans (b6.mono hHeld.size)
            clear hK K hHeld
            have hHeld := hHeld2; clear hHeld2
            try simp only [Act.put, List.setIfInBounds_toArray, List.set_cons_zero, List.set_cons_succ]
            have HH := Lib.hid hHeld
            refine wpAnyH_take (i := 6) (oi := ⟨some 42, _, _, _, _, _⟩) (v := ?v6) rfl (by kernel_rfl) (by kernel_rfl) (by kernel_rfl) (fun _ _ _ h => h) (Or.inl ⟨by rfl, ?hy6⟩) (by assumption) ?rest6
            case hy6 => intro W hSW; go_simp; try rfl
            try simp only [Act.put, List.setIfInBounds_toArray, List.set_cons_zero, List.set_cons_succ]
            refine wpAnyH_done (by kernel_rfl) ?_ _
            have B6 := Lib.hid (bel_after B1.out (Nat.le_refl _) HH.out)
            clear hHeld HH b5 b6 Q1 F1 B1 SQ SA
            by_cases hqs2 : Q = SM
            · have hc : (Q.toList == SM.toList) = true := by rw [hqs2]; simp
              have hr2 := HR.out
              rw [if_pos ⟨q, by rw [← HQ.out]; exact List.getElem_mem hkl, by rw [hQ, hqs2]⟩] at hr2
              subst hr2
              rw [hc]
              go_wp2
              go_ret
              exact ⟨rfl, bel_after B0.out (Nat.le_refl _) B6.out⟩
            · have hc : (Q.toList == SM.toList) = false := by
                rw [beq_eq_false_iff_ne, ByteArray.toList_eq, ByteArray.toList_eq]
                intro e
                exact hqs2 (ByteArray.ext (by rw [← Array.toArray_toList (xs := Q.data), e, Array.toArray_toList]))
              have hnx : ∀ j (h : j < ah.length), j < k + 1 → smallM ah[j].1 ≠ SM := fun j h hj => by
                by_cases hjk : j < k
                · exact HAL.out j h hjk
                · obtain rfl : j = k := by omega
                  rw [HQ.out, hQ]
                  exact hqs2
              have HN := Lib.hid hnx
              clear hnx
              rw [hc]
              go_wp2
              go_roundg (n - (k + 1))
              case measure => omega
              case rel => exact ⟨k + 1, by omega, rfl, by go_num, B6.out, HN.out⟩
          · obtain rfl : k = n := by omega
            have hno : ¬ ∃ q, q ∈ ah ∧ smallM q.1 = SM := by
              rintro ⟨q, hq, he⟩
              obtain ⟨j, hj, rfl⟩ := List.getElem_of_mem hq
              exact hal j hj (by omega) he
            rw [if_neg hno] at hr
            subst hr
            clear C0 C1
            go_wp2
            go_ret
            exact ⟨rfl, bel_after B0.out (Nat.le_refl _) hbl⟩
end Go.Proofs.YteadhiehhpafjaaDoor
