/-
  The walk of InflateMost: it answers true, and changes nothing that was there. Conditions: the slices are read as told (Seen).
-/
import Derived.Test.YtobchlakjgeadaaTE
import Derived.Test.YtobchlakjgeadaaZ
import Derived.Test.YtobchlakjgeadaaO
namespace Go.Proofs.Ytobchlakjgeadaa
open Go.RowKit
set_option maxRecDepth 100000

def TrueBelow (w : World) (e : Ending) (w' : World) : Prop := e = .returned (.bool true) ∧ Below w.heap.size w w'

theorem ag_take (bs b2 : List Nat) (nr a : Nat) (hn : nr ≤ bs.length) (ha : a ≤ 8 * nr) : Ag (unpack bs) (unpack (bs.take nr ++ b2)) a := by
  unfold Ag
  rw [unpack_append, List.take_append_of_le_length (by simp; omega), ← unpack_take bs nr hn, List.take_take, Nat.min_eq_left ha]

theorem most_far (A0 A1 : Option Addr) (n0 c0 n1 c1 : Nat) (h : 200 < n0 ∨ 50 < n1) (w : World) : Calls Try.prog 6 #[.slice A0 n0 c0, .slice A1 n1 c1] w (TrueBelow w) := by
  by_cases h1 : 200 < n0
  · have d1 : decide (200 < (n0 : Int)) = true := decide_eq_true (by omega)
    clear h
    go_enter Try.func6, Try.ntmps6
    go_wp2_with fail
    refine (fixed_any w).mono ?_; rintro e w1 ⟨rfl, hb1⟩; have B1 := Lib.hid hb1; clear hb1
    go_wp2_with fail
    go_ret
    exact ⟨rfl, B1.out⟩
  · have h2 : 50 < n1 := h.resolve_left h1
    have d1 : decide (200 < (n0 : Int)) = false := decide_eq_false (by omega)
    have d2 : decide (50 < (n1 : Int)) = true := decide_eq_true (by omega)
    clear h
    go_enter Try.func6, Try.ntmps6
    go_wp2_with fail
    refine (fixed_any w).mono ?_; rintro e w1 ⟨rfl, hb1⟩; have B1 := Lib.hid hb1; clear hb1
    go_wp2_with fail
    go_ret
    exact ⟨rfl, B1.out⟩

set_option maxHeartbeats 2000000 in
theorem most_near (A0 A1 : Option Addr) (n0 c0 n1 c1 : Nat) (hn0 : n0 ≤ 200) (hn1 : n1 ≤ 50) (bs b2 : List Nat) (hb : bs.length = n0) (hb2 : b2.length = n1) (h256 : ∀ y ∈ bs, y < 256) (h256' : ∀ y ∈ b2, y < 256) (w : World)
    (hs : Seen w w.heap.size 1 A0 n0 c0 (bx bs)) (hs2 : Seen w w.heap.size 1 A1 n1 c1 (bx b2)) : Calls Try.prog 6 #[.slice A0 n0 c0, .slice A1 n1 c1] w (TrueBelow w) := by
  obtain ⟨i0, hi0, hz0, hz1, hz2⟩ := info_parts byte_info
  have HI0 := Lib.hid hi0
  have CI : Hid (∀ (m : Nat) (W : World), m ≤ 16777216 → Below w.heap.size w W → Calls Try.prog 8 #[.slice A0 n0 c0, .int .i64 m] W (InfRes (unpack bs) m W)) := Lib.hid (fun m W hm hB => inflate_any A0 n0 c0 w.heap.size bs m hm hb (by omega) h256 W (hs.below hB) hB.size)
  have HS := Lib.hid hs; clear hs
  have HS2 := Lib.hid hs2; clear hs2
  have H256 := Lib.hid h256; clear h256
  have H256' := Lib.hid h256'; clear h256'
  have HBL := Lib.hid hb; clear hb
  have HBL2 := Lib.hid hb2; clear hb2
  have d1 : decide (200 < (n0 : Int)) = false := decide_eq_false (by omega)
  have d2 : decide (50 < (n1 : Int)) = false := decide_eq_false (by omega)
  go_enter Try.func6, Try.ntmps6
  go_wp2_with fail
  refine (fixed_any w).mono ?_; rintro e w1 ⟨rfl, hb1⟩; have B1 := Lib.hid hb1; clear hb1
  go_wp2_with fail
  refine (CI.out 100000 w1 (by omega) B1.out).mono ?_
  rintro e w2 (⟨a, o, v, hR, ha, ho, rfl, hown, hb2⟩ | ⟨er, e0, e1, hR, rfl, hb2⟩)
  · have hRR := (bruns_ok hR _ rfl).2.2
    have M1 := Lib.hid hRR.1
    have M2 := Lib.hid hRR.2
    have hn00 : n0 ≠ 0 := by
      rintro rfl
      have : bs = [] := List.eq_nil_of_length_eq_zero HBL.out
      subst this
      have h6 : Runs (blockStep (unpack []) 100000) (0, []) (.er 6) := .er (block_er rfl)
      have := hR.det h6
      cases this
    have B2 := Lib.hid (B1.out.trans (hb2.mono B1.out.size))
    obtain ⟨nr, hnr⟩ : ∃ nr, (a + 7) / 8 = nr := ⟨_, rfl⟩
    rw [hnr]
    have HNR := Lib.hid hnr
    have hnr0 : nr ≤ n0 := by simp at ha; have := HBL.out; omega
    have hanr : a ≤ 8 * nr := by omega
    obtain ⟨Av, cv, rfl, _, hsv⟩ := own_seen hown
    have SV := Lib.hid hsv
    obtain ⟨ol, hol⟩ : ∃ ol, o.length = ol := ⟨_, rfl⟩
    rw [hol] at SV ho ⊢
    have HOL := Lib.hid hol
    clear hR hRR hown hb2 hsv hnr hol ha
    go_wp2_with fail
    refine (CI.out ol w2 (by omega) B2.out).mono ?_
    rintro e w3 hres
    obtain ⟨v3, rfl, hown3, hb3⟩ := inf_ok hres (M1.out (unpack bs) ol (.refl _ _) (by rw [HOL.out]; exact Nat.le_refl _))
    rw [HNR.out]
    rw [HOL.out] at hown3
    have B3 := Lib.hid (B2.out.trans (hb3.mono B2.out.size))
    have SV3 := Lib.hid ((SV.out.below hb3).more hb3.size)
    obtain ⟨Av3, cv3, rfl, _, hsv3⟩ := own_seen hown3
    have SW3 := Lib.hid hsv3
    clear hres hown3 hb3 hsv3
    obtain ⟨b, of, u, rfl, _, _, _⟩ := HS.out.at (k := 0) (by omega)
    have hc0 := HS.out.2.1
    have SA := Lib.hid ((HS.out.cut (q := 0) (n := nr) (by omega)))
    simp only [Option.map_some, Addr.add_lit, Nat.add_zero, Nat.sub_zero, List.drop_zero] at SA
    have nr0 : (0 : Int) ≤ nr := by omega
    have nrc : (nr : Int) ≤ c0 := by omega
    have B30 : Hid (Below w.heap.size w (w3.alloc (.cells #[] 5))) := Lib.hid (B3.out.alloc B3.out.size _)
    have hsz3 := B3.out.size
    go_wp2_with (first
      | (at_builtin; refine wpList_append_seen _ rfl (.tmp 51) (.tmp 54) _ rfl w3.heap.size 5 i0 _ 1 1 Try.underlying22 HI0.out hz0 hz1 hz2 rfl (by omega) (.slice (some ⟨w3.heap.size, 0, none⟩) 0 0) 0 [] rfl (World.ownsRow_made w3 #[] 0 (Nat.le_refl _) (by simp [maxLen]) rfl) w.heap.size (some ⟨b, of, none⟩) nr c0 _ rfl (SA.out.below B30.out) (by intro u hu; exact bytes_oneCell bs u (List.mem_of_mem_take hu)) (by simp only [maxLen]; omega) (by omega) (by simp) ?_; intro v4 w4 hown4 hg4 hat4; have B4 : Hid (Below w.heap.size w w4) := Lib.hid (B30.out.grown hg4 B30.out.size (fun k hk => by simp [Value.ownBlock] at hk; omega)); have O4 := Lib.hid hown4; have BB4 : Hid (Below w3.heap.size w3 w4) := Lib.hid (((Below.refl _ _).alloc (Nat.le_refl _) _).grown hg4 (by simp) (fun k hk => by simp [Value.ownBlock] at hk; omega)); have sz4 := BB4.out.size; clear hown4 hg4 hat4)
      | (at_builtin; refine wpList_append_seen _ rfl (.tmp 55) (.tmp 56) _ rfl w3.heap.size 5 i0 _ 1 1 Try.underlying22 HI0.out hz0 hz1 hz2 rfl (by omega) v4 (0 + nr) _ rfl O4.out w.heap.size A1 n1 c1 _ rfl (HS2.out.below B4.out) (bytes_oneCell b2) (by simp only [maxLen]; omega) (by omega) sz4 ?_; intro v5 w5 hown5 hg5 hat5))
    have B5 : Hid (Below w.heap.size w w5) := Lib.hid (B4.out.grown hg5 B4.out.size (fun k hk => Nat.le_trans hsz3 (O4.out.lt k hk).1))
    have BB5 : Hid (Below w3.heap.size w3 w5) := Lib.hid (BB4.out.grown hg5 sz4 (fun k hk => (O4.out.lt k hk).1))
    have e5 : ([] ++ (bx bs).take nr) ++ bx b2 = bx (bs.take nr ++ b2) := by simp [bx, List.map_take]
    rw [e5] at hown5
    obtain ⟨A5, c5, rfl, _, hs5⟩ := own_seen hown5
    have S5 := Lib.hid hs5
    have SV5 := Lib.hid ((SV3.out.below BB5.out).more BB5.out.size)
    have SW5 := Lib.hid ((SW3.out.below BB5.out).more BB5.out.size)
    have hlen5 : (bs.take nr ++ b2).length = 0 + nr + n1 := by have := HBL.out; have := HBL2.out; simp; omega
    have h5 : ∀ y ∈ bs.take nr ++ b2, y < 256 := by
      intro y hy
      rcases List.mem_append.1 hy with h | h
      · exact H256.out y (List.mem_of_mem_take h)
      · exact H256'.out y h
    have C5 := Lib.hid (inflate_any A5 (0 + nr + n1) c5 w5.heap.size (bs.take nr ++ b2) 100000 (by omega) hlen5 (by omega) h5 w5 S5.out (Nat.le_refl _))
    have R5 := Lib.hid (M1.out (unpack (bs.take nr ++ b2)) 100000 (ag_take bs b2 nr a (by have := HBL.out; omega) hanr) (by rw [HOL.out]; exact ho))
    clear hown5 hg5 hat5 hs5 h5 e5
    obtain ⟨n5, hn5⟩ : ∃ n5, 0 + nr + n1 = n5 := ⟨_, rfl⟩
    rw [hn5] at C5 ⊢
    go_wp2_with fail
    refine C5.out.mono ?_
    rintro e w6 hres
    obtain ⟨v6, rfl, hown6, hb6⟩ := inf_ok hres R5.out
    rw [HNR.out]
    rw [HOL.out] at hown6
    have B6 := Lib.hid (B5.out.trans (hb6.mono B5.out.size))
    obtain ⟨A6, c6, rfl, _, hs6⟩ := own_seen hown6
    have cv1 : (convert 22 9 (.slice Av ol cv)).run Try.prog w6 = .ok (.string (strOf o)) w6 := conv_seen (SV5.out.below hb6)
    have cv2 : (convert 22 9 (.slice Av3 ol cv3)).run Try.prog w6 = .ok (.string (strOf o)) w6 := conv_seen (SW5.out.below hb6)
    have cv3' : (convert 22 9 (.slice A6 ol c6)).run Try.prog w6 = .ok (.string (strOf o)) w6 := conv_seen hs6
    clear hres hown6 hb6 hs6
    obtain ⟨T, hT⟩ : ∃ T, strOf o = T := ⟨_, rfl⟩
    rw [hT] at cv1 cv2 cv3'
    clear hT
    by_cases hol0 : ol = 0
    · subst hol0
      go_wp2_with fail
      go_ret
      exact ⟨rfl, B6.out⟩
    · obtain ⟨om, hom⟩ : ∃ om, ol - 1 = om := ⟨_, rfl⟩
      have wom : (ol : Int) - 1 = om := by omega
      have dol : ((ol : Int) == 0) = false := by simp; omega
      have dol2 : (ol == 0) = false := by simp; omega
      have dol3 : ¬ (ol : Int) = 0 := by omega
      go_wp2_with fail
      refine (CI.out om w6 (by omega) B6.out).mono ?_
      rintro e w7 hres
      obtain ⟨rfl, hb7⟩ := inf_er hres (M2.out om (by rw [HOL.out]; omega) (by simp))
      have B7 := Lib.hid (B6.out.trans (hb7.mono B6.out.size))
      clear hres hb7 cv1 cv2 cv3'
      go_wp2_with fail
      go_ret
      exact ⟨rfl, B7.out⟩
  · have B2 := Lib.hid (B1.out.trans (hb2.mono B1.out.size))
    clear hR hb2
    have z2 : ((er : Int) == 0) = false := by simp; omega
    have z3 : ¬ (er : Int) = 0 := by omega
    have z4 : (er == 0) = false := by simp; omega
    go_wp2_with fail
    go_ret
    exact ⟨rfl, B2.out⟩

theorem most_law (A0 : Option Addr) (n0 c0 : Nat) (_ : n0 ≤ 9223372036854775807) (A1 : Option Addr) (n1 c1 : Nat) (_ : n1 ≤ 9223372036854775807) (w : World)
    (hp0 : ∃ bs : List Nat, bs.length = n0 ∧ (∀ y ∈ bs, y < 256) ∧ Seen w w.heap.size 1 A0 n0 c0 (bv bs)) (hp1 : ∃ bs : List Nat, bs.length = n1 ∧ (∀ y ∈ bs, y < 256) ∧ Seen w w.heap.size 1 A1 n1 c1 (bv bs)) :
    Calls Try.prog 6 #[.slice A0 n0 c0, .slice A1 n1 c1] w fun e w' => e = .returned (.bool true) ∧ Below w.heap.size w w' := by
  obtain ⟨bs, h1, h2, h3⟩ := hp0
  obtain ⟨b2, k1, k2, k3⟩ := hp1
  by_cases hf : 200 < n0 ∨ 50 < n1
  · exact most_far A0 A1 n0 c0 n1 c1 hf w
  · exact most_near A0 A1 n0 c0 n1 c1 (by omega) (by omega) bs b2 h1 k1 h2 k2 w h3 k3
end Go.Proofs.Ytobchlakjgeadaa
