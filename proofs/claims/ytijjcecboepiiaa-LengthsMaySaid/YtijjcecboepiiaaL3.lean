/-
  The walk of PrefixBack: it answers true, and changes nothing that was there. Conditions: the slices are read as told (Seen).
-/
import Derived.Test.YtijjcecboepiiaaL2
import Derived.Test.YtijjcecboepiiaaZ5
namespace Go.Proofs.Ytijjcecboepiiaa
open Go.RowKit

theorem back_long (A A2 : Option Addr) (n c n2 c2 : Nat) (hn : 100 < n ∨ 100 < n2) (w : World) : Calls Try.prog 9 #[.slice A n c, .slice A2 n2 c2] w fun e w' => e = .returned (.bool true) ∧ Below w.heap.size w w' := by
  by_cases h1 : 100 < n
  · clear hn
    go_enter Try.func9, Try.ntmps9
    go_wp2_with (go_at_call 17; refine (fixed_any _).mono ?_; rintro e w1 ⟨rfl, hb1⟩; have B1 := Lib.hid hb1; clear hb1)
    go_ret
    exact ⟨rfl, B1.out⟩
  · have h2 : 100 < n2 := by omega
    clear hn
    go_enter Try.func9, Try.ntmps9
    go_wp2_with (go_at_call 17; refine (fixed_any _).mono ?_; rintro e w1 ⟨rfl, hb1⟩; have B1 := Lib.hid hb1; clear hb1)
    go_ret
    exact ⟨rfl, B1.out⟩

theorem back_bad (A A2 : Option Addr) (n c n2 c2 : Nat) (hn1 : n ≤ 100) (hn2 : n2 ≤ 100) (l : List Int) (hn : l.length = n) (hk : kindOf l = 0) (w : World) (hs : Seen w w.heap.size 1 A n c (iv l)) :
    Calls Try.prog 9 #[.slice A n c, .slice A2 n2 c2] w fun e w' => e = .returned (.bool true) ∧ Below w.heap.size w w' := by
  have HS := Lib.hid hs; clear hs
  have HN := Lib.hid hn; clear hn
  have HK := Lib.hid hk; clear hk
  go_enter Try.func9, Try.ntmps9
  go_wp2_with (first
      | (go_at_call 17; refine (fixed_any _).mono ?_; rintro e w1 ⟨rfl, hb1⟩; have B1 := Lib.hid hb1; clear hb1)
      | (go_at_call 19; refine (refWords_bad A n c w.heap.size l HN.out (by omega) HK.out _ (HS.out.below B1.out) B1.out.size).mono ?_; rintro e w3 ⟨rfl, hb3⟩; have B3 := Lib.hid (B1.out.trans (hb3.mono B1.out.size)); clear hb3)
      | (go_at_call 20; refine (new_bad A n c w.heap.size l HN.out (by omega) HK.out _ (HS.out.below B3.out)).mono ?_; rintro e w4 ⟨rfl, rfl⟩))
  go_ret
  exact ⟨rfl, B3.out⟩

/-- Signs as values. -/
def sv' (ps : List Nat) : List Value := ps.map fun s => .int .i64 (s : Nat)
/-- Within the first loop: the writer, the row of signs put. -/
def BackIn (w4 : World) (gw : Nat) (l : List Int) (ps : List Nat) (v10 : Value) (wr : World) : Prop :=
  ∃ sv, WriterAt wr w4.heap.size gw sv (wbs l ps) ∧ wr.ownsRow w4.heap.size 3 1 v10 ps.length (sv' ps) ∧ Below w4.heap.size w4 wr

set_option maxHeartbeats 2000000 in
set_option maxRecDepth 100000 in
theorem back_good (A A2 : Option Addr) (n c n2 c2 : Nat) (hn1 : n ≤ 100) (hn2 : n2 ≤ 100) (l sg : List Int) (hn : l.length = n) (hb : sg.length = n2) (hk : kindOf l ≠ 0) (w : World) (hs : Seen w w.heap.size 1 A n c (iv l)) (hs2 : Seen w w.heap.size 1 A2 n2 c2 (iv sg)) :
    Calls Try.prog 9 #[.slice A n c, .slice A2 n2 c2] w fun e w' => e = .returned (.bool true) ∧ Below w.heap.size w w' := by
  obtain ⟨i0, hi0, hz0, hz1, hz2⟩ := info_parts int_info
  have HZ0 := Lib.hid hz0; clear hz0
  have HZ1 := Lib.hid hz1; clear hz1
  have HZ2 := Lib.hid hz2; clear hz2
  have HI0 := Lib.hid hi0; clear hi0
  have HS := Lib.hid hs; clear hs
  have HS2 := Lib.hid hs2; clear hs2
  have HN := Lib.hid hn; clear hn
  have HN2 := Lib.hid hb; clear hb
  have HOK := Lib.hid (right_ok hk)
  have HK := Lib.hid hk; clear hk
  have d1 : decide ((100 : Int) < n) = false := by simp; omega
  have d2 : decide ((100 : Int) < n2) = false := by simp; omega
  go_enter Try.func9, Try.ntmps9
  go_wp2_with fail
  refine (fixed_any _).mono ?_; rintro e w1 ⟨rfl, hb1⟩; have B1 := Lib.hid hb1; clear hb1
  go_wp2_with fail
  refine (refWords_any A n c w.heap.size l HN.out (by omega) HK.out _ (HS.out.below B1.out) B1.out.size).mono ?_
  rintro e w3 ⟨v3, rfl, ho3, hb3⟩
  obtain ⟨A3, c3, rfl, _, hs3⟩ := own_seen ho3
  have S3 := Lib.hid hs3
  have B3 := Lib.hid (B1.out.trans (hb3.mono B1.out.size)); clear hb3 ho3 hs3
  go_wp2_with fail
  refine (new_any A n c w.heap.size l HN.out (by omega) HK.out _ (HS.out.below B3.out) B3.out.size).mono ?_
  rintro e w4 ⟨g4, rfl, hc4, _, hb4⟩
  have S4 := Lib.hid ((S3.out.below hb4).more hb4.size)
  have C4 := Lib.hid hc4
  have B4 := Lib.hid (B3.out.trans (hb4.mono B3.out.size)); clear hb4 S3 hc4
  go_wp2_with fail
  refine (newWriter_any _).mono ?_
  rintro e w5 ⟨rfl, hW5, hb5⟩
  have H0 : Hid (BackIn w4 w4.heap.size l (pt l (sg.take 0)) (.slice none 0 0) w5) := Lib.hid ⟨_, hW5, World.ownsRow_nil _ _ _ _, hb5⟩
  clear hW5 hb5
  obtain ⟨gw, hgw⟩ : ∃ gw, w4.heap.size = gw := ⟨_, rfl⟩
  rw [hgw]
  have HGW := Lib.hid hgw
  have H0' : Hid (BackIn w4 gw l (pt l (sg.take 0)) (.slice none 0 0) w5) := by rw [← hgw]; exact H0
  clear hgw H0
  go_wp2_with fail
  go_loopw [10, 11, 13, 14, 47] (fun v10 bn _ _ i wr => ∃ k : Nat, k ≤ n2 ∧ i = .int .i64 k ∧ bn = .int .i64 ((wbs l (pt l (sg.take k))).length : Nat) ∧ BackIn w4 gw l (pt l (sg.take k)) v10 wr) (fun _ _ _ _ i _ => n2 - (intOf i).toNat)
  case atStart => exact ⟨0, by omega, rfl, rfl, H0'.out⟩
  case round =>
    clear H0'
    obtain ⟨k, hk, rfl, rfl, sv, hW, hO, hB⟩ := hrel
    have HW := Lib.hid hW; clear hW
    have HO := Lib.hid hO; clear hO
    have HB := Lib.hid hB; clear hB
    have hps : (pt l (sg.take k)).length ≤ 100 := by have := pt_length l (sg.take k); rw [List.length_take] at this; omega
    have hbl : (wbs l (pt l (sg.take k))).length ≤ 1500 := by have := wbs_length HOK.out (pt l (sg.take k)); omega
    by_cases hlt : k < n2
    · have hkl : k < sg.length := by rw [HN2.out]; exact hlt
      obtain ⟨b2, o2, rfl, hbb2, x2⟩ := (HS2.out.below (B4.out.trans (HB.out.mono B4.out.size))).int HN2.out hlt
      have ENo := Lib.hid (pt_take_no l sg k hkl)
      have EYes := Lib.hid (pt_take_yes l sg k hkl)
      obtain ⟨s, hs⟩ : ∃ s, sg[k] = s := ⟨_, rfl⟩
      rw [hs] at x2 ENo EYes
      clear hs hkl
      obtain ⟨ps, hpse⟩ : ∃ ps, pt l (sg.take k) = ps := ⟨_, rfl⟩
      rw [hpse] at ENo EYes HW HO hps hbl ⊢
      clear hpse
      by_cases hno : s < 0 ∨ (l.length : Int) ≤ s ∨ len l s.toNat = 0
      · have HNo := Lib.hid (ENo.out hno)
        have CP := Lib.hid (codePut_no w4.heap.size g4 l n HN.out HK.out (.pointer (some ⟨gw, 0, none⟩)) s wr (C4.out.below HB.out) (by rw [← HN.out]; exact hno))
        rw [HN.out] at hno
        clear ENo EYes
        have HIN : Hid (BackIn w4 gw l (pt l (sg.take (k + 1))) u10 wr) := Lib.hid (by rw [HNo.out]; exact ⟨sv, HW.out, HO.out, HB.out⟩)
        by_cases h0 : s < 0
        · have d0 : decide (s < 0) = true := by simpa using h0
          clear hno
          go_wp2_with (go_at_call 25; refine CP.out.mono ?_; rintro e w6 ⟨rfl, rfl⟩)
          go_roundw
          case rel => exact ⟨k + 1, by omega, by go_num, by rw [HNo.out], HIN.out⟩
          case measure => simp [intOf]; omega
        · obtain ⟨j, rfl⟩ := Int.eq_ofNat_of_zero_le (Int.not_lt.1 h0)
          by_cases hj : n ≤ j
          · clear hno
            go_wp2_with (go_at_call 25; refine CP.out.mono ?_; rintro e w6 ⟨rfl, rfl⟩)
            go_roundw
            case rel => exact ⟨k + 1, by omega, by go_num, by rw [HNo.out], HIN.out⟩
            case measure => simp [intOf]; omega
          · have h00 : len l j = 0 := by simpa [hj, h0] using (hno.resolve_left h0).resolve_left (by omega)
            obtain ⟨b3, o3, rfl, _, hcj⟩ := (HS.out.below (B4.out.trans (HB.out.mono B4.out.size))).int HN.out (k := j) (by omega)
            rw [len_eq HOK.out j (by rw [HN.out]; omega), h00] at hcj
            clear hno h00
            go_wp2_with (go_at_call 25; refine CP.out.mono ?_; rintro e w6 ⟨rfl, rfl⟩)
            go_roundw
            case rel => exact ⟨k + 1, by omega, by go_num, by rw [HNo.out], HIN.out⟩
            case measure => simp [intOf]; omega
      · have HYes := Lib.hid (EYes.out hno)
        rw [HN.out] at hno
        obtain ⟨j, rfl⟩ := Int.eq_ofNat_of_zero_le (show 0 ≤ s by omega)
        rw [Int.toNat_natCast] at HYes hno
        have hj : j < n := by omega
        have hj0 : len l j ≠ 0 := by omega
        have hl15 := len_le HOK.out j
        obtain ⟨b3, o3, rfl, _, hcj⟩ := (HS.out.below (B4.out.trans (HB.out.mono B4.out.size))).int HN.out hj
        rw [len_eq HOK.out j (by rw [HN.out]; exact hj)] at hcj
        obtain ⟨b5, o5, u5, rfl, hb5, q5, x5⟩ := (S4.out.below HB.out).at hj
        have hu : u5 = .string (tx (wb l j)) := by
          unfold twords at q5
          rw [mr_get _ _ _ hj] at q5
          injection q5 with q5; exact q5.symm
        subst hu
        clear q5 ENo EYes hno
        have CP := Lib.hid (codePut_yes w4.heap.size g4 l n HN.out HK.out w4.heap.size gw sv (wbs l ps) j wr (C4.out.below HB.out) HW.out (by omega) hj hj0)
        have hts : (tx (wb l j)).size = len l j := by rw [tx_size, wb_length]
        obtain ⟨S, hS⟩ : ∃ S, tx (wb l j) = S := ⟨_, rfl⟩
        rw [hS] at x5 hts
        clear hS
        have HTS := Lib.hid hts; clear hts
        have hS15 : S.size ≤ 15 := by rw [HTS.out]; exact hl15
        have hjl0 : ((len l j : Int) == 0) = false := by simp; omega
        have hjl1 : (len l j == 0) = false := by simpa using hj0
        have b3lt : b3 < w4.heap.size := by have := B4.out.size; omega
        have X5 := Lib.hid x5; clear x5
        have HCJ := Lib.hid hcj; clear hcj
        have X2 := Lib.hid x2; clear x2
        have x2 := X2.out
        go_wp2_with fail
        refine CP.out.mono ?_
        rintro e w6 ⟨rfl, sv6, hW6, hO6, hsv6⟩
        have hF : ∀ i, Foot gw sv i → w4.heap.size ≤ i := by
          intro i hi
          rcases hi with rfl | hi
          · have := HGW.out; omega
          · exact (own_whole HW.out.2.2 hi).1
        have B6 : Hid (Below w4.heap.size w4 w6) := Lib.hid (HB.out.trans (hO6.below HB.out.size hF))
        have O6 : Hid (w6.ownsRow w4.heap.size 3 1 u10 ps.length (sv' ps)) := Lib.hid (own_only HO.out hO6 (by
          intro i hi hf
          rcases hf with rfl | hf
          · exact own_ne_whole HO.out HW.out.2.1 (by decide) _ hi rfl
          · exact own_ne_own HO.out HW.out.2.2 (by decide) _ hi hf))
        have W6 := Lib.hid hW6
        have hcj : w6.cell? ⟨b3, o3 + j, none⟩ = some (.int .i64 (len l j : Nat)) := hO6.cell HCJ.out (by intro h; have := hF _ h; simp at this; omega)
        have hx5 : w6.cell? ⟨b5, o5 + j, none⟩ = some (.string S) := hO6.cell X5.out (by intro h; have := hF _ h; simp at this; omega)
        have hz6 := B6.out.size
        have hb5z : b5 < w6.heap.size := by omega
        have hb3z : b3 < w6.heap.size := by omega
        clear hW6 hO6 hsv6 hF HW HO HB CP x2
        have EL : Hid ((wbs l ps).length + S.size = (wbs l ps ++ wb l j).length) := Lib.hid (by rw [List.length_append, wb_length, HTS.out])
        have EW : Hid (wbs l (ps ++ [j]) = wbs l ps ++ wb l j) := Lib.hid (by rw [wbs_append]; simp [wbs])
        have hAp : ∀ (v7 : Value) (w7 : World), w7.ownsRow w4.heap.size 3 1 v7 (ps.length + 1) (sv' ps ++ [.int .i64 (j : Int)]) → (w6.alloc (.cells #[.int .i64 (j : Int)] 3)).grownBy w7 u10.ownBlock →
            Below w4.heap.size w4 w7 ∧ WriterAt w7 w4.heap.size gw sv6 (wbs l ps ++ wb l j) ∧ w7.ownsRow w4.heap.size 3 1 v7 (ps ++ [j]).length (sv' (ps ++ [j])) ∧ w7.cell? ⟨b5, o5 + j, none⟩ = some (.string S) := by
          intro v7 w7 hown7 hg7
          have hne7 : ∀ i, u10.ownBlock = some i → w4.heap.size ≤ i := fun i hi => (own_whole O6.out hi).1
          have hB7 : Below w4.heap.size w4 w7 := (B6.out.alloc hz6 _).grown hg7 (by simp; omega) hne7
          refine ⟨hB7, ⟨W6.out.1, (W6.out.2.1.alloc _).grown hg7 (fun e => own_ne_whole O6.out W6.out.2.1 (by decide) gw e.symm rfl), ?_⟩, ?_, ?_⟩
          · refine (W6.out.2.2.alloc _).kept hg7 ?_
            cases hv : sv6.ownBlock with
            | none => exact .inl rfl
            | some q => exact .inr (fun e => own_ne_own O6.out W6.out.2.2 (by decide) q e.symm hv)
          · have e : sv' (ps ++ [j]) = sv' ps ++ [.int .i64 (j : Int)] := by simp [sv']
            rw [e, List.length_append]
            exact hown7
          · have h1 := (Below.alloc (Below.refl w6.heap.size w6) (Nat.le_refl _) (.cells #[.int .i64 (j : Int)] 3)).cell (p := ⟨b5, o5 + j, none⟩) hb5z
            have h2 := hg7.block b5 (by simp; omega) (fun e => by have := hne7 b5 e.symm; omega)
            have h3 : w7.cell? ⟨b5, o5 + j, none⟩ = (w6.alloc (.cells #[.int .i64 (j : Int)] 3)).cell? ⟨b5, o5 + j, none⟩ := by
              simp only [World.cell?, h2]
            rw [h3, h1]
            exact hx5
        have HAp := Lib.hid hAp; clear hAp
        go_wp2_with (first
          | (at_builtin; refine wpList_append_seen _ rfl (.tmp 72) (.tmp 74) _ rfl w4.heap.size 3 i0 _ 1 8 Try.underlying22 HI0.out HZ0.out HZ1.out HZ2.out rfl (by omega) u10 ps.length _ rfl (O6.out.alloc _) _ _ 1 1 _ rfl (seen_one _ _ _) (by simp [Value.oneCell']) (by simp only [maxLen]; omega) (by omega) (by simp only [World.size_alloc]; omega) ?_; intro v7 w7 hown7 hg7 hat7; obtain ⟨hB7, hW7, hO7, hx7⟩ := HAp.out v7 w7 hown7 hg7; have B7 := Lib.hid hB7; have W7 := Lib.hid hW7; have O7 := Lib.hid hO7; clear hB7 hW7 hO7 hown7 hg7 hat7)
          | (go_at_call 30; refine (len_any _ _ _ _ _ W7.out).mono ?_; rintro e w8 ⟨rfl, rfl⟩; rw [← EL.out]))
        go_roundw
        case rel =>
          refine ⟨k + 1, by omega, by go_num, ?_, ?_⟩
          · rw [HYes.out, EW.out, ← EL.out]; go_num
          · rw [HYes.out]
            exact ⟨sv6, by rw [EW.out]; exact W7.out, O7.out, B7.out⟩
        case measure => simp [intOf]; omega
    · have ek : sg.take k = sg := List.take_of_length_le (by rw [HN2.out]; omega)
      rw [ek] at HW HO hps hbl ⊢
      clear ek
      have hMem := Lib.hid (pt_mem l sg)
      obtain ⟨ps, hpse⟩ : ∃ ps, pt l sg = ps := ⟨_, rfl⟩
      rw [hpse] at HW HO hps hbl hMem ⊢
      clear hpse
      obtain ⟨A10, c10, rfl, _, hs10⟩ := own_seen HO.out
      have S10 := Lib.hid hs10; clear hs10 HO
      have hz := HB.out.size
      have hz4 := B4.out.size
      go_wp2_with fail
      refine (writerBytes_any _ _ _ _ _ HW.out (by omega)).mono ?_
      rintro e w6 ⟨v6, rfl, ho6, hb6⟩
      obtain ⟨A6, c6, rfl, _, hs6⟩ := own_seen ho6
      have S6 := Lib.hid hs6
      have S10b := Lib.hid ((S10.out.below hb6).more hb6.size)
      have B46 := Lib.hid (HB.out.trans (hb6.mono hz))
      clear ho6 hs6 hb6 S10 HW
      have hz6 := B46.out.size
      go_wp2_with fail
      refine (newReader_any A6 _ c6 w6.heap.size (pack (wbs l ps)) _ (by simp) S6.out (Nat.le_refl _) (by omega)).mono ?_
      rintro e w7 ⟨gr, svr, rfl, hR7, hb7⟩
      have R7 := Lib.hid hR7
      have B67 := Lib.hid hb7
      clear hR7 hb7 S6
      have hgr : w6.heap.size ≤ gr := R7.out.1
      obtain ⟨pad, hpad, _⟩ := unpack_pack (wbs l ps)
      have HPad := Lib.hid hpad; clear hpad
      go_wp2_with fail
      go_loopw [17, 18, 19, 97] (fun _ _ _ i wr => ∃ k : Nat, k ≤ ps.length ∧ i = .int .i64 k ∧ ReaderAt wr w6.heap.size gr svr (pack (wbs l ps)) (wbs l (ps.take k)).length ∧ Below w6.heap.size w6 wr) (fun _ _ _ i _ => ps.length - (intOf i).toNat)
      case atStart => exact ⟨0, by omega, rfl, R7.out, B67.out⟩
      case round =>
        clear R7 B67
        obtain ⟨q, hq, rfl, hR, hB6⟩ := hrel
        have HR := Lib.hid hR; clear hR
        have HB6 := Lib.hid hB6; clear hB6
        have B4r := Lib.hid (B46.out.trans (HB6.out.mono hz6))
        by_cases hlt2 : q < ps.length
        · obtain ⟨b9, o9, u9, rfl, _, q9, x9⟩ := (S10b.out.below HB6.out).at hlt2
          have hu : u9 = .int .i64 (ps[q] : Nat) := by
            unfold sv' at q9
            rw [List.getElem?_map, List.getElem?_eq_getElem hlt2] at q9
            simpa using q9.symm
          subst hu
          have hm := hMem.out _ (List.getElem_mem hlt2)
          have esn : wbs l (ps.take (q + 1)) = wbs l (ps.take q) ++ wb l ps[q] := by rw [take_snoc ps q hlt2, wbs_append]; simp [wbs]
          have eall : wbs l ps = wbs l (ps.take q) ++ (wb l ps[q] ++ wbs l (ps.drop (q + 1))) := by
            conv => lhs; rw [← List.take_append_drop q ps, wbs_append, List.drop_eq_getElem_cons hlt2]
            rfl
          have hle : (wbs l (ps.take q)).length ≤ 8 * (pack (wbs l ps)).length := by
            rw [pack_length]
            have := congrArg List.length eall
            rw [List.length_append] at this
            omega
          have hlk : lookup l ((unpack (pack (wbs l ps))).drop (wbs l (ps.take q)).length) = .found (len l ps[q]) (wv l ps[q]) := by
            refine lookup_word HK.out _ hm.1 hm.2 _ ?_
            rw [HPad.out, eall, List.append_assoc, List.drop_left, List.append_assoc, ← wb_length l ps[q], List.take_left]
          obtain ⟨s, hs⟩ : ∃ s, ps[q] = s := ⟨_, rfl⟩
          rw [hs] at x9 esn hlk hm
          have HLK := Lib.hid hlk
          have HSN := Lib.hid esn
          have HM := Lib.hid hm
          clear hlk esn eall hs q9 hm
          go_wp2_with fail
          refine (codeGet_any w4.heap.size g4 l n HN.out (by omega) HK.out w6.heap.size gr svr (pack (wbs l ps)) _ _ (C4.out.below B4r.out) HR.out (by omega) (by rw [pack_length]; omega) (pack_lt _) hle).mono ?_
          rintro e w9 ⟨j9, er9, m9, hgot, rfl, hR9, hO9⟩
          unfold CodeGot at hgot
          rw [HLK.out] at hgot
          simp only at hgot
          obtain ⟨g1, g2, g3, rfl, rfl⟩ := hgot
          have hjs : j9 = s := by
            refine pos_inj HOK.out j9 s g1 HM.out.1 (by rw [g2]; exact HM.out.2) HM.out.2 ?_
            unfold wv at g3
            unfold pos
            rw [g2] at g3 ⊢
            omega
          subst hjs
          have B9 : Hid (Below w6.heap.size w6 w9) := Lib.hid (HB6.out.trans (hO9.below HB6.out.size (by intro k hk; have : k = gr := hk; omega)))
          have HR9 : Hid (ReaderAt w9 w6.heap.size gr svr (pack (wbs l ps)) (wbs l (ps.take (q + 1))).length) := Lib.hid (by rw [HSN.out, List.length_append, wb_length]; exact hR9)
          clear hR9 hO9 g1 g2 g3 x9
          go_wp2_with fail
          go_roundw
          case rel => exact ⟨q + 1, by omega, by go_num, HR9.out, B9.out⟩
          case measure => simp [intOf]; omega
        · have B0 := Lib.hid (B4.out.trans (B4r.out.mono hz4))
          go_wp2_with fail
          go_ret
          exact ⟨rfl, B0.out⟩

theorem back_law (A : Option Addr) (n c : Nat) (_ : n ≤ 9223372036854775807) (A2 : Option Addr) (n2 c2 : Nat) (_ : n2 ≤ 9223372036854775807) (w : World)
    (hp : ∃ l : List Int, l.length = n ∧ (∀ y ∈ l, -9223372036854775808 ≤ y ∧ y < 9223372036854775808) ∧ Seen w w.heap.size 1 A n c (iv l)) (hp2 : ∃ l : List Int, l.length = n2 ∧ (∀ y ∈ l, -9223372036854775808 ≤ y ∧ y < 9223372036854775808) ∧ Seen w w.heap.size 1 A2 n2 c2 (iv l)) :
    Calls Try.prog 9 #[.slice A n c, .slice A2 n2 c2] w fun e w' => e = .returned (.bool true) ∧ Below w.heap.size w w' := by
  obtain ⟨l, h1, _, h2⟩ := hp
  obtain ⟨sg, h3, _, h5⟩ := hp2
  by_cases hn : 100 < n ∨ 100 < n2
  · exact back_long A A2 n c n2 c2 hn w
  · by_cases hk : kindOf l = 0
    · exact back_bad A A2 n c n2 c2 (by omega) (by omega) l h1 hk w h2
    · exact back_good A A2 n c n2 c2 (by omega) (by omega) l sg h1 h3 hk w h2 h5
end Go.Proofs.Ytijjcecboepiiaa
