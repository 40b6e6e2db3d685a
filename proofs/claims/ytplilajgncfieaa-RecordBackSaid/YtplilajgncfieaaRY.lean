/-
  Records that are written are read: mathematics of what the readers answer of the writers' bytes. Conditions: numbers are of their kinds.
-/
import Derived.Test.YtplilajgncfieaaRN
import Derived.Test.YtplilajgncfieaaRG
namespace Go.Proofs.Ytplilajgncfieaa
open Go.RowKit
set_option maxRecDepth 100000

theorem nxt_mid (pre mid post : List Nat) (k : Nat) (hk : mid.length = k) : nxt (pre ++ mid ++ post) pre.length 0 k true = (mid, pre.length + k, 0) := by
  unfold nxt cerr
  have h : ¬ (((pre ++ mid ++ post).length : Int) - pre.length < k) := by simp; omega
  simp only [ne_eq, not_true_eq_false, if_false, Bool.true_eq_false, h, if_true, Int.toNat_natCast]
  rw [List.append_assoc, List.drop_left, ← hk, List.take_left]
theorem rd1_put (pre post : List Nat) (v k : Nat) : rd1 (pre ++ leb v k ++ post) k pre.length 0 = (((v % 256 ^ k : Nat) : Int), pre.length + k, 0) := by
  unfold rd1
  rw [nxt_mid pre (leb v k) post k (by simp), len_leb]
theorem rdz_pairs (ps : List (Nat × Int)) (pre post : List Nat) : rdz (pre ++ pairsL ps ++ post) (ps.map (·.1)) pre.length 0 = (ps.map fun p => ((u64 p.2 % 256 ^ p.1 : Nat) : Int), pre.length + (pairsL ps).length, 0) := by
  induction ps generalizing pre with
  | nil => simp [rdz, pairsL]
  | cons p l ih =>
    have e : pre ++ pairsL (p :: l) ++ post = pre ++ leb (u64 p.2) p.1 ++ (pairsL l ++ post) := by simp [pairsL]
    have e2 : pre ++ leb (u64 p.2) p.1 ++ (pairsL l ++ post) = (pre ++ leb (u64 p.2) p.1) ++ pairsL l ++ post := by simp
    have h1 : rd1 (pre ++ pairsL (p :: l) ++ post) p.1 pre.length 0 = (((u64 p.2 % 256 ^ p.1 : Nat) : Int), pre.length + p.1, 0) := by rw [e]; exact rd1_put _ _ _ _
    simp only [List.map_cons, rdz, h1]
    have h2 := ih (pre ++ leb (u64 p.2) p.1)
    rw [List.length_append, leb_length] at h2
    rw [e, e2, h2]
    simp [pairsL, Nat.add_assoc]
theorem rdz_pairs0 (ps : List (Nat × Int)) (post l : List Nat) (zs : List Nat) (hz : ps.map (·.1) = zs) (L : List Nat) (hL : pairsL ps = L) (n : Nat) (hn : L.length = n) (hl : l = L ++ post) : rdz l zs 0 0 = (ps.map fun p => ((u64 p.2 % 256 ^ p.1 : Nat) : Int), n, 0) := by
  have h := rdz_pairs ps [] post
  rw [List.nil_append, List.length_nil, Nat.zero_add, hL, hn, hz] at h
  rw [hl]
  exact h
theorem u64_nat {n : Nat} (h : n < 18446744073709551616) : u64 (n : Int) = n := by
  have h1 := u64_wrap (n : Int)
  have : IntKind.u64.wrap (n : Int) = (n : Int) % 18446744073709551616 := by simp [IntKind.wrap, IntKind.bits, IntKind.signed]
  omega
theorem back2 {n : Nat} (h : n < 65536) : ((u64 (n : Int) % 256 ^ 2 : Nat) : Int) = n := by rw [u64_nat (by omega)]; omega
theorem back4 {n : Nat} (h : n < 4294967296) : ((u64 (n : Int) % 256 ^ 4 : Nat) : Int) = n := by rw [u64_nat (by omega)]; omega
theorem back_m1 : ((u64 67324752 % 256 ^ 4 : Nat) : Int) = 67324752 := by decide +kernel
theorem back_m2 : ((u64 33639248 % 256 ^ 4 : Nat) : Int) = 33639248 := by decide +kernel
theorem back_m3 : ((u64 134695760 % 256 ^ 4 : Nat) : Int) = 134695760 := by decide +kernel
theorem back_20 : ((u64 20 % 256 ^ 2 : Nat) : Int) = 20 := by decide +kernel
theorem back_0 : ((u64 0 % 256 ^ 2 : Nat) : Int) = 0 := by decide +kernel
theorem back_04 : ((u64 0 % 256 ^ 4 : Nat) : Int) = 0 := by decide +kernel
theorem back_fl (be : Bool) : ((u64 (flagN be) % 256 ^ 2 : Nat) : Int) = flagN be := by cases be <;> decide +kernel
theorem strOf_strL (s : ByteArray) : strOf (strL s) = s := by
  unfold strOf strL
  rw [List.map_map]
  have : s.data.toList.map ((fun n => UInt8.ofNat n) ∘ fun x => x.toNat) = s.data.toList := by
    rw [List.map_congr_left (g := id) (fun b _ => by simp), List.map_id]
  rw [this]

/-- A record that may be written and read: of Method 0 or 8, its numbers those of 32 bits. -/
def rcd (me da cl su pa si of : Nat) (na : ByteArray) : Rec := ⟨me, da, cl, su, pa, si, na, of⟩
theorem local_is (me da cl su pa si of : Nat) (na : ByteArray) (hme : me = 0 ∨ me = 8) (hda : da < 65536) (hcl : cl < 65536) (hsu : su < 4294967296) (hpa : pa < 4294967296) (hsi : si < 4294967296) (hn : na.size ≤ 1000) (be : Bool) :
    ∃ su' pa' si' : Nat, told (rcd me da cl su pa si of na) be = rcd me da cl su' pa' si' of na ∧
      LocIs (localL (rcd me da cl su pa si of na) be) 0 0 67324752 20 (flagN be) me cl da su' pa' si' na.size 0 30 0 ∧ locR 20 (flagN be) me su' pa' si' 0 = true ∧ (be = true → su' = 0 ∧ pa' = 0 ∧ si' = 0) ∧ (be = false → su' = su ∧ pa' = pa ∧ si' = si) := by
  obtain ⟨su', pa', si', h1, h2, h3, h4, h5, h6⟩ : ∃ su' pa' si' : Nat, told (rcd me da cl su pa si of na) be = rcd me da cl su' pa' si' of na ∧ su' < 4294967296 ∧ pa' < 4294967296 ∧ si' < 4294967296 ∧ (be = true → su' = 0 ∧ pa' = 0 ∧ si' = 0) ∧ (be = false → su' = su ∧ pa' = pa ∧ si' = si) := by
    cases be
    · exact ⟨su, pa, si, rfl, hsu, hpa, hsi, by simp, by simp⟩
    · exact ⟨0, 0, 0, rfl, by omega, by omega, by omega, by simp, by simp⟩
  refine ⟨su', pa', si', h1, ⟨?_, hcl, hda, h2, by omega, by omega, ?_⟩, ?_, h5, h6⟩
  · have hp := shared_pairs me da cl su' pa' si' na of be
    have hL : localL (rcd me da cl su pa si of na) be = (putL [67324752] 4 ++ putL [20] 2 ++ sharedL ⟨me, da, cl, su', pa', si', na, of⟩ be) ++ strL na := by
      have h2 : localL (rcd me da cl su pa si of na) be = putL [67324752] 4 ++ putL [20] 2 ++ sharedL (told (rcd me da cl su pa si of na) be) be ++ strL (rcd me da cl su pa si of na).na := by unfold localL; with_reducible rfl
      rw [h2, h1]
      unfold rcd
      with_reducible rfl
    have hln : (putL [67324752] 4 ++ putL [20] 2 ++ sharedL ⟨me, da, cl, su', pa', si', na, of⟩ be).length = 30 := by simp [putL_length, sharedL_length]
    generalize putL [67324752] 4 ++ putL [20] 2 ++ sharedL ⟨me, da, cl, su', pa', si', na, of⟩ be = L at hp hL hln
    generalize localL (rcd me da cl su pa si of na) be = LL at hL ⊢
    have hq := rdz_pairs0 _ (strL na) LL (4 :: 2 :: szS) (by simp [szS]) L hp 30 hln hL
    have hm : ((u64 (me : Int) % 256 ^ 2 : Nat) : Int) = me := back2 (by omega)
    rw [hq]
    simp only [List.map_cons, List.map_nil, back_m1, back_20, back_0, back_fl, hm, back2 hcl, back2 hda, back4 h2, back4 h3, back4 h4, back2 (show na.size < 65536 by omega)]
  · simp [localL, putL_length, sharedL_length]; omega
  · unfold locR rightS nothS flagN
    cases be
    · rcases hme with rfl | rfl <;> simp
    · obtain ⟨rfl, rfl, rfl⟩ := h5 rfl
      rcases hme with rfl | rfl <;> simp
theorem central_is (me da cl su pa si of : Nat) (na : ByteArray) (hme : me = 0 ∨ me = 8) (hda : da < 65536) (hcl : cl < 65536) (hsu : su < 4294967296) (hpa : pa < 4294967296) (hsi : si < 4294967296) (hof : of < 4294967296) (hn : na.size ≤ 1000) (be : Bool) :
    CenIs (centralL (rcd me da cl su pa si of na) be) 0 0 33639248 20 20 (flagN be) me cl da su pa si na.size 0 0 0 0 0 of 46 0 ∧ cenR 20 20 (flagN be) me 0 0 0 0 0 = true := by
  refine ⟨⟨?_, hcl, hda, hsu, by omega, by omega, ?_⟩, ?_⟩
  · have hp := central_pairs me da cl su pa si na of be
    have hL : centralL (rcd me da cl su pa si of na) be = (putL [33639248] 4 ++ putL [20, 20] 2 ++ sharedL ⟨me, da, cl, su, pa, si, na, of⟩ be ++ putL [0, 0, 0] 2 ++ putL [0, (of : Int)] 4) ++ strL na := by
      unfold centralL rcd
      with_reducible rfl
    have hln : (putL [33639248] 4 ++ putL [20, 20] 2 ++ sharedL ⟨me, da, cl, su, pa, si, na, of⟩ be ++ putL [0, 0, 0] 2 ++ putL [0, (of : Int)] 4).length = 46 := by simp [putL_length, sharedL_length]
    generalize putL [33639248] 4 ++ putL [20, 20] 2 ++ sharedL ⟨me, da, cl, su, pa, si, na, of⟩ be ++ putL [0, 0, 0] 2 ++ putL [0, (of : Int)] 4 = L at hp hL hln
    generalize centralL (rcd me da cl su pa si of na) be = LL at hL ⊢
    have hq := rdz_pairs0 _ (strL na) LL szC (by simp [szC, szS]) L hp 46 hln hL
    have hm : ((u64 (me : Int) % 256 ^ 2 : Nat) : Int) = me := back2 (by omega)
    rw [hq]
    simp only [List.map_cons, List.map_nil, back_m2, back_20, back_0, back_04, back_fl, hm, back2 hcl, back2 hda, back4 hsu, back4 hpa, back4 hsi, back4 hof, back2 (show na.size < 65536 by omega)]
  · simp [centralL, putL_length, sharedL_length]; omega
  · unfold cenR rightS flagN
    cases be <;> rcases hme with rfl | rfl <;> simp
theorem behind_is (r : Rec) (su pa si : Nat) (hr : r.su = su ∧ r.pa = pa ∧ r.si = si) (hsu : su < 4294967296) (hpa : pa < 4294967296) (hsi : si < 4294967296) : BehIs (behindL r) 0 0 134695760 su pa si 16 0 := by
  refine ⟨?_, hsu, ?_⟩
  · have hp : pairsL [(4, 134695760), (4, (su : Int)), (4, (pa : Int)), (4, (si : Int))] = behindL r := by
      unfold behindL
      rw [hr.1, hr.2.1, hr.2.2]
      simp [pairsL, putL]
    have hln : (behindL r).length = 16 := by simp [behindL, putL_length]
    generalize behindL r = L at hp hln ⊢
    have hq := rdz_pairs0 _ [] L [4, 4, 4, 4] (by simp) L hp 16 hln (by simp)
    rw [hq]
    simp only [List.map_cons, List.map_nil, back_m3, back4 hsu, back4 hpa, back4 hsi]
  · simp [behindL, putL_length]

/-- The name stands behind the numbers. -/
theorem local_name (r : Rec) (be : Bool) : nxt (localL r be) 30 0 r.na.size true = (strL r.na, 30 + r.na.size, 0) := by
  have h := nxt_mid (putL [67324752] 4 ++ putL [20] 2 ++ sharedL (told r be) be) (strL r.na) [] r.na.size (strL_length _)
  rw [show (putL [67324752] 4 ++ putL [20] 2 ++ sharedL (told r be) be).length = 30 by simp [putL_length, sharedL_length], List.append_nil] at h
  exact h
theorem central_name (r : Rec) (be : Bool) : nxt (centralL r be) 46 0 r.na.size true = (strL r.na, 46 + r.na.size, 0) := by
  have h := nxt_mid (putL [33639248] 4 ++ putL [20, 20] 2 ++ sharedL r be ++ putL [0, 0, 0] 2 ++ putL [0, r.of] 4) (strL r.na) [] r.na.size (strL_length _)
  rw [show (putL [33639248] 4 ++ putL [20, 20] 2 ++ sharedL r be ++ putL [0, 0, 0] 2 ++ putL [0, r.of] 4).length = 46 by simp [putL_length, sharedL_length], List.append_nil] at h
  exact h
theorem centralL_lt (r : Rec) (b : Bool) : ∀ x ∈ centralL r b, x < 256 := by
  intro x hx
  simp only [centralL, List.mem_append] at hx
  rcases hx with ((((h | h) | h) | h) | h) | h
  · exact putL_lt _ _ x h
  · exact putL_lt _ _ x h
  · exact sharedL_lt _ _ x h
  · exact putL_lt _ _ x h
  · exact putL_lt _ _ x h
  · exact strL_lt _ x h
theorem flag_eq (be : Bool) : (flagN be == 8) = be := by cases be <;> decide

theorem readLocal_back (me da cl su pa si of : Nat) (na : ByteArray) (hme : me = 0 ∨ me = 8) (hda : da < 65536) (hcl : cl < 65536) (hsu : su < 4294967296) (hpa : pa < 4294967296) (hsi : si < 4294967296) (hn : na.size ≤ 1000) (be : Bool) :
    ∃ su' pa' si' : Nat, (be = true → su' = 0 ∧ pa' = 0 ∧ si' = 0) ∧ (be = false → su' = su ∧ pa' = pa ∧ si' = si) ∧ ∀ (B g : Nat) (sv : Value) (w : World), CursorAt w B g sv (localL (rcd me da cl su pa si of na) be) 0 0 →
      Calls Try.prog 16 #[.pointer (some ⟨g, 0, none⟩)] w fun e w' => e = .returned (.tuple #[.agg #[.int .i64 me, .int .u16 da, .int .u16 cl, .int .u32 su', .int .i64 pa', .int .i64 si', .string na, .int .i64 0], .bool be]) ∧ CurRes w B g sv (localL (rcd me da cl su pa si of na) be) (30 + na.size, 0) w' := by
  obtain ⟨su', pa', si', _, hL, hR, h5, h6⟩ := local_is me da cl su pa si of na hme hda hcl hsu hpa hsi hn be
  refine ⟨su', pa', si', h5, h6, fun B g sv w hw => ?_⟩
  have h := readLocal_is B g sv _ 0 0 hL w hw (by simp [localL, putL_length, sharedL_length, strL_length, rcd]; omega) (Nat.zero_le _) (localL_lt _ _)
  rw [hR, show errP ((67324752 : Int) == 67324752) true 0 = 0 by decide, show nxt (localL (rcd me da cl su pa si of na) be) 30 0 na.size true = (strL na, 30 + na.size, 0) from local_name (rcd me da cl su pa si of na) be] at h
  have hrr : recRes (strL na, 30 + na.size, 0) (flagN be) me cl da su' pa' si' 0 = .tuple #[.agg #[.int .i64 me, .int .u16 da, .int .u16 cl, .int .u32 su', .int .i64 pa', .int .i64 si', .string na, .int .i64 0], .bool be] := by
    simp [recRes, strOf_strL, flag_eq, recC]
  rw [hrr] at h
  exact h
theorem readCentral_back (me da cl su pa si of : Nat) (na : ByteArray) (hme : me = 0 ∨ me = 8) (hda : da < 65536) (hcl : cl < 65536) (hsu : su < 4294967296) (hpa : pa < 4294967296) (hsi : si < 4294967296) (hof : of < 4294967296) (hn : na.size ≤ 1000) (be : Bool) (B g : Nat) (sv : Value) (w : World) (hw : CursorAt w B g sv (centralL (rcd me da cl su pa si of na) be) 0 0) :
      Calls Try.prog 18 #[.pointer (some ⟨g, 0, none⟩)] w fun e w' => e = .returned (.tuple #[.agg #[.int .i64 me, .int .u16 da, .int .u16 cl, .int .u32 su, .int .i64 pa, .int .i64 si, .string na, .int .i64 of], .bool be]) ∧ CurRes w B g sv (centralL (rcd me da cl su pa si of na) be) (46 + na.size, 0) w' := by
  obtain ⟨hL, hR⟩ := central_is me da cl su pa si of na hme hda hcl hsu hpa hsi hof hn be
  have h := readCentral_is B g sv _ 0 0 hL w hw (by simp [centralL, putL_length, sharedL_length, strL_length, rcd]; omega) (Nat.zero_le _) (centralL_lt _ _)
  rw [hR, show errP ((33639248 : Int) == 33639248) true 0 = 0 by decide, show nxt (centralL (rcd me da cl su pa si of na) be) 46 0 na.size true = (strL na, 46 + na.size, 0) from central_name (rcd me da cl su pa si of na) be] at h
  have hrr : recRes (strL na, 46 + na.size, 0) (flagN be) me cl da su pa si of = .tuple #[.agg #[.int .i64 me, .int .u16 da, .int .u16 cl, .int .u32 su, .int .i64 pa, .int .i64 si, .string na, .int .i64 of], .bool be] := by
    simp [recRes, strOf_strL, flag_eq, recC]
  rw [hrr] at h
  exact h
theorem readBehind_back (r : Rec) (su pa si : Nat) (hr : r.su = su ∧ r.pa = pa ∧ r.si = si) (hsu : su < 4294967296) (hpa : pa < 4294967296) (hsi : si < 4294967296) (B g : Nat) (sv : Value) (w : World) (hw : CursorAt w B g sv (behindL r) 0 0) :
      Calls Try.prog 20 #[.pointer (some ⟨g, 0, none⟩)] w fun e w' => e = .returned (.agg #[.int .i64 0, .int .u16 0, .int .u16 0, .int .u32 su, .int .i64 pa, .int .i64 si, .string ⟨#[]⟩, .int .i64 0]) ∧ CurRes w B g sv (behindL r) (16, 0) w' := by
  have h := readBehind_is B g sv _ 0 0 (behind_is r su pa si hr hsu hpa hsi) w hw (by simp [behindL, putL_length]) (Nat.zero_le _) (by unfold behindL; exact putL_lt _ _)
  rw [show errP ((134695760 : Int) == 134695760) true 0 = 0 by decide] at h
  have hb : recC (behOf 134695760 su pa si 0) = #[.int .i64 0, .int .u16 0, .int .u16 0, .int .u32 su, .int .i64 pa, .int .i64 si, .string ⟨#[]⟩, .int .i64 0] := by
    simp [behOf, errP, recC]
  rw [hb] at h
  exact h
end Go.Proofs.Ytplilajgncfieaa
