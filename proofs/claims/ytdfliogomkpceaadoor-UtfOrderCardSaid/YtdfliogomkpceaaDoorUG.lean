/-
  The document's Encode. Conditions: a text of at most a hundred thousand bytes.
-/
import Derived.Test.YtdfliogomkpceaaDoorUF
namespace Go.Proofs.YtdfliogomkpceaaDoor
open Go Go.RowKit
set_option maxRecDepth 100000

/-- A sign's units. -/
def uOf (c : Nat) : List Nat := if c < 65536 then [c] else [55296 + (c - 65536) / 1024, 56320 + (c - 65536) % 1024]
def uOfs (l : List Nat) : List Nat := l.flatMap uOf
def encodeM (l : List UInt8) : Option (List UInt8) := match sgM [] l with
  | none => none
  | some u => some (uBs (uOfs u))
theorem uOfs_snoc (l : List Nat) (x : Nat) : uOfs (l ++ [x]) = uOfs l ++ uOf x := by simp [uOfs]
theorem uOf_le (c : Nat) : (uOf c).length ≤ 2 := by unfold uOf; split <;> simp
theorem uOfs_le : ∀ l : List Nat, (uOfs l).length ≤ 2 * l.length
  | [] => Nat.le_refl _
  | x :: l => by
    have h1 := uOfs_le l
    have h2 := uOf_le x
    have e : uOfs (x :: l) = uOf x ++ uOfs l := rfl
    rw [e, List.length_append, List.length_cons]; omega
theorem uOfs_lt {l : List Nat} (h : ∀ x ∈ l, x < 1114112) : ∀ y ∈ uOfs l, y < 65536 := by
  intro y hy
  obtain ⟨x, hx, hy⟩ := List.mem_flatMap.1 hy
  have := h x hx
  unfold uOf at hy
  split at hy
  · simp at hy; omega
  · simp at hy; omega
theorem sg_facts {u : List Nat} : ∀ (n : Nat) (p : List Nat) (s : List UInt8), s.length ≤ n → (∀ x ∈ p, x < 1114112) → sgM p s = some u → (∀ x ∈ u, x < 1114112) ∧ u.length ≤ p.length + s.length
  | n, p, [], _, hp, h => by rw [sgM] at h; cases h; exact ⟨hp, by simp⟩
  | 0, p, c :: r, hn, _, _ => by simp at hn
  | n + 1, p, c :: r, hn, hp, h => by
    rw [sgM] at h
    split at h
    · cases h
    obtain ⟨h1, h2⟩ := sg_facts n _ _ (by rw [List.length_drop]; simp at hn; omega) (fun x hx => by
      rcases List.mem_append.1 hx with hx | hx
      · exact hp x hx
      · rw [List.mem_singleton.1 hx]; exact dec_bound (l := c :: r) rfl) h
    refine ⟨h1, ?_⟩
    rw [List.length_append, List.length_drop] at h2
    simp at h2 ⊢; omega
theorem iv_at (l : List Nat) (k : Nat) (h : k < l.length) : (iv l)[k]? = some (.int .i64 (l[k] : Nat)) := by simp [iv, h]
theorem m65536 (z : Int) (h : 0 ≤ z ∧ z < 65536) : z % 65536 = z := by omega
theorem td1024 (x a : Nat) (h : x / 1024 = a) : (x : Int).tdiv 1024 = (a : Int) := by rw [Int.tdiv_eq_ediv_of_nonneg (by omega)]; omega
theorem tm1024 (x a : Nat) (h : x % 1024 = a) : (x : Int).tmod 1024 = (a : Int) := by rw [Int.tmod_eq_emod_of_nonneg (by omega)]; omega

set_option maxHeartbeats 16000000 in
theorem encode_any (l : List UInt8) (hs : l.length ≤ 100000) (w : World) : Calls Tryd.prog 11 #[.string (tx l)] w (GivesText w (encodeM l)) := by
  obtain ⟨i0, hi0, hz0, hz1, hz2⟩ := info_parts unit_info
  have CA := Lib.hid (fun W => signs_any l l.length rfl hs W)
  have hA : ∀ u, sgM [] l = some u → (∀ x ∈ u, x < 1114112) ∧ u.length ≤ 100000 := fun u h => by
    obtain ⟨h1, h2⟩ := sg_facts l.length [] l (Nat.le_refl _) (fun x hx => by cases hx) h
    exact ⟨h1, by simp at h2; omega⟩
  obtain ⟨ra, hra⟩ : ∃ r, sgM [] l = r := ⟨_, rfl⟩
  obtain ⟨R, hR⟩ : ∃ r, encodeM l = r := ⟨_, rfl⟩
  rw [hR]
  rw [hra] at CA hA
  unfold encodeM at hR
  rw [hra] at hR
  have HA := Lib.hid hA
  clear hA hra hs
  go_enter Tryd.func11, Tryd.ntmps11
  go_wp2_with fail
  refine (CA.out _).mono ?_
  rintro e w1 ⟨v1, rfl, b1, n1, s1⟩
  cases ra with
  | none =>
    obtain rfl := n1 rfl
    subst hR
    clear s1
    go_wp2_with fail
    go_ret2
    exact ⟨rfl, b1⟩
  | some u =>
    have o1 := s1 u rfl
    obtain ⟨A1, c1, rfl, _⟩ := own_form o1
    have hR2 : R = some (uBs (uOfs u)) := hR.symm
    have HR := Lib.hid hR2
    obtain ⟨hu2, hu1⟩ := HA.out u rfl
    obtain ⟨n, hn⟩ : ∃ n, u.length = n := ⟨_, rfl⟩
    rw [hn] at o1 hu1 ⊢
    have S1 := Lib.hid (Seen.of_own o1)
    have HU := Lib.hid hu2
    have HN := Lib.hid hn
    have B1 := Lib.hid b1
    clear s1 o1 n1 b1 hR hR2 hn HA hu2
    go_wp2_with fail
    go_loopg [6, 18] n (fun j v6 v wr => ∃ (k : Nat), k ≤ n ∧ j = n - k ∧ v = .int .i64 k ∧ Below w1.heap.size w1 wr ∧ wr.ownsRow w1.heap.size 27 1 v6 (uOfs (u.take k)).length (uv (uOfs (u.take k))))
    case atStart => exact ⟨0, by omega, rfl, rfl, Below.refl _ _, World.ownsRow_nil _ _ _ _⟩
    case round =>
      obtain ⟨k, hk, rfl, rfl, hbl, ho⟩ := hrel
      by_cases hlt : k < n
      · have hkl : k < u.length := by have := HN.out; omega
        have d0 : decide ((k : Int) < (n : Int)) = true := by rw [decide_eq_true_iff]; omega
        obtain ⟨b5, o5, u5, rfl, _, hu5, hc5⟩ := (S1.out.below hbl).at hlt
        obtain rfl : u5 = .int .i64 (u[k] : Nat) := (Option.some.inj ((iv_at u k hkl).symm.trans hu5)).symm
        have hc6 := HU.out _ (List.getElem_mem hkl)
        have hst : uOfs (u.take (k + 1)) = uOfs (u.take k) ++ uOf u[k] := by rw [take_next u k hkl, uOfs_snoc]
        have hle : (uOfs (u.take k)).length ≤ 2 * k := by have := uOfs_le (u.take k); rw [List.length_take] at this; omega
        obtain ⟨c, hc⟩ : ∃ c, u[k] = c := ⟨_, rfl⟩
        rw [hc] at hc5 hc6 hst
        obtain ⟨U, hU⟩ : ∃ U, uOfs (u.take k) = U := ⟨_, rfl⟩
        obtain ⟨P, hP⟩ : ∃ P, U.length = P := ⟨_, rfl⟩
        rw [hU] at ho hst hle
        rw [hP] at ho hle
        obtain ⟨A4, c4, rfl, _⟩ := own_form ho
        have HO := Lib.hid ho
        have HB := Lib.hid hbl
        have HP := Lib.hid hP
        have hzb := hbl.size
        clear hu5 hc ho hbl hU hP
        by_cases h1 : c < 65536
        · have huo : uOf c = [c] := by rw [uOf, if_pos h1]
          have e1 : decide ((c : Int) < 65536) = true := by rw [decide_eq_true_iff]; omega
          have u1 : IntKind.u16.wrap (c : Int) = (c : Int) := IntWalk.u16_in _ (by omega)
          have hcs : (#[.int .u16 ((c : Nat))] : Array Value).toList = uv (uOf c) := by rw [huo]; rfl
          have hub2 : (uOf c).length = 1 := by rw [huo]; rfl
          have HS := Lib.hid (seen_new wr 27 (uv (uOf c)) 1 (by rw [uv_length, hub2]) #[.int .u16 ((c : Nat))] hcs)
          have BB := Lib.hid ((Below.refl wr.heap.size wr).alloc (Nat.le_refl _) (.cells #[.int .u16 ((c : Nat))] 27))
          have HO2 := Lib.hid (own_only HO.out (Only.of_below BB.out Nob) (fun _ _ h => h))
          have r1 : P + 1 ≤ maxLen := by simp [maxLen]; omega
          have r2 : (P + 1) * 2 ≤ 140737488355328 := by omega
          have r3 : w1.heap.size ≤ (wr.alloc (.cells #[.int .u16 ((c : Nat))] 27)).heap.size := by rw [World.size_alloc]; omega
          have HST := Lib.hid hst
          have HU2 := Lib.hid hub2
          clear hst huo hcs hub2
          go_wp2_with (at_builtin; refine wpList_append_seen _ rfl (.tmp 24) (.tmp 27) _ rfl w1.heap.size 27 i0 _ 1 2 Tryd.underlying23 hi0 hz0 hz1 hz2 rfl (by omega) (.slice A4 P c4) P (uv U) rfl HO2.out (wr.heap.size + 1) (some ⟨wr.heap.size, 0, none⟩) 1 1 (uv (uOf c)) rfl HS.out (uv_one _) r1 r2 r3 ?_; intro v2 w2 ho2 hg2 hv2)
          go_roundg (n - (k + 1))
          case measure => omega
          case rel => exact ⟨k + 1, by omega, rfl, by go_num, (HB.out.trans (BB.out.mono hzb)).grown hg2 r3 (fun j hj => (own_whole HO.out hj).1), (by rw [HST.out, uv_app, List.length_append, HP.out, HU2.out]; exact ho2)⟩
        · obtain ⟨x, hx⟩ : ∃ x, c = 65536 + x := ⟨c - 65536, by omega⟩
          obtain ⟨a, ha⟩ : ∃ a, x / 1024 = a := ⟨_, rfl⟩
          obtain ⟨b, hb⟩ : ∃ b, x % 1024 = b := ⟨_, rfl⟩
          have b1 : a < 1024 := by omega
          have b2 : b < 1024 := by omega
          have huo : uOf c = [55296 + a, 56320 + b] := by rw [uOf, if_neg h1, show c - 65536 = x by omega, ha, hb]
          have e1 : decide ((c : Int) < 65536) = false := by rw [decide_eq_false_iff_not]; omega
          have k1 : (c : Int) - 65536 = (x : Int) := by omega
          have x1 : x < 1048576 := by omega
          have u1 : IntKind.u16.wrap (55296 + (a : Int)) = 55296 + (a : Int) := IntWalk.u16_in _ (by omega)
          have u2 : IntKind.u16.wrap (56320 + (b : Int)) = 56320 + (b : Int) := IntWalk.u16_in _ (by omega)
          have hcs : (#[.int .u16 (55296 + (a : Int)), .int .u16 (56320 + (b : Int))] : Array Value).toList = uv (uOf c) := by rw [huo]; rfl
          have hub2 : (uOf c).length = 2 := by rw [huo]; rfl
          have HS := Lib.hid (seen_new wr 27 (uv (uOf c)) 2 (by rw [uv_length, hub2]) #[.int .u16 (55296 + (a : Int)), .int .u16 (56320 + (b : Int))] hcs)
          have BB := Lib.hid ((Below.refl wr.heap.size wr).alloc (Nat.le_refl _) (.cells #[.int .u16 (55296 + (a : Int)), .int .u16 (56320 + (b : Int))] 27))
          have HO2 := Lib.hid (own_only HO.out (Only.of_below BB.out Nob) (fun _ _ h => h))
          have r1 : P + 2 ≤ maxLen := by simp [maxLen]; omega
          have r2 : (P + 2) * 2 ≤ 140737488355328 := by omega
          have r3 : w1.heap.size ≤ (wr.alloc (.cells #[.int .u16 (55296 + (a : Int)), .int .u16 (56320 + (b : Int))] 27)).heap.size := by rw [World.size_alloc]; omega
          have HST := Lib.hid hst
          have HU2 := Lib.hid hub2
          clear hst huo hcs hub2
          have y1 : 0 ≤ (x : Int) ∧ (x : Int) ≤ 10000000 := by clear u1 u2; omega
          have y2 : 0 ≤ (a : Int) ∧ (a : Int) ≤ 10000000 := by clear u1 u2; omega
          have y3 : 0 ≤ 55296 + (a : Int) ∧ 55296 + (a : Int) ≤ 10000000 := by clear u1 u2; omega
          have y4 : 0 ≤ 56320 + (b : Int) ∧ 56320 + (b : Int) ≤ 10000000 := by clear u1 u2; omega
          have z1 : ∀ z : Int, z = (x : Int) → wrap64 z = (x : Int) := fun z h => h ▸ w64 ((x : Int)) y1
          have z2 : ∀ z : Int, z = (a : Int) → wrap64 z = (a : Int) := fun z h => h ▸ w64 ((a : Int)) y2
          have z3 : ∀ z : Int, z = 55296 + (a : Int) → wrap64 z = 55296 + (a : Int) := fun z h => h ▸ w64 (55296 + (a : Int)) y3
          have z4 : ∀ z : Int, z = 56320 + (b : Int) → wrap64 z = 56320 + (b : Int) := fun z h => h ▸ w64 (56320 + (b : Int)) y4
          have m3 := m65536 (55296 + (a : Int)) (by clear u1 u2; omega)
          have m4 := m65536 (56320 + (b : Int)) (by clear u1 u2; omega)
          have t1 := td1024 x a ha
          have t2 := tm1024 x b hb
          clear ha hb hx u1 u2
          go_wp2_with (at_builtin; refine wpList_append_seen _ rfl (.tmp 29) (.tmp 40) _ rfl w1.heap.size 27 i0 _ 1 2 Tryd.underlying23 hi0 hz0 hz1 hz2 rfl (by omega) (.slice A4 P c4) P (uv U) rfl HO2.out (wr.heap.size + 1) (some ⟨wr.heap.size, 0, none⟩) 2 2 (uv (uOf c)) rfl HS.out (uv_one _) r1 r2 r3 ?_; intro v2 w2 ho2 hg2 hv2)
          clear t1 t2 m3 m4
          go_roundg (n - (k + 1))
          case measure => omega
          case rel => exact ⟨k + 1, by omega, rfl, by go_num, (HB.out.trans (BB.out.mono hzb)).grown hg2 r3 (fun j hj => (own_whole HO.out hj).1), (by rw [HST.out, uv_app, List.length_append, HP.out, HU2.out]; exact ho2)⟩
      · obtain rfl : k = n := by omega
        have d0 : decide ((k : Int) < (k : Int)) = false := by rw [decide_eq_false_iff_not]; omega
        rw [List.take_of_length_le (by have := HN.out; omega)] at ho
        have hl2 := uOfs_le u
        have hl3 := uOfs_lt HU.out
        obtain ⟨V, hV⟩ : ∃ V, uOfs u = V := ⟨_, rfl⟩
        rw [hV] at ho hl2 hl3
        obtain ⟨A4, c4, rfl, _⟩ := own_form ho
        have UBC := Lib.hid (unitBytes_any V hl3 A4 V.length c4 wr.heap.size rfl (by have := HN.out; omega) wr (Seen.of_own ho) (Nat.le_refl _))
        have hr : R = some (uBs V) := by rw [HR.out, hV]
        have HRR := Lib.hid hr
        have HB := Lib.hid hbl
        clear hr hV hl2 hl3 ho hbl
        go_wp2_with (go_at_call 15; refine UBC.out.mono ?_; rintro e3 w3 ⟨rfl, b3⟩)
        go_ret2
        rw [HRR.out]
        exact ⟨rfl, B1.out.trans ((HB.out.trans (b3.mono HB.out.size)).mono B1.out.size)⟩
end Go.Proofs.YtdfliogomkpceaaDoor
