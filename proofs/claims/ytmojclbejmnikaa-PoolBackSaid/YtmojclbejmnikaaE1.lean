/-
  The cursor of the document: Take, Big. Conditions: each theorem names the range of its arguments.
-/
import Derived.Test.YtmojclbejmnikaaC4
import Derived.Deep.RegionHeld3
import Derived.StillTailTactics
namespace Go.Proofs.Ytmojclbejmnikaa
open Go.RowKit
set_option maxRecDepth 100000

/-- append of a slice that is read, as one step of a region that draws. -/
theorem step_append_seen {P : Program} (w : World) {ops : Array Oper} {o : Oper} {a : Act} {K : Act → World → Prop} {Q : Exit → Act → World → Prop} {E : Prop} (hgd : o.guard = none) (s x : Operand) (t : TypeId)
    (ho : o.op = .call { callee := .builtin .append, args := #[s, x], argTypes := #[t, t] })
    (base : Nat) (e : TypeId) (i : TypeInfo) (z : Value) (size bytes : Nat) (ht : P.underlying t = some (.slice e)) (hi : P.info? e = some i) (hz : i.zero = some z)
    (hsize : i.size = size) (hby : i.bytes = bytes) (hzs : z.cells.size = size) (hsz : 0 < size)
    (v : Value) (n : Nat) (xs : List Value) (hs : a.eval s = v) (hown : w.ownsRow base e size v n xs)
    (B : Nat) (A : Option Addr) (m c : Nat) (news : List Value) (hx : a.eval x = .slice A m c) (hr : Seen w B size A m c news) (h1 : ∀ u ∈ news, u.oneCell' = true)
    (h63 : n + m ≤ maxLen) (hbytes : (n + m) * bytes ≤ 140737488355328) (hbase : base ≤ w.heap.size)
    (h : ∀ v' w', w'.ownsRow base e size v' (n + m) (xs ++ news) → w.grownBy w' v.ownBlock → (v'.ownBlock = v.ownBlock ∨ v'.ownBlock = some w.heap.size) → K (a.put o.dst v') w') :
    if Region.wanted o (yielded ops a.tmps) = true then Oper.wp P o a w K Q else E := by
  have hw : Region.wanted o (yielded ops a.tmps) = true := by simp [Region.wanted, hgd]
  rw [if_pos hw]
  obtain ⟨v', w', hrun, h2, h3, h4⟩ := run_append_seen (P := P) w base t o.type e i z size bytes ht hi hz hsize hby hzs hsz v n xs hown B A m c news hr h1 h63 hbytes hbase
  unfold Oper.wp
  simp [execOp, ho, resolve, invoke, builtin, hs, hx, hrun, Result.andThen]
  exact h v' w' h2 h3 h4

/-- The document's cursor stands at block g. -/
def RCur (w : World) (g : Nat) (A : Option Addr) (c : Nat) (bs : List Nat) (a : Nat) (err : Int) : Prop := Whole w g 29 #[.slice A bs.length c, .int .i64 a, .int .i64 err]

theorem RCur.set1 {w : World} {g : Nat} {A : Option Addr} {c : Nat} {bs : List Nat} {a : Nat} {err : Int} (h : RCur w g A c bs a err) (a' : Nat) : RCur (w.setCell ⟨g, 1, none⟩ (.int .i64 a')) g A c bs a' err := by
  have := Whole.put h 1 (.int .i64 a')
  simpa [RCur] using this
theorem RCur.set2 {w : World} {g : Nat} {A : Option Addr} {c : Nat} {bs : List Nat} {a : Nat} {err : Int} (h : RCur w g A c bs a err) (e : Int) : RCur (w.setCell ⟨g, 2, none⟩ (.int .i64 e)) g A c bs a e := by
  have := Whole.put h 2 (.int .i64 e)
  simpa [RCur] using this
theorem RCur.c0 {w : World} {g : Nat} {A : Option Addr} {c : Nat} {bs : List Nat} {a : Nat} {err : Int} (h : RCur w g A c bs a err) : w.cell? ⟨g, 0, none⟩ = some (.slice A bs.length c) := by simpa using Whole.cell h 0
theorem RCur.c1 {w : World} {g : Nat} {A : Option Addr} {c : Nat} {bs : List Nat} {a : Nat} {err : Int} (h : RCur w g A c bs a err) : w.cell? ⟨g, 1, none⟩ = some (.int .i64 a) := by simpa using Whole.cell h 1
theorem RCur.c2 {w : World} {g : Nat} {A : Option Addr} {c : Nat} {bs : List Nat} {a : Nat} {err : Int} (h : RCur w g A c bs a err) : w.cell? ⟨g, 2, none⟩ = some (.int .i64 err) := by simpa using Whole.cell h 2

/-- Bytes were taken off the document's cursor. -/
def RTake (w : World) (g : Nat) (A : Option Addr) (c : Nat) (bs : List Nat) (r : List Nat × Nat × Int) (e : Ending) (w' : World) : Prop :=
  ∃ v, e = .returned v ∧ w'.ownsRow w.heap.size 5 1 v r.1.length (bv r.1) ∧ RCur w' g A c bs r.2.1 r.2.2 ∧ Only (fun k => k = g) w w'

theorem only_set (w : World) (g i : Nat) (v : Value) : Only (fun k => k = g) w (w.setCell ⟨g, i, none⟩ v) := (Only.refl (fun k => k = g) w).setCell (p := ⟨g, i, none⟩) (.inl rfl) v

theorem rtake_err (g : Nat) (A : Option Addr) (c : Nat) (bs : List Nat) (a : Nat) (err n : Int) (w : World) (h : RCur w g A c bs a err) (he : err ≠ 0) :
    Calls Try.prog 29 #[.pointer (some ⟨g, 0, none⟩), .int .i64 n] w fun e w' => e = .returned (.slice none 0 0) ∧ w = w' := by
  have c2 := h.c2
  have hz : (err != 0) = true := by simp [he]
  clear he h
  go_enter Try.func29, Try.ntmps29
  go_wp2
  go_ret
  exact ⟨rfl, rfl⟩
theorem rtake_neg (g : Nat) (A : Option Addr) (c : Nat) (bs : List Nat) (a : Nat) (n : Int) (w : World) (h : RCur w g A c bs a 0) (hn : n < 0) :
    Calls Try.prog 29 #[.pointer (some ⟨g, 0, none⟩), .int .i64 n] w fun e w' => e = .returned (.slice none 0 0) ∧ RCur w' g A c bs a 1 ∧ Only (fun k => k = g) w w' := by
  have c2 := h.c2
  have f2 := Whole.frozen h 2
  have H := Lib.hid (h.set2 1)
  clear h
  go_enter Try.func29, Try.ntmps29
  go_wp2
  go_ret
  exact ⟨rfl, H.out, only_set _ _ _ _⟩
theorem rtake_end (g : Nat) (A : Option Addr) (c : Nat) (bs : List Nat) (a : Nat) (n : Int) (w : World) (h : RCur w g A c bs a 0) (hb : bs.length ≤ 1000000) (ha : a ≤ bs.length) (hn : 0 ≤ n) (hl : (bs.length : Int) - a < n) :
    Calls Try.prog 29 #[.pointer (some ⟨g, 0, none⟩), .int .i64 n] w fun e w' => e = .returned (.slice none 0 0) ∧ RCur w' g A c bs a 6 ∧ Only (fun k => k = g) w w' := by
  have c0 := h.c0
  have c1 := h.c1
  have c2 := h.c2
  have f2 := Whole.frozen h 2
  have H := Lib.hid (h.set2 6)
  clear h
  have wl : IntKind.i64.wrap ((bs.length : Int) - a) = (bs.length : Int) - a := IntWalk.i64_in _ (by omega)
  have hd : decide ((bs.length : Int) - a < n) = true := by simp; omega
  go_enter Try.func29, Try.ntmps29
  go_wp2
  go_still (by kernel_rfl)
  go_wp2
  go_ret
  exact ⟨rfl, H.out, (only_set _ _ _ _).drew⟩

set_option maxHeartbeats 1000000 in
theorem rtake_ok (g B : Nat) (A : Option Addr) (c : Nat) (bs : List Nat) (a n : Nat) (w : World) (h : RCur w g A c bs a 0) (hs : Seen w B 1 A bs.length c (bv bs)) (hB : B ≤ g) (hb : bs.length ≤ 1000000) (hcm : c ≤ 9223372036854775807) (hl : a + n ≤ bs.length) :
    Calls Try.prog 29 #[.pointer (some ⟨g, 0, none⟩), .int .i64 n] w fun e w' => ∃ v, e = .returned v ∧ w'.ownsRow w.heap.size 5 1 v n (bv ((bs.drop a).take n)) ∧ RCur w' g A c bs (a + n) 0 ∧ Only (fun k => k = g) w w' := by
  obtain ⟨i0, hi0, hz0, hz1, hz2⟩ := info_parts byte_info
  have c0 := h.c0
  have c1 := h.c1
  have c2 := h.c2
  have f1 := Whole.frozen h 1
  have hlt := Whole.lt h
  have hlc := hs.2.1
  have H := Lib.hid (h.set1 (a + n))
  have HS := Lib.hid hs; clear hs
  clear h
  have wl : IntKind.i64.wrap ((bs.length : Int) - a) = (bs.length : Int) - a := IntWalk.i64_in _ (by omega)
  have hd : decide ((bs.length : Int) - a < n) = false := by simp; omega
  have hd0 : decide ((n : Int) < 0) = false := by simp
  have hca : (c = a) = False ∨ c = a := by
    by_cases h : c = a
    · exact .inr h
    · exact .inl (by simp [h])
  rcases hca with hca | hca
  · go_enter Try.func29, Try.ntmps29
    go_wp2
    go_still (by kernel_rfl)
    go_wp2
    have hC : RCur (w.setCell ⟨g, 1, none⟩ (.int .i64 ((a : Int) + n))).drew g A c bs (a + n) 0 := H.out
    have hO : Only (fun k => k = g) w (w.setCell ⟨g, 1, none⟩ (.int .i64 ((a : Int) + n))).drew := (only_set _ _ _ _).drew
    have hS2 := HS.out.only hO (by omega) (fun k hk e => by omega)
    generalize (w.setCell ⟨g, 1, none⟩ (.int .i64 ((a : Int) + n))).drew = W at *
    have d0 := hC.c0
    have d1 := hC.c1
    obtain ⟨s, hs⟩ : ∃ s, a + n = s := ⟨_, rfl⟩
    rw [hs] at d1
    have es : (s : Int) - n = a := by omega
    have ws : IntKind.i64.wrap (a : Int) = a := IntWalk.i64_in _ (by omega)
    have hs0 : (0 : Int) ≤ a := by omega
    have hs1 : (a : Int) ≤ s := by omega
    have hs2 : (s : Int) ≤ c := by omega
    have hs4 : a ≤ s := by omega
    have hs5 : s ≤ c := by omega
    have hs6 : s - a = n := by omega
    have HSC := Lib.hid (hS2.cut (q := a) (n := n) hl)
    have hwl := Whole.lt hC
    have hBW : B ≤ W.heap.size := by omega
    have HC := Lib.hid hC
    have HO := Lib.hid hO
    have hg0 : g ≠ W.heap.size := by omega
    have HSS := Lib.hid hs
    clear hC hO hS2 hs c0 c1 c2
    go_region_held3 (fun w' => w'.cell? ⟨g, 0, none⟩ = some (.slice A bs.length c) ∧ w'.cell? ⟨g, 1, none⟩ = some (.int .i64 s)) (first | exact ⟨q0, q1⟩ | go_keep | (simp [go_sem, World.cell?_alloc_past]; done))
      ((refine step_append_seen _ (by rfl) _ _ _ (by rfl) W.heap.size 5 i0 _ 1 1 Try.underlying22 hi0 hz0 hz1 hz2 rfl (by omega) (.slice (some ⟨W.heap.size, 0, none⟩) 0 0) 0 [] (by rfl) ((World.ownsRow_made W #[] 0 (Nat.le_refl _) (by simp [maxLen]) rfl).drew) B _ n _ _ (by rfl) (HSC.out.below ((Below.refl _ _).alloc hBW _).drew) (by intro u hu; exact bv_oneCell bs u (List.mem_of_mem_drop (List.mem_of_mem_take hu))) (by simp only [maxLen]; omega) (by omega) (by simp) ?_; intro v1 w1 hown1 hg1 hat1; have q0 : w1.cell? ⟨g, 0, none⟩ = some (.slice A bs.length c) := hg1.cell (RCur.c0 (Whole.alloc HC.out _)) (by simp [Value.ownBlock]; omega); have q1 : w1.cell? ⟨g, 1, none⟩ = some (.int .i64 s) := hg1.cell (by rw [← HSS.out]; exact RCur.c1 (Whole.alloc HC.out _)) (by simp [Value.ownBlock]; omega)))
    go_wp2_with fail
    go_ret
    refine ⟨v1, rfl, ?_, Whole.grown (Whole.drew (Whole.alloc HC.out _)) hg1 (by simp [Value.ownBlock]; omega), ?_⟩
    · have h5 := own_base hown1 HO.out.size
      rw [show bv ((bs.drop a).take n) = ((bv bs).drop a).take n by simp [bv, List.map_take, List.map_drop]]
      simpa using h5
    · refine (HO.out.alloc _).drew.grown hg1 (fun k hk hk2 => ?_)
      have := HO.out.size
      simp [Value.ownBlock] at hk
      omega
  · subst hca
    obtain rfl : n = 0 := by omega
    go_enter Try.func29, Try.ntmps29
    go_wp2
    go_still (by kernel_rfl)
    go_wp2
    have hC : RCur (w.setCell ⟨g, 1, none⟩ (.int .i64 ((c : Int)))).drew g A c bs (c + 0) 0 := H.out
    have hO : Only (fun k => k = g) w (w.setCell ⟨g, 1, none⟩ (.int .i64 ((c : Int)))).drew := (only_set _ _ _ _).drew
    have hS2 := HS.out.only hO (by omega) (fun k hk e => by omega)
    generalize (w.setCell ⟨g, 1, none⟩ (.int .i64 ((c : Int)))).drew = W at *
    have d0 := hC.c0
    have d1 := hC.c1
    obtain ⟨s, hs⟩ : ∃ s, c + 0 = s := ⟨_, rfl⟩
    rw [hs] at d1
    have es : (s : Int) - 0 = c := by omega
    have hs3 : (s : Int) - c = 0 := by omega
    have ws : IntKind.i64.wrap (c : Int) = c := IntWalk.i64_in _ (by omega)
    have hs0 : (0 : Int) ≤ c := by omega
    have hs1 : (c : Int) ≤ s := by omega
    have hs2 : (s : Int) ≤ c := by omega
    have hs4 : c ≤ s := by omega
    have hs5 : s ≤ c := by omega
    have hs6 : s - c = 0 := by omega
    have HSC := Lib.hid hS2.empty
    have hwl := Whole.lt hC
    have hBW : B ≤ W.heap.size := by omega
    have HC := Lib.hid hC
    have HO := Lib.hid hO
    have hg0 : g ≠ W.heap.size := by omega
    have HSS := Lib.hid hs
    clear hC hO hS2 hs c0 c1 c2
    go_region_held3 (fun w' => w'.cell? ⟨g, 0, none⟩ = some (.slice A bs.length c) ∧ w'.cell? ⟨g, 1, none⟩ = some (.int .i64 s)) (first | exact ⟨q0, q1⟩ | go_keep | (simp [go_sem, World.cell?_alloc_past]; done))
      ((refine step_append_seen _ (by rfl) _ _ _ (by rfl) W.heap.size 5 i0 _ 1 1 Try.underlying22 hi0 hz0 hz1 hz2 rfl (by omega) (.slice (some ⟨W.heap.size, 0, none⟩) 0 0) 0 [] (by rfl) ((World.ownsRow_made W #[] 0 (Nat.le_refl _) (by simp [maxLen]) rfl).drew) B A 0 0 [] (by rfl) (HSC.out.below ((Below.refl _ _).alloc hBW _).drew) (by intro u hu; simp at hu) (by simp only [maxLen]; omega) (by omega) (by simp) ?_; intro v1 w1 hown1 hg1 hat1; have q0 : w1.cell? ⟨g, 0, none⟩ = some (.slice A bs.length c) := hg1.cell (RCur.c0 (Whole.alloc HC.out _)) (by simp [Value.ownBlock]; omega); have q1 : w1.cell? ⟨g, 1, none⟩ = some (.int .i64 s) := hg1.cell (by rw [← HSS.out]; exact RCur.c1 (Whole.alloc HC.out _)) (by simp [Value.ownBlock]; omega)))
    go_wp2_with fail
    go_ret
    refine ⟨v1, rfl, ?_, Whole.grown (Whole.drew (Whole.alloc HC.out _)) hg1 (by simp [Value.ownBlock]; omega), ?_⟩
    · have h5 := own_base hown1 HO.out.size
      rw [List.take_zero]
      show w1.ownsRow w.heap.size 5 1 v1 0 []
      simpa using h5
    · refine (HO.out.alloc _).drew.grown hg1 (fun k hk hk2 => ?_)
      have := HO.out.size
      simp [Value.ownBlock] at hk
      omega

theorem rtake_any (g B : Nat) (A : Option Addr) (c : Nat) (bs : List Nat) (a : Nat) (err n : Int) (w : World) (h : RCur w g A c bs a err) (hs : Seen w B 1 A bs.length c (bv bs)) (hB : B ≤ g) (hb : bs.length ≤ 1000000) (hcm : c ≤ 9223372036854775807) (ha : a ≤ bs.length) :
    Calls Try.prog 29 #[.pointer (some ⟨g, 0, none⟩), .int .i64 n] w (RTake w g A c bs (nxt bs a err n (decide (0 ≤ n)))) := by
  by_cases he : err = 0
  · subst he
    by_cases hn : 0 ≤ n
    · by_cases hl : (bs.length : Int) - a < n
      · have hx : nxt bs a 0 n (decide (0 ≤ n)) = ([], a, 6) := by
          unfold nxt cerr
          simp [hn, hl]
        rw [hx]
        refine (rtake_end g A c bs a n w h hb ha hn hl).mono ?_
        rintro e w' ⟨rfl, hR, hO⟩
        exact ⟨_, rfl, World.ownsRow_nil _ _ _ _, hR, hO⟩
      · obtain ⟨k, rfl⟩ := Int.eq_ofNat_of_zero_le hn
        have hx : nxt bs a 0 k (decide (0 ≤ (k : Int))) = ((bs.drop a).take k, a + k, 0) := by
          unfold nxt cerr
          simp [hl]
        rw [hx]
        refine (rtake_ok g B A c bs a k w h hs hB hb hcm (by omega)).mono ?_
        rintro e w' ⟨v, rfl, ho, hR, hO⟩
        have hlen : ((bs.drop a).take k).length = k := by simp; omega
        refine ⟨v, rfl, ?_, hR, hO⟩
        simp only [hlen]
        exact ho
    · have hx : nxt bs a 0 n (decide (0 ≤ n)) = ([], a, 1) := by
        unfold nxt cerr
        simp [hn]
      rw [hx]
      refine (rtake_neg g A c bs a n w h (by omega)).mono ?_
      rintro e w' ⟨rfl, hR, hO⟩
      exact ⟨_, rfl, World.ownsRow_nil _ _ _ _, hR, hO⟩
  · have hx : nxt bs a err n (decide (0 ≤ n)) = ([], a, err) := by
      unfold nxt cerr
      simp [he]
    rw [hx]
    refine (rtake_err g A c bs a err n w h he).mono ?_
    rintro e w' ⟨rfl, rfl⟩
    exact ⟨_, rfl, World.ownsRow_nil _ _ _ _, h, Only.refl _ _⟩

theorem rnumber_any (A : Option Addr) (m c B : Nat) (xs : List Nat) (hm : xs.length = m) (h8 : m ≤ 8) (hby : ∀ x ∈ xs, x < 256) (w : World) (hs : Seen w B 1 A m c (bv xs)) :
    Calls Try.prog 46 #[.slice A m c] w fun e w' => e = .returned (.int .u64 (big_ xs)) ∧ w = w' := by
  have HS := Lib.hid hs; clear hs
  have HM := Lib.hid hm; clear hm
  have HBy := Lib.hid hby; clear hby
  go_enter Try.func46, Try.ntmps46
  go_wp2
  go_loop [3, 8] (fun x i => ∃ j : Nat, j ≤ m ∧ i = .int .i64 j ∧ x = .int .u64 (big_ (xs.take j))) (fun _ i => m - (intOf i).toNat)
  case atStart => exact ⟨0, Nat.zero_le _, rfl, by simp [big_]⟩
  case round =>
    obtain ⟨j, hj, rfl, rfl⟩ := hrel
    by_cases hlt : j < m
    · have hjl : j < xs.length := by rw [HM.out]; exact hlt
      have ht := Lib.hid (big_take xs j hjl)
      have hsm := big_small xs j HBy.out (by rw [HM.out]; omega)
      have hp := pow256_le (show j ≤ 7 by omega)
      obtain ⟨b, o, u, rfl, hbk, hu, hcell⟩ := HS.out.at (k := j) hlt
      have hu' : u = .int .u8 (xs[j] : Nat) := by rw [bv_get _ _ hjl] at hu; exact (Option.some.inj hu).symm
      subst hu'
      have hx := HBy.out _ (List.getElem_mem hjl)
      clear hu
      generalize big_ (xs.take j) = N at *
      generalize xs[j] = y at *
      have hj0 : (0 : Int) ≤ j := by omega
      go_wp2_with fail
      go_round
      case rel => exact ⟨j + 1, by omega, by go_num, by rw [ht.out]; simp⟩
      case measure => simp [intOf]; omega
    · obtain rfl : m = j := by omega
      go_wp2_with fail
      go_ret
      rw [List.take_of_length_le (by rw [HM.out]; exact Nat.le_refl _)]
      exact ⟨rfl, rfl⟩

theorem sizeR_any (n : Int) (w : World) : Calls Try.prog 45 #[.int .i64 n] w fun e w' => e = .returned (.bool (decide (Wide n))) ∧ w = w' := by
  by_cases h : Wide n
  · simpa [h] using sizeR_yes n h w
  · simpa [h] using sizeR_no n h w

/-- A number was read off the document's cursor. -/
def RNum (w : World) (g : Nat) (A : Option Addr) (c : Nat) (bs : List Nat) (r : List Nat × Nat × Int) (x : Nat) (e : Ending) (w' : World) : Prop :=
  e = .returned (.int .u64 x) ∧ RCur w' g A c bs r.2.1 r.2.2 ∧ Only (fun k => k = g) w w'

theorem nxt_bad (bs : List Nat) (a : Nat) (n : Int) (h : ¬ Wide n) : nxt bs a 0 n (decide (Wide n)) = ([], a, 1) := by
  unfold nxt cerr
  simp [h]
theorem nxt_one (bs : List Nat) (a : Nat) (err n : Int) (b : Bool) (h : err ≠ 0) : nxt bs a err n b = ([], a, err) := by
  unfold nxt cerr
  simp [h]

set_option maxHeartbeats 1000000 in
theorem rbig_any (g B : Nat) (A : Option Addr) (c : Nat) (bs : List Nat) (a : Nat) (err n : Int) (w : World) (h : RCur w g A c bs a err) (hs : Seen w B 1 A bs.length c (bv bs)) (hB : B ≤ g) (hb : bs.length ≤ 1000000) (hcm : c ≤ 9223372036854775807) (ha : a ≤ bs.length) (h256 : ∀ x ∈ bs, x < 256) :
    Calls Try.prog 27 #[.pointer (some ⟨g, 0, none⟩), .int .i64 n] w (RNum w g A c bs (nxt bs a err n (decide (Wide n))) (big_ (nxt bs a err n (decide (Wide n))).1)) := by
  have c2 := h.c2
  have f2 := Whole.frozen h 2
  have hgw := Whole.lt h
  by_cases hz : err = 0 ∧ ¬ Wide n
  · obtain ⟨rfl, hw⟩ := hz
    rw [nxt_bad bs a n hw]
    have H2 := h.set2 1
    have HS2 := hs.only (only_set w g 2 (.int .i64 1)) (by omega) (fun k hk e => by omega)
    have HT := Lib.hid (rtake_any g B A c bs a 1 n _ H2 HS2 hB hb hcm ha)
    rw [nxt_one bs a 1 n _ (by decide)] at HT
    have HW := Lib.hid hw; clear hw h hs H2 HS2
    go_enter Try.func27, Try.ntmps27
    go_wp2_with (first | (go_at_call 45; refine (sizeR_no n HW.out _).mono ?_; rintro e w0 ⟨rfl, rfl⟩) | (go_at_call 29; refine HT.out.mono ?_; rintro e w1 ⟨v1, rfl, ho1, hR1, hO1⟩; obtain ⟨A1, c1, rfl, _, hs1⟩ := own_seen ho1) | (go_at_call 46; refine (rnumber_any A1 _ c1 _ [] rfl (by simp) (by simp) _ hs1).mono ?_; rintro e w2 ⟨rfl, rfl⟩))
    go_ret
    exact ⟨rfl, hR1, (only_set _ _ _ _).trans hO1⟩
  · have hsame : nxt bs a err n (decide (Wide n)) = nxt bs a err n (decide (0 ≤ n)) := by
      by_cases he : err = 0
      · have hw : Wide n := Classical.byContradiction fun hw => hz ⟨he, hw⟩
        rw [decide_eq_true hw, decide_eq_true (Wide.nonneg (decide_eq_true hw))]
      · rw [nxt_one _ _ _ _ _ he, nxt_one _ _ _ _ _ he]
    have h8 := nxt_le8 bs a err n
    have hby := nxt_byte bs a err n (decide (Wide n)) h256
    rw [hsame] at h8 hby ⊢
    have HT := Lib.hid (rtake_any g B A c bs a err n w h hs hB hb hcm ha)
    generalize nxt bs a err n (decide (0 ≤ n)) = r at *
    have HBy := Lib.hid hby
    clear hsame hby h256 h hs
    by_cases he : err = 0
    · have hw : Wide n := Classical.byContradiction fun hw => hz ⟨he, hw⟩
      subst he
      have HW := Lib.hid hw; clear hw hz
      go_enter Try.func27, Try.ntmps27
      go_wp2_with (first | (go_at_call 45; refine (sizeR_yes n HW.out _).mono ?_; rintro e w0 ⟨rfl, rfl⟩) | (go_at_call 29; refine HT.out.mono ?_; rintro e w1 ⟨v1, rfl, ho1, hR1, hO1⟩; obtain ⟨A1, c1, rfl, _, hs1⟩ := own_seen ho1) | (go_at_call 46; refine (rnumber_any A1 _ c1 _ r.1 rfl h8 HBy.out _ hs1).mono ?_; rintro e w2 ⟨rfl, rfl⟩))
      go_ret
      exact ⟨rfl, hR1, hO1⟩
    · have he1 : (err == 0) = false := by simp [he]
      clear hz he
      go_enter Try.func27, Try.ntmps27
      go_wp2_with (first | (go_at_call 29; refine HT.out.mono ?_; rintro e w1 ⟨v1, rfl, ho1, hR1, hO1⟩; obtain ⟨A1, c1, rfl, _, hs1⟩ := own_seen ho1) | (go_at_call 46; refine (rnumber_any A1 _ c1 _ r.1 rfl h8 HBy.out _ hs1).mono ?_; rintro e w2 ⟨rfl, rfl⟩))
      go_ret
      exact ⟨rfl, hR1, hO1⟩
end Go.Proofs.Ytmojclbejmnikaa
