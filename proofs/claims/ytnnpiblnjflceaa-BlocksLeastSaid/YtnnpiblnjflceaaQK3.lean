/-
  Contracts of lengths: merged. Conditions: as many packs as the sorts serve.
-/
import Derived.Test.YtnnpiblnjflceaaQK2
import Derived.Test.YtnnpiblnjflceaaH
import Derived.Test.YtnnpiblnjflceaaW5
namespace Go.Proofs.Ytnnpiblnjflceaa
open Go.Proofs Go.Shelf Go.RowKit Go.Sort Go.Lib
set_option maxRecDepth 100000

theorem pk_info : (Try.prog.info? 122).map (fun i => (i.zero, i.size, i.bytes)) = some (some (.agg #[.int .i64 0, .bool false]), 2, 16) := by kernel_rfl
/-- Packs as cells. -/
def pv (r : List Pk) : List Value := r.flatMap encP
theorem pv_append (a b : List Pk) : pv (a ++ b) = pv a ++ pv b := by simp [pv]
theorem pv_one (r : List Pk) : ∀ u ∈ pv r, u.oneCell' = true := by
  intro u hu
  simp only [pv, List.mem_flatMap, encP] at hu
  obtain ⟨p, _, hp⟩ := hu
  simp at hp
  rcases hp with rfl | rfl <;> rfl
theorem pv_get (r : List Pk) (k : Nat) (h : k < r.length) : (pv r)[k * 2]? = some (.int .i64 (r[k].1 : Nat)) ∧ (pv r)[k * 2 + 1]? = some (.bool r[k].2) := by
  unfold pv
  rw [flat_at r (k * 2) (by omega), flat_at r (k * 2 + 1) (by omega), show k * 2 / 2 = k by omega, show (k * 2 + 1) / 2 = k by omega, show k * 2 % 2 = 0 by omega, show (k * 2 + 1) % 2 = 1 by omega]
  simp [encP, List.getD, h]
/-- A pack of a slice that is read. -/
theorem Seen.pk {w : World} {B : Nat} {A : Option Addr} {n c : Nat} {r : List Pk} (h : Seen w B 2 A n c (pv r)) (hn : r.length = n) {k : Nat} (hk : k < n) :
    ∃ b o, A = some ⟨b, o, none⟩ ∧ b < B ∧ w.cell? ⟨b, o + k * 2, none⟩ = some (.int .i64 ((r[k]'(by omega)).1 : Nat)) ∧ w.cell? ⟨b, o + (k * 2 + 1), none⟩ = some (.bool (r[k]'(by omega)).2) := by
  obtain ⟨h1, h2, h3⟩ := h
  obtain ⟨g1, g2⟩ := pv_get r k (by omega)
  rcases h3 with ⟨rfl, rfl⟩ | ⟨a, rfl, h3⟩
  · omega
  · obtain ⟨q1, q2, q3⟩ := h3 (by intro e; rw [e] at g1; simp at g1)
    obtain ⟨b, o, s⟩ := a
    simp only at q1 q2 q3
    subst q1
    exact ⟨b, o, rfl, q2, q3 _ _ g1, q3 _ _ g2⟩

theorem seen_pk (w : World) (p : Pk) : Seen ((w.alloc (.cells #[.int .i64 (p.1 : Nat), .bool p.2] 122)).drew) (w.heap.size + 1) 2 (some ⟨w.heap.size, 0, none⟩) 1 1 (pv [p]) := by
  have hW := (Whole.new w 122 #[.int .i64 (p.1 : Nat), .bool p.2]).drew
  refine ⟨rfl, Nat.le_refl _, .inr ⟨_, rfl, fun _ => ⟨rfl, Nat.lt_succ_self _, fun j u hu => ?_⟩⟩⟩
  show _ = some u
  simp only [Nat.zero_add]
  rw [hW.cell j]
  have e : pv [p] = [.int .i64 (p.1 : Nat), .bool p.2] := rfl
  rw [e] at hu
  rw [← hu]
  simp

theorem step_append_seen {P : Program} (w : World) {ops : Array Oper} {o : Oper} {a : Act} {K : Act → World → Prop} {Q : Exit → Act → World → Prop} {E : Prop} (hgd : o.guard = none) (s x : Operand) (t : TypeId)
    (ho : o.op = .call { callee := .builtin .append, args := #[s, x], argTypes := #[t, t] })
    (base : Nat) (e : TypeId) (i : TypeInfo) (z : Value) (size bytes : Nat) (ht : P.underlying t = some (.slice e)) (hi : P.info? e = some i) (hz : i.zero = some z)
    (hsize : i.size = size) (hby : i.bytes = bytes) (hzs : z.cells.size = size) (hsz : 0 < size)
    (v : Value) (n : Nat) (xs : List Value) (hs : a.eval s = v) (hown : w.ownsRow base e size v n xs)
    (B : Nat) (A : Option Addr) (m c : Nat) (news : List Value) (hx : a.eval x = .slice A m c) (hr : Seen w B size A m c news) (h1 : ∀ u ∈ news, u.oneCell' = true)
    (h63 : n + m ≤ maxLen) (hbytes : (n + m) * bytes ≤ 140737488355328) (hbase : base ≤ w.heap.size)
    (h : ∀ v' w', w'.ownsRow base e size v' (n + m) (xs ++ news) → w.grownBy w' v.ownBlock → (v'.ownBlock = v.ownBlock ∨ v'.ownBlock = some w.heap.size) → K (a.put o.dst v') w') :
    if Region.wanted o (yielded ops a.tmps) = true then Oper.wp P o a w K Q else E := by
  have hw : Region.wanted o (yielded ops a.tmps) = true := by simp [Region.wanted, hgd]
  rw [if_pos hw]
  obtain ⟨v', w', hrun, h2, h3, h4⟩ := run_append_seen (P := P) w base t o.type e i z size bytes ht hi hz hsize hby hzs hsz v n xs hown B A m c news hr h1 h63 hbytes hbase
  unfold Oper.wp
  simp [execOp, ho, resolve, invoke, builtin, hs, hx, hrun, Result.andThen]
  exact h v' w' h2 h3 h4

theorem clonePk_any (A : Option Addr) (n c B : Nat) (r : List Pk) (w : World) (hs : Seen w B 2 A n c (pv r)) (hB : B ≤ w.heap.size) (hn : n ≤ 1000000) :
    Calls Try.prog 94 #[.slice A n c] w (GivesRow w 122 2 n (pv r)) := by
  obtain ⟨i0, hi0, hz0, hz1, hz2⟩ := info_parts pk_info
  have HS := Lib.hid hs
  have q33 : ∀ (w : World) (a : Option Addr) (n c n' c' : Nat), (binOp .eql 120 (.slice a n c) (.slice none n' c')).run Try.prog w = .ok (.bool a.isNone) w := fun w a n c n' c' => Lib.run_eql_slice_nil w _ _ a n c n' c' Try.underlying120
  cases A with
  | none =>
    obtain ⟨g1, g2, g3⟩ := hs
    obtain rfl : c = 0 := by simpa using g3
    obtain rfl : n = 0 := by omega
    have hnil : pv r = [] := List.eq_nil_of_length_eq_zero (by simpa using g1)
    rw [hnil]
    clear g1 g2 g3 hnil HS
    go_enter Try.func94, Try.ntmps94
    go_wp2
    go_ret
    exact ⟨_, rfl, World.ownsRow_nil _ _ _ _, Below.refl _ _⟩
  | some a =>
    clear hs
    go_enter Try.func94, Try.ntmps94
    go_wp2_with (at_builtin; refine wpList_append_seen _ rfl (.tmp 5) (.tmp 6) _ rfl w.heap.size 122 i0 _ 2 16 Try.underlying120 hi0 hz0 hz1 hz2 rfl (by omega) (.slice (some ⟨w.heap.size, 0, none⟩) 0 0) 0 [] rfl (World.ownsRow_made w #[] 0 (Nat.le_refl _) (by simp [maxLen]) rfl) B (some a) n c (pv r) rfl (HS.out.below ((Below.refl _ _).alloc hB _)) (pv_one r) (by simp [maxLen]; omega) (by omega) (by simp) ?_; intro v1 w1 hown1 hg1 hat1)
    go_ret
    refine ⟨_, rfl, by simpa using hown1, ((Below.refl _ _).alloc (Nat.le_refl _) _).grown hg1 (by simp) (by simp [Value.ownBlock])⟩

def MergedRes {N : Nat} (S : Sorter N) (w : World) (r : List Pk) (e : Ending) (w' : World) : Prop :=
  ∃ v, e = .returned v ∧ w'.ownsRow w.heap.size 122 2 v r.length (pv (S.sP r)) ∧ Below w.heap.size w w'
def MergedIn (w : World) (r : List Pk) (v : Value) (wr : World) : Prop := wr.ownsRow w.heap.size 122 2 v r.length (pv r) ∧ Below w.heap.size w wr

theorem built93 (x : Int) : Try.prog.built 122 [(0, .int .i64 x), (1, .bool true)] = some #[.int .i64 x, .bool true] := by kernel_rfl

set_option maxHeartbeats 2000000 in
set_option maxRecDepth 100000 in
theorem merged_any {N : Nat} (S : Sorter N) (A A2 : Option Addr) (n c n2 c2 B : Nat) (sg be : List Pk) (hn : sg.length = n) (hn2 : be.length = n2) (h0 : 0 < n) (hl : n + n2 / 2 ≤ N) (hl2 : n2 ≤ 100000) (hN : N ≤ 100000) (hc : ∀ x ∈ be, x.1 ≤ 1099511627776) (w : World) (hs : Seen w B 2 A n c (pv sg)) (hs2 : Seen w B 2 A2 n2 c2 (pv be)) (hB : B ≤ w.heap.size) :
    Calls Try.prog 87 #[.slice A n c, .slice A2 n2 c2] w (MergedRes S w (sg ++ pairs be)) := by
  obtain ⟨i0, hi0, hz0, hz1, hz2⟩ := info_parts pk_info
  have HZ0 := Lib.hid hz0; clear hz0
  have HZ1 := Lib.hid hz1; clear hz1
  have HZ2 := Lib.hid hz2; clear hz2
  have HI0 := Lib.hid hi0; clear hi0
  have HS := Lib.hid hs; clear hs
  have HS2 := Lib.hid hs2; clear hs2
  have HN := Lib.hid hn; clear hn
  have HN2 := Lib.hid hn2; clear hn2
  have HC := Lib.hid hc; clear hc
  go_enter Try.func87, Try.ntmps87
  go_wp2_with fail
  refine (clonePk_any A n c B sg w HS.out hB (by omega)).mono ?_
  rintro e w1 ⟨v1, rfl, ho1, hb1⟩
  have H0 : Hid (MergedIn w (sg ++ (pairs be).take 0) v1 w1) := Lib.hid (by
    rw [List.take_zero, List.append_nil]
    exact ⟨by rw [HN.out]; exact ho1, hb1⟩)
  clear ho1 hb1
  go_wp2_with fail
  go_loopw [5, 6] (fun v i wr => ∃ t : Nat, 2 * t ≤ n2 + 1 ∧ i = .int .i64 (2 * t + 1 : Nat) ∧ MergedIn w (sg ++ (pairs be).take t) v wr) (fun _ i _ => n2 + 2 - (intOf i).toNat)
  case atStart => exact ⟨0, by omega, rfl, H0.out⟩
  case round =>
    clear H0
    obtain ⟨t, ht, rfl, hown, hbel⟩ := hrel
    have HO := Lib.hid hown; clear hown
    have HB := Lib.hid hbel; clear hbel
    obtain ⟨j, hj⟩ : ∃ j, 2 * t + 1 = j := ⟨_, rfl⟩
    have hpl := pairs_length be
    rw [HN2.out] at hpl
    have hlen : (sg ++ (pairs be).take t).length ≤ N := by rw [List.length_append, List.length_take, HN.out]; omega
    by_cases hlt : 2 * t + 1 < n2
    · obtain ⟨b, o, rfl, hbB, x1, _⟩ := (HS2.out.below (HB.out.mono hB)).pk HN2.out (k := 2 * t) (by omega)
      obtain ⟨b', o', hA, _, x2, _⟩ := (HS2.out.below (HB.out.mono hB)).pk HN2.out (k := 2 * t + 1) hlt
      injection hA with hA
      injection hA with hb' ho'
      subst hb' ho'
      have hpg := pairs_get be t (by rw [HN2.out]; exact hlt)
      have hc1 := HC.out _ (List.getElem_mem (show 2 * t < be.length by rw [HN2.out]; omega))
      have hc2 := HC.out _ (List.getElem_mem (show 2 * t + 1 < be.length by rw [HN2.out]; omega))
      obtain ⟨p, hp⟩ : ∃ p, (be[2 * t]'(by rw [HN2.out]; omega)).1 = p := ⟨_, rfl⟩
      obtain ⟨q, hq⟩ : ∃ q, (be[2 * t + 1]'(by rw [HN2.out]; omega)).1 = q := ⟨_, rfl⟩
      rw [hp] at x1 hc1 hpg
      rw [hq] at x2 hc2 hpg
      have EP : Hid (sg ++ (pairs be).take (t + 1) = (sg ++ (pairs be).take t) ++ [(p + q, true)]) := Lib.hid (by
        rw [List.take_add_one, hpg, List.append_assoc]; rfl)
      have hz := HB.out.size
      have hbz : b < wr.heap.size := by omega
      obtain ⟨i2, hi2⟩ : ∃ i2, 2 * t = i2 := ⟨_, rfl⟩
      obtain ⟨pq, hpq⟩ : ∃ pq, p + q = pq := ⟨_, rfl⟩
      rw [hj] at x2 hlt ⊢
      rw [hi2] at x1
      rw [hpq] at EP
      have hwj : IntKind.i64.wrap ((j : Int) - 1) = i2 := by rw [IntWalk.i64_in _ (by omega)]; omega
      have hws : IntKind.i64.wrap ((p : Int) + q) = pq := by rw [IntWalk.i64_in _ (by omega)]; omega
      have t0 : (0 : Int) ≤ (i2 : Int) := by omega
      have tn : (i2 : Int) < n2 := by omega
      have j0 : (0 : Int) ≤ j := by omega
      have jn : (j : Int) < n2 := by omega
      have hpqb : pq ≤ 2199023255552 := by omega
      have X1 := Lib.hid x1
      have X2 := Lib.hid x2
      have HJ : Hid (2 * t + 1 = j) := Lib.hid hj
      have HI2 := Lib.hid hi2
      have HBW : Hid (∀ w7, ((wr.alloc (.cells #[.int .i64 (pq : Int), .bool true] 122)).drew).grownBy w7 u5.ownBlock → Below w.heap.size wr w7) := Lib.hid (fun w7 hg7 => (((Below.refl w.heap.size wr).alloc hz _).drew).grown hg7 (by simp; omega) (fun i hi => (own_whole HO.out hi).1))
      clear hp hq hpg x1 x2 hj hi2 hpq hc1 hc2
      go_wp2_with fail
      refine wp_region_held_drew (S := fun W => Below w.heap.size wr W) (by kernel_rfl) ((Below.refl _ _).drew) (fun hHeld => ?_)
      refine wpAnyH_take (i := 0) (oi := ⟨some 15, _, _, _, _, _⟩) (v := ?v0) rfl (by kernel_rfl) (by kernel_rfl) (by kernel_rfl) (fun _ _ _ h => h) (Or.inl ⟨by rfl, ?hy0⟩) (by assumption) ?rest0
      case hy0 => intro W hSW; go_simp; try rfl
      try simp only [Act.put, List.setIfInBounds_toArray, List.set_cons_zero, List.set_cons_succ]
      refine wpAnyH_take (i := 1) (oi := ⟨some 16, _, _, _, _, _⟩) (v := ?v1) rfl (by kernel_rfl) (by kernel_rfl) (by kernel_rfl) (fun _ _ _ h => h) (Or.inl ⟨by rfl, ?hy1⟩) (by assumption) ?rest1
      case hy1 => intro W hSW; go_simp; try rfl
      try simp only [Act.put, List.setIfInBounds_toArray, List.set_cons_zero, List.set_cons_succ]
      refine wpAnyH_take (i := 2) (oi := ⟨some 17, _, _, _, _, _⟩) (v := ?v2) rfl (by kernel_rfl) (by kernel_rfl) (by kernel_rfl) (fun _ _ _ h => h) (Or.inl ⟨by rfl, ?hy2⟩) (by assumption) ?rest2
      case hy2 => intro W hSW; go_simp; try rfl
      try simp only [Act.put, List.setIfInBounds_toArray, List.set_cons_zero, List.set_cons_succ]
      refine wpAnyH_take (i := 3) (oi := ⟨some 18, _, _, _, _, _⟩) (v := ?v3) rfl (by kernel_rfl) (by kernel_rfl) (by kernel_rfl) (fun _ _ _ h => h) (Or.inl ⟨by rfl, ?hy3⟩) (by assumption) ?rest3
      case hy3 => intro W hSW; go_simp; try rfl
      try simp only [Act.put, List.setIfInBounds_toArray, List.set_cons_zero, List.set_cons_succ]
      refine wpAnyH_take (i := 4) (oi := ⟨some 19, _, _, _, _, _⟩) (v := ?v4) rfl (by kernel_rfl) (by kernel_rfl) (by kernel_rfl) (fun _ _ _ h => h) (Or.inl ⟨by rfl, ?hy4⟩) (by assumption) ?rest4
      case hy4 => intro W hSW; go_simp; try rfl
      try simp only [Act.put, List.setIfInBounds_toArray, List.set_cons_zero, List.set_cons_succ]
      refine wpAnyH_take (i := 5) (oi := ⟨some 20, _, _, _, _, _⟩) (v := ?v5) rfl (by kernel_rfl) (by kernel_rfl) (by kernel_rfl) (fun _ _ _ h => h) (Or.inl ⟨by rfl, ?hy5⟩) (by assumption) ?rest5
      case hy5 => intro W hSW; go_simp; try rfl
      try simp only [Act.put, List.setIfInBounds_toArray, List.set_cons_zero, List.set_cons_succ]
      refine wpAnyH_take (i := 6) (oi := ⟨some 21, _, _, _, _, _⟩) (v := ?v6) rfl (by kernel_rfl) (by kernel_rfl) (by kernel_rfl) (fun _ _ _ h => h) (Or.inl ⟨by rfl, ?hy6⟩) (by assumption) ?rest6
      case hy6 => intro W hSW; have lx := (hSW.cell (p := ⟨b, o + i2 * 2, none⟩) (by show b < w.heap.size; omega)).trans X1.out; go_simp; try rfl
      try simp only [Act.put, List.setIfInBounds_toArray, List.set_cons_zero, List.set_cons_succ]
      refine wpAnyH_take (i := 7) (oi := ⟨some 22, _, _, _, _, _⟩) (v := ?v7) rfl (by kernel_rfl) (by kernel_rfl) (by kernel_rfl) (fun _ _ _ h => h) (Or.inl ⟨by rfl, ?hy7⟩) (by assumption) ?rest7
      case hy7 => intro W hSW; go_simp; try rfl
      try simp only [Act.put, List.setIfInBounds_toArray, List.set_cons_zero, List.set_cons_succ]
      refine wpAnyH_take (i := 8) (oi := ⟨some 23, _, _, _, _, _⟩) (v := ?v8) rfl (by kernel_rfl) (by kernel_rfl) (by kernel_rfl) (fun _ _ _ h => h) (Or.inl ⟨by rfl, ?hy8⟩) (by assumption) ?rest8
      case hy8 => intro W hSW; go_simp; try rfl
      try simp only [Act.put, List.setIfInBounds_toArray, List.set_cons_zero, List.set_cons_succ]
      refine wpAnyH_take (i := 9) (oi := ⟨some 24, _, _, _, _, _⟩) (v := ?v9) rfl (by kernel_rfl) (by kernel_rfl) (by kernel_rfl) (fun _ _ _ h => h) (Or.inl ⟨by rfl, ?hy9⟩) (by assumption) ?rest9
      case hy9 => intro W hSW; go_simp; try rfl
      try simp only [Act.put, List.setIfInBounds_toArray, List.set_cons_zero, List.set_cons_succ]
      refine wpAnyH_take (i := 10) (oi := ⟨some 25, _, _, _, _, _⟩) (v := ?v10) rfl (by kernel_rfl) (by kernel_rfl) (by kernel_rfl) (fun _ _ _ h => h) (Or.inl ⟨by rfl, ?hy10⟩) (by assumption) ?rest10
      case hy10 => intro W hSW; go_simp; try rfl
      try simp only [Act.put, List.setIfInBounds_toArray, List.set_cons_zero, List.set_cons_succ]
      refine wpAnyH_take (i := 11) (oi := ⟨some 26, _, _, _, _, _⟩) (v := ?v11) rfl (by kernel_rfl) (by kernel_rfl) (by kernel_rfl) (fun _ _ _ h => h) (Or.inl ⟨by rfl, ?hy11⟩) (by assumption) ?rest11
      case hy11 => intro W hSW; have lx := (hSW.cell (p := ⟨b, o + j * 2, none⟩) (by show b < w.heap.size; omega)).trans X2.out; go_simp; try rfl
      try simp only [Act.put, List.setIfInBounds_toArray, List.set_cons_zero, List.set_cons_succ]
      refine wpAnyH_take (i := 12) (oi := ⟨some 27, _, _, _, _, _⟩) (v := ?v12) rfl (by kernel_rfl) (by kernel_rfl) (by kernel_rfl) (fun _ _ _ h => h) (Or.inl ⟨by rfl, ?hy12⟩) (by assumption) ?rest12
      case hy12 => intro W hSW; go_simp; try rfl
      try simp only [Act.put, List.setIfInBounds_toArray, List.set_cons_zero, List.set_cons_succ]
      refine wpAnyH_take (i := 13) (oi := ⟨some 28, _, _, _, _, _⟩) (v := (.agg #[.int .i64 (pq : Int), .bool true])) rfl (by kernel_rfl) (by kernel_rfl) (by kernel_rfl) (fun _ _ _ h => h) (Or.inl ⟨by rfl, ?hy13⟩) (by assumption) ?rest13
      case hy13 => intro W hSW; exact exec_build_of (run_build (P := Try.prog) W 122 _ _ (built93 (pq : Int))) (by rfl) (by simp [Act.eval])
      try simp only [Act.put, List.setIfInBounds_toArray, List.set_cons_zero, List.set_cons_succ]
      refine wpAnyH_ready (rs := [14]) (by kernel_rfl) (by simp) ?_
      refine AllReadyH.cons (o := ⟨some 29, _, _, _, _, _⟩) rfl (fun K hK => ?_) AllReadyH.nil
      go_simp
      skip
      refine hK.out _ _ ?_ (fun hHeld2 => ?_)
      · exact ((Below.refl _ _).drew).alloc hz _
      clear hK K hHeld
      have hHeld := hHeld2; clear hHeld2
      try simp only [Act.put, List.setIfInBounds_toArray, List.set_cons_zero, List.set_cons_succ]
      refine wpAnyH_ready (rs := [15]) (by kernel_rfl) (by simp) ?_
      refine AllReadyH.cons (o := ⟨some 30, _, _, _, _, _⟩) rfl (fun K hK => ?_) AllReadyH.nil
      refine step_append_seen _ (by rfl) _ _ _ (by rfl) w.heap.size 122 i0 _ 2 16 Try.underlying120 HI0.out HZ0.out HZ1.out HZ2.out rfl (by omega) u5 (sg ++ (pairs be).take t).length (pv (sg ++ (pairs be).take t)) (by rfl) ((HO.out.alloc _).drew) (wr.heap.size + 1) _ 1 1 (pv [(pq, true)]) (by rfl) (seen_pk wr (pq, true)) (pv_one _) (by simp only [maxLen]; omega) (by omega) (by simp; omega) ?_
      intro v7 w7 hown7 hg7 hat7
      have HG7 := Lib.hid hg7; have HO7 := Lib.hid hown7; clear hg7 hown7 hat7
      refine hK.out _ _ ?_ (fun hHeld2 => ?_)
      · exact HBW.out w7 HG7.out
      clear hK K hHeld
      have hHeld := hHeld2; clear hHeld2
      try simp only [Act.put, List.setIfInBounds_toArray, List.set_cons_zero, List.set_cons_succ]
      refine wpAnyH_take (i := 16) (oi := ⟨some 5, _, _, _, _, _⟩) (v := ?v16) rfl (by kernel_rfl) (by kernel_rfl) (by kernel_rfl) (fun _ _ _ h => h) (Or.inl ⟨by rfl, ?hy16⟩) (by assumption) ?rest16
      case hy16 => intro W hSW; go_simp; try rfl
      try simp only [Act.put, List.setIfInBounds_toArray, List.set_cons_zero, List.set_cons_succ]
      refine wpAnyH_done (by kernel_rfl) ?_ _
      have HM : Hid (MergedIn w (sg ++ (pairs be).take (t + 1)) v7 w7) := Lib.hid (by
        rw [EP.out]
        refine ⟨?_, HB.out.trans (HBW.out w7 HG7.out)⟩
        rw [pv_append, List.length_append]
        exact HO7.out)
      go_wp2_with fail
      go_roundw
      case rel => exact ⟨t + 1, by have := HJ.out; omega, by rw [show 2 * (t + 1) + 1 = j + 2 by have := HJ.out; omega]; go_num, HM.out⟩
      case measure => simp [intOf]; have := HJ.out; omega
    · rw [hj] at hlt ⊢
      have hall : (pairs be).take t = pairs be := List.take_of_length_le (by omega)
      rw [hall] at HO hlen
      have hpos : 0 < (sg ++ pairs be).length := by rw [List.length_append, HN.out]; omega
      obtain ⟨R, hR⟩ : ∃ R, sg ++ pairs be = R := ⟨_, rfl⟩
      rw [hR] at HO hlen hpos
      have HR := Lib.hid hR; clear hR
      obtain ⟨g, cap, rfl, hcap, _⟩ := own_pos HO.out hpos
      have hg := (own_whole HO.out (k := g) rfl).1
      have CP := Lib.hid (S.callP w.heap.size g cap R wr hpos hlen HO.out)
      clear hall hj
      go_wp2_with (go_at_call 95; refine CP.out.mono ?_; rintro e w7 ⟨rfl, ho7, hO7⟩; have HO7 := Lib.hid ho7; have HO8 := Lib.hid hO7; clear ho7 hO7)
      go_ret
      refine ⟨_, rfl, ?_, HB.out.trans (HO8.out.below HB.out.size (by intro k hk; have : k = g := hk; omega))⟩
      rw [HR.out]
      exact HO7.out
end Go.Proofs.Ytnnpiblnjflceaa
