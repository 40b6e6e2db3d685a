/-
  The bytes of the program's texts, pairs and members. Conditions: texts of at most a hundred thousand bytes.
-/
import Derived.Test.YtmojclbejmnikaaPM
namespace Go.Proofs.Ytmojclbejmnikaa
open Go Go.RowKit
set_option maxRecDepth 100000

/-- append of a text to a row of the call's own. -/
theorem wpList_append_str {P : Program} {w : World} {ops : Array Oper} {rest : List Oper} {o : Oper} {a : Act} {Q : Exit → Act → World → Prop} (hgd : o.guard = none) (s x : Operand) (t u : TypeId)
    (ho : o.op = .call { callee := .builtin .append, args := #[s, x], argTypes := #[t, u] })
    (base : Nat) (e : TypeId) (i : TypeInfo) (ht : P.underlying t = some (.slice e)) (hu : P.underlying u = some .string) (hi : P.info? e = some i) (hz : i.zero = some (.int .u8 0)) (hsize : i.size = 1) (hby : i.bytes = 1)
    (v : Value) (n : Nat) (xs : List Value) (hs : a.eval s = v) (hown : w.ownsRow base e 1 v n xs) (b : ByteArray) (hx : a.eval x = .string b)
    (h63 : n + b.size ≤ maxLen) (hbytes : n + b.size ≤ 140737488355328) (hbase : base ≤ w.heap.size)
    (h : ∀ v' w', w'.ownsRow base e 1 v' (n + b.size) (xs ++ Lib.strCells b) → w.grownBy w' v.ownBlock → wpList P ops Q rest (a.put o.dst v') w') : wpList P ops Q (o :: rest) a w := by
  refine wpList_plain hgd fun K hK => ?_
  obtain ⟨v', w', hrun, h2, h3, h4⟩ := Lib.run_append_own_string (P := P) w base t u o.type e i ht hu hi hz hsize hby v n xs hown b h63 hbytes hbase
  unfold Oper.wp
  simp [execOp, ho, resolve, invoke, builtin, hs, hx, hrun, Result.andThen]
  exact hK _ _ (h v' w' h2 h3)
theorem strCells_bv (s : ByteArray) : Lib.strCells s = bv (txN s) := by
  unfold Lib.strCells bv txN
  rw [List.map_map]
  rfl
theorem u64_nat {n : Nat} (h : n < 18446744073709551616) : u64N (n : Int) = n := by unfold u64N; omega

set_option maxHeartbeats 4000000 in
theorem text_bytes_any (s : ByteArray) (hs : s.size ≤ 100000) (w : World) : Calls Try.prog 76 #[.string s] w (GivesB w (2 + s.size) (beN s.size 2 ++ txN s)) := by
  obtain ⟨i0, hi0, hz0, hz1, hz2⟩ := info_parts byte_info
  have TW := Lib.hid (two_any s.size w)
  rw [u64_nat (by omega)] at TW
  obtain ⟨n, hn⟩ : ∃ n, s.size = n := ⟨_, rfl⟩
  rw [hn] at TW hs ⊢
  go_enter Try.func76, Try.ntmps76
  go_wp2_with fail
  refine TW.out.mono ?_
  rintro e w1 ⟨A, c, rfl, h0, h1, h2⟩
  have H1 := Lib.hid h1
  have H2 := Lib.hid h2
  have HN := Lib.hid hn
  clear h1 h2 hn
  go_wp2_with (at_builtin; refine wpList_append_str rfl (.tmp 5) (.tmp 6) 22 77 rfl w.heap.size 5 i0 Try.underlying22 (by kernel_rfl) hi0 hz0 hz1 hz2 (.slice A 2 c) 2 (bv (beN n 2)) rfl H1.out s rfl (by rw [HN.out]; simp only [maxLen]; omega) (by rw [HN.out]; omega) H2.out.size ?_; intro v2 w2 ho2 hg2)
  go_ret
  obtain ⟨A2, c2, rfl, hc2⟩ := own_form ho2
  rw [HN.out] at ho2 ⊢
  refine ⟨A2, c2, rfl, hc2, by rw [bv_append, ← strCells_bv]; exact ho2, H2.out.grown hg2 H2.out.size (fun k hk => (own_whole H1.out hk).1)⟩

set_option maxHeartbeats 8000000 in
theorem pair_bytes_any (i j : Int) (w : World) : Calls Try.prog 84 #[.agg #[.int .i64 i, .int .i64 j]] w (GivesB w 4 (beN (u64N i) 2 ++ beN (u64N j) 2)) := by
  obtain ⟨i0, hi0, hz0, hz1, hz2⟩ := info_parts byte_info
  obtain ⟨w1, hw1⟩ : ∃ W, w.alloc (.cells #[.int .i64 i, .int .i64 j] 87) = W := ⟨_, rfl⟩
  obtain ⟨g, hg⟩ : ∃ g, w.heap.size = g := ⟨_, rfl⟩
  have W1 : Hid (Whole w1 g 87 #[.int .i64 i, .int .i64 j]) := Lib.hid (hw1 ▸ hg ▸ Whole.new w 87 _)
  have B1 : Hid (Below w.heap.size w w1) := Lib.hid (hw1 ▸ (Below.refl _ _).alloc (Nat.le_refl _) _)
  have p0 : w1.cell? ⟨g, 0, none⟩ = some (.int .i64 i) := W1.out.cell 0
  have p1 : w1.cell? ⟨g, 1, none⟩ = some (.int .i64 j) := W1.out.cell 1
  go_enter Try.func84, Try.ntmps84
  go_wp2_with fail
  go_region_held3 (fun w' => w'.cell? ⟨g, 0, none⟩ = some (.int .i64 i) ∧ w'.cell? ⟨g, 1, none⟩ = some (.int .i64 j)) (first | exact ⟨p0, p1⟩ | exact ⟨q0, q1⟩ | exact ⟨r0, r1⟩ | exact ⟨s0, s1⟩ | go_keep)
    (first
      | (go_at_call 33; refine (two_any j w2).mono ?_; rintro e w3 ⟨A3, c3, rfl, h3, o3, b3⟩; have B3 := Lib.hid (B2.out.trans (b3.mono B2.out.size)); have O3 := Lib.hid o3; have W3 := Lib.hid (W2.out.bel b3); have O23 := Lib.hid (own_only O2.out (Only.of_below b3 Nob) (fun _ _ h => h)); have r0 : w3.cell? ⟨g, 0, none⟩ = some (.int .i64 i) := W3.out.cell 0; have r1 : w3.cell? ⟨g, 1, none⟩ = some (.int .i64 j) := W3.out.cell 1; clear o3 b3)
      | (go_at_call 33; refine (two_any i _).mono ?_; rintro e w2 ⟨A2, c2, rfl, h2, o2, b2⟩; have B2 := Lib.hid (B1.out.drew.trans (b2.mono B1.out.size)); have O2 := Lib.hid (own_base o2 B1.out.drew.size); have W2 := Lib.hid (W1.out.drew.bel b2); have q0 : w2.cell? ⟨g, 0, none⟩ = some (.int .i64 i) := W2.out.cell 0; have q1 : w2.cell? ⟨g, 1, none⟩ = some (.int .i64 j) := W2.out.cell 1; clear o2 b2)
      | (refine step_append_seen _ (by rfl) _ _ _ (by rfl) w.heap.size 5 i0 _ 1 1 Try.underlying22 hi0 hz0 hz1 hz2 rfl (by omega) (.slice A2 2 c2) 2 (bv (beN (u64N i) 2)) (by rfl) O23.out _ A3 2 c3 (bv (beN (u64N j) 2)) (by rfl) (GivesB.seen O3.out) (bv_oneCell _) (by simp only [maxLen]; omega) (by omega) B3.out.size ?_; intro v4 w4 o4 g4 a4; have W4 := Lib.hid (W3.out.grown g4 (fun e => own_ne_whole O23.out W3.out (by decide) _ e.symm rfl)); have s0 : w4.cell? ⟨g, 0, none⟩ = some (.int .i64 i) := W4.out.cell 0; have s1 : w4.cell? ⟨g, 1, none⟩ = some (.int .i64 j) := W4.out.cell 1)
      | fail)
  go_wp2_with fail
  go_ret
  obtain ⟨A4, c4, rfl, hc4⟩ := own_form o4
  exact ⟨A4, c4, rfl, hc4, by rw [bv_append]; exact o4, B3.out.grown g4 B3.out.size (fun k hk => (own_whole O23.out hk).1)⟩
set_option maxHeartbeats 8000000 in
theorem mem_bytes_any (i j : Int) (w : World) : Calls Try.prog 86 #[.agg #[.int .i64 i, .int .i64 j]] w (GivesB w 4 (beN (u64N i) 2 ++ beN (u64N j) 2)) := by
  obtain ⟨i0, hi0, hz0, hz1, hz2⟩ := info_parts byte_info
  obtain ⟨w1, hw1⟩ : ∃ W, w.alloc (.cells #[.int .i64 i, .int .i64 j] 89) = W := ⟨_, rfl⟩
  obtain ⟨g, hg⟩ : ∃ g, w.heap.size = g := ⟨_, rfl⟩
  have W1 : Hid (Whole w1 g 89 #[.int .i64 i, .int .i64 j]) := Lib.hid (hw1 ▸ hg ▸ Whole.new w 89 _)
  have B1 : Hid (Below w.heap.size w w1) := Lib.hid (hw1 ▸ (Below.refl _ _).alloc (Nat.le_refl _) _)
  have p0 : w1.cell? ⟨g, 0, none⟩ = some (.int .i64 i) := W1.out.cell 0
  have p1 : w1.cell? ⟨g, 1, none⟩ = some (.int .i64 j) := W1.out.cell 1
  go_enter Try.func86, Try.ntmps86
  go_wp2_with fail
  go_region_held3 (fun w' => w'.cell? ⟨g, 0, none⟩ = some (.int .i64 i) ∧ w'.cell? ⟨g, 1, none⟩ = some (.int .i64 j)) (first | exact ⟨p0, p1⟩ | exact ⟨q0, q1⟩ | exact ⟨r0, r1⟩ | exact ⟨s0, s1⟩ | go_keep)
    (first
      | (go_at_call 33; refine (two_any j w2).mono ?_; rintro e w3 ⟨A3, c3, rfl, h3, o3, b3⟩; have B3 := Lib.hid (B2.out.trans (b3.mono B2.out.size)); have O3 := Lib.hid o3; have W3 := Lib.hid (W2.out.bel b3); have O23 := Lib.hid (own_only O2.out (Only.of_below b3 Nob) (fun _ _ h => h)); have r0 : w3.cell? ⟨g, 0, none⟩ = some (.int .i64 i) := W3.out.cell 0; have r1 : w3.cell? ⟨g, 1, none⟩ = some (.int .i64 j) := W3.out.cell 1; clear o3 b3)
      | (go_at_call 33; refine (two_any i _).mono ?_; rintro e w2 ⟨A2, c2, rfl, h2, o2, b2⟩; have B2 := Lib.hid (B1.out.drew.trans (b2.mono B1.out.size)); have O2 := Lib.hid (own_base o2 B1.out.drew.size); have W2 := Lib.hid (W1.out.drew.bel b2); have q0 : w2.cell? ⟨g, 0, none⟩ = some (.int .i64 i) := W2.out.cell 0; have q1 : w2.cell? ⟨g, 1, none⟩ = some (.int .i64 j) := W2.out.cell 1; clear o2 b2)
      | (refine step_append_seen _ (by rfl) _ _ _ (by rfl) w.heap.size 5 i0 _ 1 1 Try.underlying22 hi0 hz0 hz1 hz2 rfl (by omega) (.slice A2 2 c2) 2 (bv (beN (u64N i) 2)) (by rfl) O23.out _ A3 2 c3 (bv (beN (u64N j) 2)) (by rfl) (GivesB.seen O3.out) (bv_oneCell _) (by simp only [maxLen]; omega) (by omega) B3.out.size ?_; intro v4 w4 o4 g4 a4; have W4 := Lib.hid (W3.out.grown g4 (fun e => own_ne_whole O23.out W3.out (by decide) _ e.symm rfl)); have s0 : w4.cell? ⟨g, 0, none⟩ = some (.int .i64 i) := W4.out.cell 0; have s1 : w4.cell? ⟨g, 1, none⟩ = some (.int .i64 j) := W4.out.cell 1)
      | fail)
  go_wp2_with fail
  go_ret
  obtain ⟨A4, c4, rfl, hc4⟩ := own_form o4
  exact ⟨A4, c4, rfl, hc4, by rw [bv_append]; exact o4, B3.out.grown g4 B3.out.size (fun k hk => (own_whole O23.out hk).1)⟩
end Go.Proofs.Ytmojclbejmnikaa
