/-
  The document's lengths. Conditions: each theorem names its own.
-/
import Derived.Test.YtkjhefjjacokjaaGreatIG
namespace Go.Proofs.YtkjhefjjacokjaaGreat
open Go.RowKit
set_option maxRecDepth 100000
def RLens (c : Rx) (cl : List Int) (n a : Nat) (o : List Nat) (ov : Value) (w : World) (r : Ending) (w' : World) : Prop :=
  ∃ v, r = .returned v ∧ Fq c.B0 w w' ∧ ((∃ (a' : Nat) (l : List Int), Runs (lensStep cl c.L n) (a, []) (.ok (a', l)) ∧ l.length = n ∧ w'.ownsRow w.heap.size 3 1 v n (iv l) ∧ RSt c w' ov a' o 0) ∨
    (∃ er a' : Nat, 0 < er ∧ er < 100 ∧ Runs (lensStep cl c.L n) (a, []) (.er er) ∧ (∃ A k cp, v = .slice A k cp) ∧ RSt c w' ov a' o er))
theorem rlengths_no {c : Rx} (ov : Value) (a : Nat) (o : List Nat) (e : Nat) (he : e ≠ 0) (V : Value) (n : Int) (w : World) (h : RSt c w ov a o e) :
    Calls Tryz.prog 72 #[.pointer (some ⟨c.gs, 0, none⟩), V, .int .i64 n] w fun r w' => r = .returned (.slice none 0 0) ∧ w = w' := by
  have c3 := h.c3
  clear h
  have d0 : (e == 0) = false := by simpa using he
  have d1 : ((e : Int) == 0) = false := by simp; omega
  have d2 : ¬ (e : Int) = 0 := by omega
  go_enter Tryz.func72, Tryz.ntmps72
  go_wp2_with fail
  go_loop [7] (fun s => s = .slice none 0 0) (fun _ => 0)
  case atStart => rfl
  case round =>
    subst hrel
    by_cases hn : 0 < n
    · have dn : decide (0 < n) = true := decide_eq_true hn
      go_wp2_with fail
      go_ret
      exact ⟨rfl, rfl⟩
    · have dn : decide (0 < n) = false := decide_eq_false hn
      go_wp2_with fail
      go_ret
      exact ⟨rfl, rfl⟩
/-- Within: these lengths, this error. -/
def RLIn (c : Rx) (cl : List Int) (n a : Nat) (o : List Nat) (ov : Value) (w : World) (b : Nat) (l : List Int) (e : Nat) (v : Value) (wr : World) : Prop :=
  l.length ≤ n + 138 ∧ wr.ownsRow w.heap.size 3 1 v l.length (iv l) ∧ RSt c wr ov b o e ∧ Fq c.B0 w wr ∧ (e = 0 → l.length ≤ n ∧ ∀ r, Runs (lensStep cl c.L n) (b, l) r → Runs (lensStep cl c.L n) (a, []) r) ∧ (e ≠ 0 → e < 100 ∧ Runs (lensStep cl c.L n) (a, []) (.er e))
def RLRun (c : Rx) (o : List Nat) (ov : Value) (w : World) (b : Nat) (l : List Int) (x : Int) (e t : Nat) (v : Value) (wr : World) : Prop :=
  wr.ownsRow w.heap.size 3 1 v (l.length + t) (iv (l ++ List.replicate t x)) ∧ RSt c wr ov b o e ∧ Fq c.B0 w wr
/-- A row of numbers has grown beside the document's state. -/
theorem RSt.ints {c : Rx} {w1 w2 : World} {ov : Value} {a e : Nat} {o : List Nat} {S : Nat → Prop} (h : RSt c w1 ov a o e) (hO : Only S w1 w2) (hS : ∀ j, S j → ∃ cs, Whole w1 j 3 cs) : RSt c w2 ov a o e := by
  have n1 : ∀ {g : Nat} {t : TypeId} {cs : Array Value}, Whole w1 g t cs → t ≠ 3 → ¬ S g := fun hw ht hs => by
    obtain ⟨cs, h2⟩ := hS _ hs
    exact hw.ne h2 ht rfl
  have n2 : ∀ {B : Nat} {u : TypeId} {v : Value} {n : Nat} {xs : List Value}, w1.ownsRow B u 1 v n xs → u ≠ 3 → ∀ k, v.ownBlock = some k → ¬ S k := fun ho hu k hk hs => by
    obtain ⟨cs, h2⟩ := hS _ hs
    obtain ⟨_, cs', h3⟩ := own_whole ho hk
    exact h3.ne h2 hu rfl
  exact ⟨h.st.only hO (n1 h.st (by decide)), h.rd.keepOnly hO (n1 h.rd.2.1 (by decide)) (n2 h.rd.2.2 (by decide)), own_only h.out hO (n2 h.out (by decide)), Nat.le_trans h.size hO.size, h.place, h.room⟩
def lmeas (n : Nat) (l e : Nat) : Nat := if e = 0 then n - l + 1 else 0
set_option maxHeartbeats 4000000 in
theorem rlengths_any {c : Rx} (hg : c.Good) (ov : Value) (a : Nat) (o : List Nat) (cl : List Int) (hn : cl.length = 19) (hr : kindOf cl ≠ 0) (n : Nat) (hn1 : n ≤ 1000) (Aw : Option Addr) (cw lo : Nat) (w : World) (hw : w.ownsRow lo 9 1 (.slice Aw 19 cw) 19 (twords cl 19)) (h : RSt c w ov a o 0) :
    Calls Tryz.prog 72 #[.pointer (some ⟨c.gs, 0, none⟩), .slice Aw 19 cw, .int .i64 n] w (RLens c cl n a o ov w) := by
  obtain ⟨i0, hi0, hz0, hz1, hz2⟩ := info_parts int_info
  have HI0 := Lib.hid hi0; clear hi0
  have H0 : Hid (RLIn c cl n a o ov w a [] 0 (.slice none 0 0) w) := Lib.hid ⟨by simp, World.ownsRow_nil _ _ _ _, h, Fq.refl _ _, fun _ => ⟨by simp, fun _ h => h⟩, fun h => absurd rfl h⟩
  have HW := Lib.hid hw; clear hw h
  have HN := Lib.hid hn; clear hn
  have HR := Lib.hid hr; clear hr
  go_enter Tryz.func72, Tryz.ntmps72
  go_wp2_with fail
  go_loopg [7, 8, 9, 10, 11] (lmeas n 0 0) (fun k lv _ _ _ _ wr => ∃ (b : Nat) (l : List Int) (e : Nat), k = lmeas n l.length e ∧ RLIn c cl n a o ov w b l e lv wr)
  case atStart => exact ⟨a, [], 0, rfl, H0.out⟩
  case round =>
    obtain ⟨b, l, e, rfl, hin⟩ := hrel
    obtain ⟨A, cp, rfl, _⟩ := own_form hin.2.1
    have q3 := hin.2.2.1.c3
    have hl138 := hin.1
    have HIn := Lib.hid hin; clear hin
    by_cases he : e = 0
    · subst he
      obtain ⟨hln, hkk⟩ := HIn.out.2.2.2.2.1 rfl
      have HK := Lib.hid hkk; clear hkk
      by_cases hlt : l.length < n
      · have hnl : ¬ n ≤ l.length := by omega
        have d1 : decide (l.length < n) = true := decide_eq_true hlt
        go_wp2_with fail
        refine (rsign_any hg ov b o cl 19 HN.out (by omega) HR.out Aw cw lo wr (HIn.out.2.2.2.1.own HW.out (by decide) (by decide) (by decide)) HIn.out.2.2.1).mono ?_
        rintro r w3 ⟨j, er, b', rfl, hs3, hf3, hc3⟩
        have S3 := Lib.hid hs3
        have F3 := Lib.hid (HIn.out.2.2.2.1.trans hf3)
        have O3 := Lib.hid (hf3.own HIn.out.2.1 (by decide) (by decide) (by decide))
        clear hs3 hf3 q3
        have hj19 : j < 19 := by
          rcases hc3 with ⟨_, _, h, _⟩ | ⟨_, _, h, _⟩ <;> omega
        by_cases hj16 : j < 16
        · have M1 : Hid (er = 0 → runAt cl c.L b l = .ok (((j : Nat) : Int), 1, b')) := Lib.hid (fun h0 => by
            rcases hc3 with ⟨_, h, _⟩ | ⟨h, _⟩
            · exact run_len h hj16
            · omega)
          have M2 : Hid (er ≠ 0 → er < 100 ∧ runAt cl c.L b l = .er er) := Lib.hid (fun h0 => by
            rcases hc3 with ⟨h, _⟩ | ⟨_, h1, _, h⟩
            · exact absurd h h0
            · exact ⟨h1, run_er h⟩)
          have her : er < 100 := by rcases hc3 with ⟨h, _⟩ | ⟨_, h, _⟩ <;> omega
          clear hc3
          have g1 : ((j : Int) == 16) = false := by simp; omega
          have g2 : ((j : Int) == 17) = false := by simp; omega
          have g3 : ((j : Int) == 18) = false := by simp; omega
          have g4 : ¬ (j : Int) = 16 := by omega
          have g5 : ¬ (j : Int) = 17 := by omega
          have g6 : ¬ (j : Int) = 18 := by omega
          obtain ⟨m, hm⟩ : ∃ m, n - l.length = m := ⟨_, rfl⟩
          have wm : (n : Int) - l.length = m := by omega
          have wm2 : IntKind.i64.wrap (m : Int) = m := IntWalk.i64_in _ (by omega)
          have d2 : decide (m < 1) = false := decide_eq_false (by omega)
          have d2' : decide ((m : Int) < 1) = false := decide_eq_false (by omega)
          have R0 : Hid (RLRun c o ov w b' l (((j : Nat) : Int)) er 0 (.slice A l.length cp) w3) := Lib.hid ⟨by simpa using O3.out, S3.out, F3.out⟩
          go_wp2_with fail
          go_loopw [7, 11] (fun lv i wr => ∃ k : Nat, k ≤ 1 ∧ i = .int .i64 k ∧ RLRun c o ov w b' l (((j : Nat) : Int)) er k lv wr) (fun _ i _ => 1 - (intOf i).toNat)
          case atStart => exact ⟨0, by omega, rfl, R0.out⟩
          case round =>
            obtain ⟨k, hk, rfl, hin⟩ := hrel
            obtain ⟨A3, c3, rfl, _⟩ := own_form hin.1
            have sz : w.heap.size ≤ wr.heap.size := hin.2.2.size
            have HI3 := Lib.hid hin; clear hin
            by_cases hkt : k < 1
            · have HB : Hid (Below wr.heap.size wr (wr.alloc (.cells #[.int .i64 (((j : Nat) : Int))] 3))) := Lib.hid ((Below.refl _ _).alloc (Nat.le_refl _) _)
              have HA := Lib.hid (own_only HI3.out.1 (Only.of_below HB.out Nob) (fun _ _ h => h))
              have d3 : decide (k < 1) = true := decide_eq_true hkt
              have d3' : decide ((k : Int) < 1) = true := decide_eq_true (by omega)
              have HKT := Lib.hid hkt
              clear hkt
              go_wp2_with (at_builtin; refine wpList_append_seen _ rfl (.tmp 69) (.tmp 71) _ rfl w.heap.size 3 i0 _ 1 8 Tryz.underlying54 HI0.out hz0 hz1 hz2 rfl (by omega) (.slice A3 (l.length + k) c3) (l.length + k) _ rfl HA.out _ _ 1 1 _ rfl (seen_one _ _ _) (by simp [Value.oneCell']) (by simp only [maxLen]; omega) (by omega) (by simp only [World.size_alloc]; omega) ?_; intro v4 w4 hown4 hg4 hat4)
              have hO4 : Only (fun jj => (Value.slice A3 (l.length + k) c3).ownBlock = some jj) (wr.alloc (.cells #[.int .i64 (((j : Nat) : Int))] 3)) w4 := (Only.refl _ _).grown hg4 (fun _ hj _ => hj)
              have hne : ∀ jj, (Value.slice A3 (l.length + k) c3).ownBlock = some jj → ∃ cs, Whole (wr.alloc (.cells #[.int .i64 (((j : Nat) : Int))] 3)) jj 3 cs := fun _ hj => (own_whole HA.out hj).2
              have hF4 : Below w.heap.size (wr.alloc (.cells #[.int .i64 (((j : Nat) : Int))] 3)) w4 := hO4.below (by simp; omega) (fun _ hj => (own_whole HA.out hj).1)
              have N4 : Hid (RLRun c o ov w b' l (((j : Nat) : Int)) er (k + 1) v4 w4) := Lib.hid (by
                refine ⟨?_, (HI3.out.2.1.below HB.out).ints hO4 hne, (HI3.out.2.2.trans (Fq.of_below HB.out _)).past hF4⟩
                rw [List.replicate_succ', ← List.append_assoc, iv, List.map_append]
                exact hown4)
              clear hown4 hg4 hat4 hO4 hne hF4
              go_roundw
              case rel => exact ⟨k + 1, by have := HKT.out; omega, by go_num, N4.out⟩
              case measure => have := HKT.out; simp [intOf]; omega
            · have hkt2 : k = 1 := by omega
              have d3 : decide (k < 1) = false := decide_eq_false (by omega)
              have d3' : decide ((k : Int) < 1) = false := decide_eq_false (by omega)
              have HKT := Lib.hid hkt2
              clear hkt hkt2
              go_wp2_with fail
              go_roundg (lmeas n (l ++ List.replicate 1 (((j : Nat) : Int))).length er)
              case rel =>
                have h1 := HI3.out.1
                have e1 : (l ++ List.replicate 1 (((j : Nat) : Int))).length = l.length + k := by have := HKT.out; simp; omega
                have e3 : iv (l ++ List.replicate 1 (((j : Nat) : Int))) = iv (l ++ List.replicate k (((j : Nat) : Int))) := by rw [HKT.out]
                refine ⟨b', l ++ List.replicate 1 (((j : Nat) : Int)), er, rfl, by simp; omega, by rw [e1, e3]; exact h1, HI3.out.2.1, HI3.out.2.2, ?_, ?_⟩
                · intro h0
                  exact ⟨by simp; omega, fun r h => HK.out r (.go (lens_go hnl (M1.out h0) (by omega)) h)⟩
                · intro h0
                  exact ⟨(M2.out h0).1, HK.out _ (.er (lens_er hnl (M2.out h0).2))⟩
              case measure =>
                unfold lmeas
                rw [if_pos rfl]
                split <;> simp <;> omega
        · have hsig : er = 0 ∧ signAt cl c.L b = .ok (j, b') := by
            rcases hc3 with ⟨h, h2, _⟩ | ⟨_, _, h, _⟩
            · exact ⟨h, h2⟩
            · omega
          obtain ⟨rfl, hsig⟩ := hsig
          have HSG := Lib.hid hsig
          clear hsig hc3
          have hj3 : j = 16 ∨ j = 17 ∨ j = 18 := by omega
          rcases hj3 with rfl | rfl | rfl
          · go_wp2_with fail
            refine (rget_any hg ov b' o 2 (by omega) _ S3.out).mono ?_
            rintro r w5 ⟨v, er, b5, rfl, hs5, hf5, hc5⟩
            have S5 := Lib.hid hs5
            have F5 := Lib.hid (F3.out.trans hf5)
            have O5 := Lib.hid (hf5.own O3.out (by decide) (by decide) (by decide))
            have HC5 := Lib.hid hc5
            have hv : v < 4 := by
              rcases hc5 with ⟨_, _, h, _⟩ | ⟨_, h, _⟩
              · exact h
              · omega
            have her : er < 100 := by rcases hc5 with ⟨h, _⟩ | ⟨h, _⟩ <;> omega
            clear hs5 hf5 hc5
            obtain ⟨t, ht⟩ : ∃ t, 3 + v = t := ⟨_, rfl⟩
            have wt : (3 : Int) + v = t := by omega
            have ht1 : 1 ≤ t := by omega
            have ht2 : t ≤ 138 := by omega
            have HT := Lib.hid ht
            clear ht
            by_cases hz : l.length = 0
            · have HZ := Lib.hid hz
              have z0 : ((l.length : Int) == 0) = true := by simp [hz]
              have hlz : l = [] := List.eq_nil_of_length_eq_zero hz
              go_wp2_with fail
              refine (rfail_any hg ov b5 o er 2 _ S5.out).mono ?_
              rintro r w8 ⟨rfl, hs8, hf8⟩
              have S8 := Lib.hid hs8; have F8 := Lib.hid (F5.out.trans hf8)
              clear hs8 hf8
              go_wp2_with fail
              go_ret
              refine ⟨_, rfl, F8.out, .inr ?_⟩
              rcases HC5.out with ⟨rfl, hb, _⟩ | ⟨rfl, _, hb⟩
              · exact ⟨2, b5, by omega, by omega, HK.out _ (.er (lens_er hnl (run_none HSG.out hb HZ.out))), ⟨_, _, _, rfl⟩, S8.out⟩
              · exact ⟨6, b5, by omega, by omega, HK.out _ (.er (lens_er hnl (run_bits_er HSG.out (by omega) hb))), ⟨_, _, _, rfl⟩, S8.out⟩
            · obtain ⟨y, hy⟩ : ∃ y, l.getD (l.length - 1) 0 = y := ⟨_, rfl⟩
              have M1 : Hid (er = 0 → runAt cl c.L b l = .ok (y, t, b5)) := Lib.hid (fun h0 => by
                rcases HC5.out with ⟨_, hb, _, rfl⟩ | ⟨h, _⟩
                · rw [run_last HSG.out hb hz, hy, HT.out]
                · omega)
              have M2 : Hid (er ≠ 0 → er < 100 ∧ runAt cl c.L b l = .er er) := Lib.hid (fun h0 => by
                rcases HC5.out with ⟨h, _⟩ | ⟨rfl, _, hb⟩
                · exact absurd h h0
                · exact ⟨by omega, run_bits_er HSG.out (by omega) hb⟩)
              obtain ⟨rr, cap, hA, _, _⟩ := own_pos O5.out (by omega)
              injection hA with hA1 _ hA3
              subst hA1 hA3
              obtain ⟨k, hk⟩ : ∃ k, l.length - 1 = k := ⟨_, rfl⟩
              have hy2 : (iv l)[k]? = some (.int .i64 y) := by
                have : k < l.length := by omega
                rw [iv_get? this]
                rw [hk] at hy
                simp [List.getD, this] at hy
                rw [hy]
              have cy := (own_cell O5.out hy2).1
              have wk : (l.length : Int) - 1 = k := by omega
              have wk2 : IntKind.i64.wrap (k : Int) = k := IntWalk.i64_in _ (by omega)
              have k00 : (0 : Int) ≤ k := by omega
              have k01 : (k : Int) < l.length := by omega
              have hlz : ¬ l = [] := by rintro rfl; simp at hz
              have m0 : ((l.length : Int) == 0) = false := by simp [hlz]
              have m1 : (l.length == 0) = false := by simp [hlz]
              clear hy hy2 hk
              obtain ⟨m, hm⟩ : ∃ m, n - l.length = m := ⟨_, rfl⟩
              have wm : (n : Int) - l.length = m := by omega
              have wm2 : IntKind.i64.wrap (m : Int) = m := IntWalk.i64_in _ (by omega)
              by_cases hover : m < t
              · have d2 : decide (m < t) = true := decide_eq_true hover
                have d2' : decide ((m : Int) < t) = true := decide_eq_true (by omega)
                go_wp2_with fail
                refine (rfail_any hg ov b5 o er 2 _ S5.out).mono ?_
                rintro r w8 ⟨rfl, hs8, hf8⟩
                have S8 := Lib.hid hs8; have F8 := Lib.hid (F5.out.trans hf8)
                have O8 := Lib.hid (hf8.own O5.out (by decide) (by decide) (by decide))
                clear hs8 hf8
                obtain ⟨e2, he2⟩ : ∃ e2, (if er = 0 then 2 else er) = e2 := ⟨_, rfl⟩
                rw [he2] at S8
                have he20 : e2 ≠ 0 := by rw [← he2]; split <;> omega
                have HRr : Hid (e2 < 100 ∧ Runs (lensStep cl c.L n) (a, []) (.er e2)) := Lib.hid (by
                  rw [← he2]
                  by_cases h0 : er = 0
                  · rw [if_pos h0]
                    exact ⟨by omega, HK.out _ (.er (lens_form hnl (M1.out h0) (by omega)))⟩
                  · rw [if_neg h0]
                    exact ⟨(M2.out h0).1, HK.out _ (.er (lens_er hnl (M2.out h0).2))⟩)
                clear he2
                have R0 : Hid (RLRun c o ov w b5 l (y) e2 0 (.slice (some ⟨rr, 0, none⟩) l.length cp) w8) := Lib.hid ⟨by simpa using O8.out, S8.out, F8.out⟩
                go_wp2_with fail
                go_loopw [7, 11] (fun lv i wr => ∃ k : Nat, k ≤ t ∧ i = .int .i64 k ∧ RLRun c o ov w b5 l (y) e2 k lv wr) (fun _ i _ => t - (intOf i).toNat)
                case atStart => exact ⟨0, by omega, rfl, R0.out⟩
                case round =>
                  obtain ⟨k, hk, rfl, hin⟩ := hrel
                  obtain ⟨A3, c3, rfl, _⟩ := own_form hin.1
                  have sz : w.heap.size ≤ wr.heap.size := hin.2.2.size
                  have HI3 := Lib.hid hin; clear hin
                  by_cases hkt : k < t
                  · have HB : Hid (Below wr.heap.size wr (wr.alloc (.cells #[.int .i64 (y)] 3))) := Lib.hid ((Below.refl _ _).alloc (Nat.le_refl _) _)
                    have HA := Lib.hid (own_only HI3.out.1 (Only.of_below HB.out Nob) (fun _ _ h => h))
                    have d3 : decide (k < t) = true := decide_eq_true hkt
                    have d3' : decide ((k : Int) < t) = true := decide_eq_true (by omega)
                    have HKT := Lib.hid hkt
                    clear hkt
                    go_wp2_with (at_builtin; refine wpList_append_seen _ rfl (.tmp 69) (.tmp 71) _ rfl w.heap.size 3 i0 _ 1 8 Tryz.underlying54 HI0.out hz0 hz1 hz2 rfl (by omega) (.slice A3 (l.length + k) c3) (l.length + k) _ rfl HA.out _ _ 1 1 _ rfl (seen_one _ _ _) (by simp [Value.oneCell']) (by simp only [maxLen]; omega) (by omega) (by simp only [World.size_alloc]; omega) ?_; intro v4 w4 hown4 hg4 hat4)
                    have hO4 : Only (fun jj => (Value.slice A3 (l.length + k) c3).ownBlock = some jj) (wr.alloc (.cells #[.int .i64 (y)] 3)) w4 := (Only.refl _ _).grown hg4 (fun _ hj _ => hj)
                    have hne : ∀ jj, (Value.slice A3 (l.length + k) c3).ownBlock = some jj → ∃ cs, Whole (wr.alloc (.cells #[.int .i64 (y)] 3)) jj 3 cs := fun _ hj => (own_whole HA.out hj).2
                    have hF4 : Below w.heap.size (wr.alloc (.cells #[.int .i64 (y)] 3)) w4 := hO4.below (by simp; omega) (fun _ hj => (own_whole HA.out hj).1)
                    have N4 : Hid (RLRun c o ov w b5 l (y) e2 (k + 1) v4 w4) := Lib.hid (by
                      refine ⟨?_, (HI3.out.2.1.below HB.out).ints hO4 hne, (HI3.out.2.2.trans (Fq.of_below HB.out _)).past hF4⟩
                      rw [List.replicate_succ', ← List.append_assoc, iv, List.map_append]
                      exact hown4)
                    clear hown4 hg4 hat4 hO4 hne hF4
                    go_roundw
                    case rel => exact ⟨k + 1, by have := HKT.out; omega, by go_num, N4.out⟩
                    case measure => have := HKT.out; simp [intOf]; omega
                  · have hkt2 : k = t := by omega
                    have d3 : decide (k < t) = false := decide_eq_false (by omega)
                    have d3' : decide ((k : Int) < t) = false := decide_eq_false (by omega)
                    have HKT := Lib.hid hkt2
                    clear hkt hkt2
                    go_wp2_with fail
                    go_roundg (lmeas n (l ++ List.replicate t (y)).length e2)
                    case rel =>
                      have h1 := HI3.out.1
                      have e1 : (l ++ List.replicate t (y)).length = l.length + k := by have := HKT.out; simp; omega
                      have e3 : iv (l ++ List.replicate t (y)) = iv (l ++ List.replicate k (y)) := by rw [HKT.out]
                      refine ⟨b5, l ++ List.replicate t (y), e2, rfl, by simp; omega, by rw [e1, e3]; exact h1, HI3.out.2.1, HI3.out.2.2, ?_, ?_⟩
                      · exact fun h => absurd h he20
                      · exact fun _ => HRr.out
                    case measure => unfold lmeas; rw [if_neg he20, if_pos rfl]; omega
              · have d2 : decide (m < t) = false := decide_eq_false hover
                have d2' : decide ((m : Int) < t) = false := decide_eq_false (by omega)
                have R0 : Hid (RLRun c o ov w b5 l (y) er 0 (.slice (some ⟨rr, 0, none⟩) l.length cp) w5) := Lib.hid ⟨by simpa using O5.out, S5.out, F5.out⟩
                go_wp2_with fail
                go_loopw [7, 11] (fun lv i wr => ∃ k : Nat, k ≤ t ∧ i = .int .i64 k ∧ RLRun c o ov w b5 l (y) er k lv wr) (fun _ i _ => t - (intOf i).toNat)
                case atStart => exact ⟨0, by omega, rfl, R0.out⟩
                case round =>
                  obtain ⟨k, hk, rfl, hin⟩ := hrel
                  obtain ⟨A3, c3, rfl, _⟩ := own_form hin.1
                  have sz : w.heap.size ≤ wr.heap.size := hin.2.2.size
                  have HI3 := Lib.hid hin; clear hin
                  by_cases hkt : k < t
                  · have HB : Hid (Below wr.heap.size wr (wr.alloc (.cells #[.int .i64 (y)] 3))) := Lib.hid ((Below.refl _ _).alloc (Nat.le_refl _) _)
                    have HA := Lib.hid (own_only HI3.out.1 (Only.of_below HB.out Nob) (fun _ _ h => h))
                    have d3 : decide (k < t) = true := decide_eq_true hkt
                    have d3' : decide ((k : Int) < t) = true := decide_eq_true (by omega)
                    have HKT := Lib.hid hkt
                    clear hkt
                    go_wp2_with (at_builtin; refine wpList_append_seen _ rfl (.tmp 69) (.tmp 71) _ rfl w.heap.size 3 i0 _ 1 8 Tryz.underlying54 HI0.out hz0 hz1 hz2 rfl (by omega) (.slice A3 (l.length + k) c3) (l.length + k) _ rfl HA.out _ _ 1 1 _ rfl (seen_one _ _ _) (by simp [Value.oneCell']) (by simp only [maxLen]; omega) (by omega) (by simp only [World.size_alloc]; omega) ?_; intro v4 w4 hown4 hg4 hat4)
                    have hO4 : Only (fun jj => (Value.slice A3 (l.length + k) c3).ownBlock = some jj) (wr.alloc (.cells #[.int .i64 (y)] 3)) w4 := (Only.refl _ _).grown hg4 (fun _ hj _ => hj)
                    have hne : ∀ jj, (Value.slice A3 (l.length + k) c3).ownBlock = some jj → ∃ cs, Whole (wr.alloc (.cells #[.int .i64 (y)] 3)) jj 3 cs := fun _ hj => (own_whole HA.out hj).2
                    have hF4 : Below w.heap.size (wr.alloc (.cells #[.int .i64 (y)] 3)) w4 := hO4.below (by simp; omega) (fun _ hj => (own_whole HA.out hj).1)
                    have N4 : Hid (RLRun c o ov w b5 l (y) er (k + 1) v4 w4) := Lib.hid (by
                      refine ⟨?_, (HI3.out.2.1.below HB.out).ints hO4 hne, (HI3.out.2.2.trans (Fq.of_below HB.out _)).past hF4⟩
                      rw [List.replicate_succ', ← List.append_assoc, iv, List.map_append]
                      exact hown4)
                    clear hown4 hg4 hat4 hO4 hne hF4
                    go_roundw
                    case rel => exact ⟨k + 1, by have := HKT.out; omega, by go_num, N4.out⟩
                    case measure => have := HKT.out; simp [intOf]; omega
                  · have hkt2 : k = t := by omega
                    have d3 : decide (k < t) = false := decide_eq_false (by omega)
                    have d3' : decide ((k : Int) < t) = false := decide_eq_false (by omega)
                    have HKT := Lib.hid hkt2
                    clear hkt hkt2
                    go_wp2_with fail
                    go_roundg (lmeas n (l ++ List.replicate t (y)).length er)
                    case rel =>
                      have h1 := HI3.out.1
                      have e1 : (l ++ List.replicate t (y)).length = l.length + k := by have := HKT.out; simp; omega
                      have e3 : iv (l ++ List.replicate t (y)) = iv (l ++ List.replicate k (y)) := by rw [HKT.out]
                      refine ⟨b5, l ++ List.replicate t (y), er, rfl, by simp; omega, by rw [e1, e3]; exact h1, HI3.out.2.1, HI3.out.2.2, ?_, ?_⟩
                      · intro h0
                        exact ⟨by simp; omega, fun r h => HK.out r (.go (lens_go hnl (M1.out h0) (by omega)) h)⟩
                      · intro h0
                        exact ⟨(M2.out h0).1, HK.out _ (.er (lens_er hnl (M2.out h0).2))⟩
                    case measure =>
                      unfold lmeas
                      rw [if_pos rfl]
                      split <;> simp <;> omega
          · go_wp2_with fail
            refine (rget_any hg ov b' o 3 (by omega) _ S3.out).mono ?_
            rintro r w5 ⟨v, er, b5, rfl, hs5, hf5, hc5⟩
            have S5 := Lib.hid hs5
            have F5 := Lib.hid (F3.out.trans hf5)
            have O5 := Lib.hid (hf5.own O3.out (by decide) (by decide) (by decide))
            have HC5 := Lib.hid hc5
            have hv : v < 8 := by
              rcases hc5 with ⟨_, _, h, _⟩ | ⟨_, h, _⟩
              · exact h
              · omega
            have her : er < 100 := by rcases hc5 with ⟨h, _⟩ | ⟨h, _⟩ <;> omega
            clear hs5 hf5 hc5
            obtain ⟨t, ht⟩ : ∃ t, 3 + v = t := ⟨_, rfl⟩
            have wt : (3 : Int) + v = t := by omega
            have ht1 : 1 ≤ t := by omega
            have ht2 : t ≤ 138 := by omega
            have M1 : Hid (er = 0 → runAt cl c.L b l = .ok (0, t, b5)) := Lib.hid (fun h0 => by
              rcases HC5.out with ⟨_, hb, _, rfl⟩ | ⟨h, _⟩
              · rw [← ht]
                exact run_noughts HSG.out (by omega) hb
              · omega)
            have M2 : Hid (er ≠ 0 → er < 100 ∧ runAt cl c.L b l = .er er) := Lib.hid (fun h0 => by
              rcases HC5.out with ⟨h, _⟩ | ⟨rfl, _, hb⟩
              · exact absurd h h0
              · exact ⟨by omega, run_bits_er HSG.out (by omega) hb⟩)
            clear ht
            obtain ⟨m, hm⟩ : ∃ m, n - l.length = m := ⟨_, rfl⟩
            have wm : (n : Int) - l.length = m := by omega
            have wm2 : IntKind.i64.wrap (m : Int) = m := IntWalk.i64_in _ (by omega)
            by_cases hover : m < t
            · have d2 : decide (m < t) = true := decide_eq_true hover
              have d2' : decide ((m : Int) < t) = true := decide_eq_true (by omega)
              go_wp2_with fail
              refine (rfail_any hg ov b5 o er 2 _ S5.out).mono ?_
              rintro r w8 ⟨rfl, hs8, hf8⟩
              have S8 := Lib.hid hs8; have F8 := Lib.hid (F5.out.trans hf8)
              have O8 := Lib.hid (hf8.own O5.out (by decide) (by decide) (by decide))
              clear hs8 hf8
              obtain ⟨e2, he2⟩ : ∃ e2, (if er = 0 then 2 else er) = e2 := ⟨_, rfl⟩
              rw [he2] at S8
              have he20 : e2 ≠ 0 := by rw [← he2]; split <;> omega
              have HRr : Hid (e2 < 100 ∧ Runs (lensStep cl c.L n) (a, []) (.er e2)) := Lib.hid (by
                rw [← he2]
                by_cases h0 : er = 0
                · rw [if_pos h0]
                  exact ⟨by omega, HK.out _ (.er (lens_form hnl (M1.out h0) (by omega)))⟩
                · rw [if_neg h0]
                  exact ⟨(M2.out h0).1, HK.out _ (.er (lens_er hnl (M2.out h0).2))⟩)
              clear he2
              have R0 : Hid (RLRun c o ov w b5 l (0) e2 0 (.slice A l.length cp) w8) := Lib.hid ⟨by simpa using O8.out, S8.out, F8.out⟩
              go_wp2_with fail
              go_loopw [7, 11] (fun lv i wr => ∃ k : Nat, k ≤ t ∧ i = .int .i64 k ∧ RLRun c o ov w b5 l (0) e2 k lv wr) (fun _ i _ => t - (intOf i).toNat)
              case atStart => exact ⟨0, by omega, rfl, R0.out⟩
              case round =>
                obtain ⟨k, hk, rfl, hin⟩ := hrel
                obtain ⟨A3, c3, rfl, _⟩ := own_form hin.1
                have sz : w.heap.size ≤ wr.heap.size := hin.2.2.size
                have HI3 := Lib.hid hin; clear hin
                by_cases hkt : k < t
                · have HB : Hid (Below wr.heap.size wr (wr.alloc (.cells #[.int .i64 (0)] 3))) := Lib.hid ((Below.refl _ _).alloc (Nat.le_refl _) _)
                  have HA := Lib.hid (own_only HI3.out.1 (Only.of_below HB.out Nob) (fun _ _ h => h))
                  have d3 : decide (k < t) = true := decide_eq_true hkt
                  have d3' : decide ((k : Int) < t) = true := decide_eq_true (by omega)
                  have HKT := Lib.hid hkt
                  clear hkt
                  go_wp2_with (at_builtin; refine wpList_append_seen _ rfl (.tmp 69) (.tmp 71) _ rfl w.heap.size 3 i0 _ 1 8 Tryz.underlying54 HI0.out hz0 hz1 hz2 rfl (by omega) (.slice A3 (l.length + k) c3) (l.length + k) _ rfl HA.out _ _ 1 1 _ rfl (seen_one _ _ _) (by simp [Value.oneCell']) (by simp only [maxLen]; omega) (by omega) (by simp only [World.size_alloc]; omega) ?_; intro v4 w4 hown4 hg4 hat4)
                  have hO4 : Only (fun jj => (Value.slice A3 (l.length + k) c3).ownBlock = some jj) (wr.alloc (.cells #[.int .i64 (0)] 3)) w4 := (Only.refl _ _).grown hg4 (fun _ hj _ => hj)
                  have hne : ∀ jj, (Value.slice A3 (l.length + k) c3).ownBlock = some jj → ∃ cs, Whole (wr.alloc (.cells #[.int .i64 (0)] 3)) jj 3 cs := fun _ hj => (own_whole HA.out hj).2
                  have hF4 : Below w.heap.size (wr.alloc (.cells #[.int .i64 (0)] 3)) w4 := hO4.below (by simp; omega) (fun _ hj => (own_whole HA.out hj).1)
                  have N4 : Hid (RLRun c o ov w b5 l (0) e2 (k + 1) v4 w4) := Lib.hid (by
                    refine ⟨?_, (HI3.out.2.1.below HB.out).ints hO4 hne, (HI3.out.2.2.trans (Fq.of_below HB.out _)).past hF4⟩
                    rw [List.replicate_succ', ← List.append_assoc, iv, List.map_append]
                    exact hown4)
                  clear hown4 hg4 hat4 hO4 hne hF4
                  go_roundw
                  case rel => exact ⟨k + 1, by have := HKT.out; omega, by go_num, N4.out⟩
                  case measure => have := HKT.out; simp [intOf]; omega
                · have hkt2 : k = t := by omega
                  have d3 : decide (k < t) = false := decide_eq_false (by omega)
                  have d3' : decide ((k : Int) < t) = false := decide_eq_false (by omega)
                  have HKT := Lib.hid hkt2
                  clear hkt hkt2
                  go_wp2_with fail
                  go_roundg (lmeas n (l ++ List.replicate t (0)).length e2)
                  case rel =>
                    have h1 := HI3.out.1
                    have e1 : (l ++ List.replicate t (0)).length = l.length + k := by have := HKT.out; simp; omega
                    have e3 : iv (l ++ List.replicate t (0)) = iv (l ++ List.replicate k (0)) := by rw [HKT.out]
                    refine ⟨b5, l ++ List.replicate t (0), e2, rfl, by simp; omega, by rw [e1, e3]; exact h1, HI3.out.2.1, HI3.out.2.2, ?_, ?_⟩
                    · exact fun h => absurd h he20
                    · exact fun _ => HRr.out
                  case measure => unfold lmeas; rw [if_neg he20, if_pos rfl]; omega
            · have d2 : decide (m < t) = false := decide_eq_false hover
              have d2' : decide ((m : Int) < t) = false := decide_eq_false (by omega)
              have R0 : Hid (RLRun c o ov w b5 l (0) er 0 (.slice A l.length cp) w5) := Lib.hid ⟨by simpa using O5.out, S5.out, F5.out⟩
              go_wp2_with fail
              go_loopw [7, 11] (fun lv i wr => ∃ k : Nat, k ≤ t ∧ i = .int .i64 k ∧ RLRun c o ov w b5 l (0) er k lv wr) (fun _ i _ => t - (intOf i).toNat)
              case atStart => exact ⟨0, by omega, rfl, R0.out⟩
              case round =>
                obtain ⟨k, hk, rfl, hin⟩ := hrel
                obtain ⟨A3, c3, rfl, _⟩ := own_form hin.1
                have sz : w.heap.size ≤ wr.heap.size := hin.2.2.size
                have HI3 := Lib.hid hin; clear hin
                by_cases hkt : k < t
                · have HB : Hid (Below wr.heap.size wr (wr.alloc (.cells #[.int .i64 (0)] 3))) := Lib.hid ((Below.refl _ _).alloc (Nat.le_refl _) _)
                  have HA := Lib.hid (own_only HI3.out.1 (Only.of_below HB.out Nob) (fun _ _ h => h))
                  have d3 : decide (k < t) = true := decide_eq_true hkt
                  have d3' : decide ((k : Int) < t) = true := decide_eq_true (by omega)
                  have HKT := Lib.hid hkt
                  clear hkt
                  go_wp2_with (at_builtin; refine wpList_append_seen _ rfl (.tmp 69) (.tmp 71) _ rfl w.heap.size 3 i0 _ 1 8 Tryz.underlying54 HI0.out hz0 hz1 hz2 rfl (by omega) (.slice A3 (l.length + k) c3) (l.length + k) _ rfl HA.out _ _ 1 1 _ rfl (seen_one _ _ _) (by simp [Value.oneCell']) (by simp only [maxLen]; omega) (by omega) (by simp only [World.size_alloc]; omega) ?_; intro v4 w4 hown4 hg4 hat4)
                  have hO4 : Only (fun jj => (Value.slice A3 (l.length + k) c3).ownBlock = some jj) (wr.alloc (.cells #[.int .i64 (0)] 3)) w4 := (Only.refl _ _).grown hg4 (fun _ hj _ => hj)
                  have hne : ∀ jj, (Value.slice A3 (l.length + k) c3).ownBlock = some jj → ∃ cs, Whole (wr.alloc (.cells #[.int .i64 (0)] 3)) jj 3 cs := fun _ hj => (own_whole HA.out hj).2
                  have hF4 : Below w.heap.size (wr.alloc (.cells #[.int .i64 (0)] 3)) w4 := hO4.below (by simp; omega) (fun _ hj => (own_whole HA.out hj).1)
                  have N4 : Hid (RLRun c o ov w b5 l (0) er (k + 1) v4 w4) := Lib.hid (by
                    refine ⟨?_, (HI3.out.2.1.below HB.out).ints hO4 hne, (HI3.out.2.2.trans (Fq.of_below HB.out _)).past hF4⟩
                    rw [List.replicate_succ', ← List.append_assoc, iv, List.map_append]
                    exact hown4)
                  clear hown4 hg4 hat4 hO4 hne hF4
                  go_roundw
                  case rel => exact ⟨k + 1, by have := HKT.out; omega, by go_num, N4.out⟩
                  case measure => have := HKT.out; simp [intOf]; omega
                · have hkt2 : k = t := by omega
                  have d3 : decide (k < t) = false := decide_eq_false (by omega)
                  have d3' : decide ((k : Int) < t) = false := decide_eq_false (by omega)
                  have HKT := Lib.hid hkt2
                  clear hkt hkt2
                  go_wp2_with fail
                  go_roundg (lmeas n (l ++ List.replicate t (0)).length er)
                  case rel =>
                    have h1 := HI3.out.1
                    have e1 : (l ++ List.replicate t (0)).length = l.length + k := by have := HKT.out; simp; omega
                    have e3 : iv (l ++ List.replicate t (0)) = iv (l ++ List.replicate k (0)) := by rw [HKT.out]
                    refine ⟨b5, l ++ List.replicate t (0), er, rfl, by simp; omega, by rw [e1, e3]; exact h1, HI3.out.2.1, HI3.out.2.2, ?_, ?_⟩
                    · intro h0
                      exact ⟨by simp; omega, fun r h => HK.out r (.go (lens_go hnl (M1.out h0) (by omega)) h)⟩
                    · intro h0
                      exact ⟨(M2.out h0).1, HK.out _ (.er (lens_er hnl (M2.out h0).2))⟩
                  case measure =>
                    unfold lmeas
                    rw [if_pos rfl]
                    split <;> simp <;> omega
          · go_wp2_with fail
            refine (rget_any hg ov b' o 7 (by omega) _ S3.out).mono ?_
            rintro r w5 ⟨v, er, b5, rfl, hs5, hf5, hc5⟩
            have S5 := Lib.hid hs5
            have F5 := Lib.hid (F3.out.trans hf5)
            have O5 := Lib.hid (hf5.own O3.out (by decide) (by decide) (by decide))
            have HC5 := Lib.hid hc5
            have hv : v < 128 := by
              rcases hc5 with ⟨_, _, h, _⟩ | ⟨_, h, _⟩
              · exact h
              · omega
            have her : er < 100 := by rcases hc5 with ⟨h, _⟩ | ⟨h, _⟩ <;> omega
            clear hs5 hf5 hc5
            obtain ⟨t, ht⟩ : ∃ t, 11 + v = t := ⟨_, rfl⟩
            have wt : (11 : Int) + v = t := by omega
            have ht1 : 1 ≤ t := by omega
            have ht2 : t ≤ 138 := by omega
            have M1 : Hid (er = 0 → runAt cl c.L b l = .ok (0, t, b5)) := Lib.hid (fun h0 => by
              rcases HC5.out with ⟨_, hb, _, rfl⟩ | ⟨h, _⟩
              · rw [← ht]
                exact run_noughts HSG.out (by omega) hb
              · omega)
            have M2 : Hid (er ≠ 0 → er < 100 ∧ runAt cl c.L b l = .er er) := Lib.hid (fun h0 => by
              rcases HC5.out with ⟨h, _⟩ | ⟨rfl, _, hb⟩
              · exact absurd h h0
              · exact ⟨by omega, run_bits_er HSG.out (by omega) hb⟩)
            clear ht
            obtain ⟨m, hm⟩ : ∃ m, n - l.length = m := ⟨_, rfl⟩
            have wm : (n : Int) - l.length = m := by omega
            have wm2 : IntKind.i64.wrap (m : Int) = m := IntWalk.i64_in _ (by omega)
            by_cases hover : m < t
            · have d2 : decide (m < t) = true := decide_eq_true hover
              have d2' : decide ((m : Int) < t) = true := decide_eq_true (by omega)
              go_wp2_with fail
              refine (rfail_any hg ov b5 o er 2 _ S5.out).mono ?_
              rintro r w8 ⟨rfl, hs8, hf8⟩
              have S8 := Lib.hid hs8; have F8 := Lib.hid (F5.out.trans hf8)
              have O8 := Lib.hid (hf8.own O5.out (by decide) (by decide) (by decide))
              clear hs8 hf8
              obtain ⟨e2, he2⟩ : ∃ e2, (if er = 0 then 2 else er) = e2 := ⟨_, rfl⟩
              rw [he2] at S8
              have he20 : e2 ≠ 0 := by rw [← he2]; split <;> omega
              have HRr : Hid (e2 < 100 ∧ Runs (lensStep cl c.L n) (a, []) (.er e2)) := Lib.hid (by
                rw [← he2]
                by_cases h0 : er = 0
                · rw [if_pos h0]
                  exact ⟨by omega, HK.out _ (.er (lens_form hnl (M1.out h0) (by omega)))⟩
                · rw [if_neg h0]
                  exact ⟨(M2.out h0).1, HK.out _ (.er (lens_er hnl (M2.out h0).2))⟩)
              clear he2
              have R0 : Hid (RLRun c o ov w b5 l (0) e2 0 (.slice A l.length cp) w8) := Lib.hid ⟨by simpa using O8.out, S8.out, F8.out⟩
              go_wp2_with fail
              go_loopw [7, 11] (fun lv i wr => ∃ k : Nat, k ≤ t ∧ i = .int .i64 k ∧ RLRun c o ov w b5 l (0) e2 k lv wr) (fun _ i _ => t - (intOf i).toNat)
              case atStart => exact ⟨0, by omega, rfl, R0.out⟩
              case round =>
                obtain ⟨k, hk, rfl, hin⟩ := hrel
                obtain ⟨A3, c3, rfl, _⟩ := own_form hin.1
                have sz : w.heap.size ≤ wr.heap.size := hin.2.2.size
                have HI3 := Lib.hid hin; clear hin
                by_cases hkt : k < t
                · have HB : Hid (Below wr.heap.size wr (wr.alloc (.cells #[.int .i64 (0)] 3))) := Lib.hid ((Below.refl _ _).alloc (Nat.le_refl _) _)
                  have HA := Lib.hid (own_only HI3.out.1 (Only.of_below HB.out Nob) (fun _ _ h => h))
                  have d3 : decide (k < t) = true := decide_eq_true hkt
                  have d3' : decide ((k : Int) < t) = true := decide_eq_true (by omega)
                  have HKT := Lib.hid hkt
                  clear hkt
                  go_wp2_with (at_builtin; refine wpList_append_seen _ rfl (.tmp 69) (.tmp 71) _ rfl w.heap.size 3 i0 _ 1 8 Tryz.underlying54 HI0.out hz0 hz1 hz2 rfl (by omega) (.slice A3 (l.length + k) c3) (l.length + k) _ rfl HA.out _ _ 1 1 _ rfl (seen_one _ _ _) (by simp [Value.oneCell']) (by simp only [maxLen]; omega) (by omega) (by simp only [World.size_alloc]; omega) ?_; intro v4 w4 hown4 hg4 hat4)
                  have hO4 : Only (fun jj => (Value.slice A3 (l.length + k) c3).ownBlock = some jj) (wr.alloc (.cells #[.int .i64 (0)] 3)) w4 := (Only.refl _ _).grown hg4 (fun _ hj _ => hj)
                  have hne : ∀ jj, (Value.slice A3 (l.length + k) c3).ownBlock = some jj → ∃ cs, Whole (wr.alloc (.cells #[.int .i64 (0)] 3)) jj 3 cs := fun _ hj => (own_whole HA.out hj).2
                  have hF4 : Below w.heap.size (wr.alloc (.cells #[.int .i64 (0)] 3)) w4 := hO4.below (by simp; omega) (fun _ hj => (own_whole HA.out hj).1)
                  have N4 : Hid (RLRun c o ov w b5 l (0) e2 (k + 1) v4 w4) := Lib.hid (by
                    refine ⟨?_, (HI3.out.2.1.below HB.out).ints hO4 hne, (HI3.out.2.2.trans (Fq.of_below HB.out _)).past hF4⟩
                    rw [List.replicate_succ', ← List.append_assoc, iv, List.map_append]
                    exact hown4)
                  clear hown4 hg4 hat4 hO4 hne hF4
                  go_roundw
                  case rel => exact ⟨k + 1, by have := HKT.out; omega, by go_num, N4.out⟩
                  case measure => have := HKT.out; simp [intOf]; omega
                · have hkt2 : k = t := by omega
                  have d3 : decide (k < t) = false := decide_eq_false (by omega)
                  have d3' : decide ((k : Int) < t) = false := decide_eq_false (by omega)
                  have HKT := Lib.hid hkt2
                  clear hkt hkt2
                  go_wp2_with fail
                  go_roundg (lmeas n (l ++ List.replicate t (0)).length e2)
                  case rel =>
                    have h1 := HI3.out.1
                    have e1 : (l ++ List.replicate t (0)).length = l.length + k := by have := HKT.out; simp; omega
                    have e3 : iv (l ++ List.replicate t (0)) = iv (l ++ List.replicate k (0)) := by rw [HKT.out]
                    refine ⟨b5, l ++ List.replicate t (0), e2, rfl, by simp; omega, by rw [e1, e3]; exact h1, HI3.out.2.1, HI3.out.2.2, ?_, ?_⟩
                    · exact fun h => absurd h he20
                    · exact fun _ => HRr.out
                  case measure => unfold lmeas; rw [if_neg he20, if_pos rfl]; omega
            · have d2 : decide (m < t) = false := decide_eq_false hover
              have d2' : decide ((m : Int) < t) = false := decide_eq_false (by omega)
              have R0 : Hid (RLRun c o ov w b5 l (0) er 0 (.slice A l.length cp) w5) := Lib.hid ⟨by simpa using O5.out, S5.out, F5.out⟩
              go_wp2_with fail
              go_loopw [7, 11] (fun lv i wr => ∃ k : Nat, k ≤ t ∧ i = .int .i64 k ∧ RLRun c o ov w b5 l (0) er k lv wr) (fun _ i _ => t - (intOf i).toNat)
              case atStart => exact ⟨0, by omega, rfl, R0.out⟩
              case round =>
                obtain ⟨k, hk, rfl, hin⟩ := hrel
                obtain ⟨A3, c3, rfl, _⟩ := own_form hin.1
                have sz : w.heap.size ≤ wr.heap.size := hin.2.2.size
                have HI3 := Lib.hid hin; clear hin
                by_cases hkt : k < t
                · have HB : Hid (Below wr.heap.size wr (wr.alloc (.cells #[.int .i64 (0)] 3))) := Lib.hid ((Below.refl _ _).alloc (Nat.le_refl _) _)
                  have HA := Lib.hid (own_only HI3.out.1 (Only.of_below HB.out Nob) (fun _ _ h => h))
                  have d3 : decide (k < t) = true := decide_eq_true hkt
                  have d3' : decide ((k : Int) < t) = true := decide_eq_true (by omega)
                  have HKT := Lib.hid hkt
                  clear hkt
                  go_wp2_with (at_builtin; refine wpList_append_seen _ rfl (.tmp 69) (.tmp 71) _ rfl w.heap.size 3 i0 _ 1 8 Tryz.underlying54 HI0.out hz0 hz1 hz2 rfl (by omega) (.slice A3 (l.length + k) c3) (l.length + k) _ rfl HA.out _ _ 1 1 _ rfl (seen_one _ _ _) (by simp [Value.oneCell']) (by simp only [maxLen]; omega) (by omega) (by simp only [World.size_alloc]; omega) ?_; intro v4 w4 hown4 hg4 hat4)
                  have hO4 : Only (fun jj => (Value.slice A3 (l.length + k) c3).ownBlock = some jj) (wr.alloc (.cells #[.int .i64 (0)] 3)) w4 := (Only.refl _ _).grown hg4 (fun _ hj _ => hj)
                  have hne : ∀ jj, (Value.slice A3 (l.length + k) c3).ownBlock = some jj → ∃ cs, Whole (wr.alloc (.cells #[.int .i64 (0)] 3)) jj 3 cs := fun _ hj => (own_whole HA.out hj).2
                  have hF4 : Below w.heap.size (wr.alloc (.cells #[.int .i64 (0)] 3)) w4 := hO4.below (by simp; omega) (fun _ hj => (own_whole HA.out hj).1)
                  have N4 : Hid (RLRun c o ov w b5 l (0) er (k + 1) v4 w4) := Lib.hid (by
                    refine ⟨?_, (HI3.out.2.1.below HB.out).ints hO4 hne, (HI3.out.2.2.trans (Fq.of_below HB.out _)).past hF4⟩
                    rw [List.replicate_succ', ← List.append_assoc, iv, List.map_append]
                    exact hown4)
                  clear hown4 hg4 hat4 hO4 hne hF4
                  go_roundw
                  case rel => exact ⟨k + 1, by have := HKT.out; omega, by go_num, N4.out⟩
                  case measure => have := HKT.out; simp [intOf]; omega
                · have hkt2 : k = t := by omega
                  have d3 : decide (k < t) = false := decide_eq_false (by omega)
                  have d3' : decide ((k : Int) < t) = false := decide_eq_false (by omega)
                  have HKT := Lib.hid hkt2
                  clear hkt hkt2
                  go_wp2_with fail
                  go_roundg (lmeas n (l ++ List.replicate t (0)).length er)
                  case rel =>
                    have h1 := HI3.out.1
                    have e1 : (l ++ List.replicate t (0)).length = l.length + k := by have := HKT.out; simp; omega
                    have e3 : iv (l ++ List.replicate t (0)) = iv (l ++ List.replicate k (0)) := by rw [HKT.out]
                    refine ⟨b5, l ++ List.replicate t (0), er, rfl, by simp; omega, by rw [e1, e3]; exact h1, HI3.out.2.1, HI3.out.2.2, ?_, ?_⟩
                    · intro h0
                      exact ⟨by simp; omega, fun r h => HK.out r (.go (lens_go hnl (M1.out h0) (by omega)) h)⟩
                    · intro h0
                      exact ⟨(M2.out h0).1, HK.out _ (.er (lens_er hnl (M2.out h0).2))⟩
                  case measure =>
                    unfold lmeas
                    rw [if_pos rfl]
                    split <;> simp <;> omega
      · have hE : l.length = n := by omega
        have d1 : decide (l.length < n) = false := decide_eq_false hlt
        have HE := Lib.hid hE
        go_wp2_with fail
        go_ret
        refine ⟨_, rfl, HIn.out.2.2.2.1, .inl ⟨b, l, HK.out _ (.fin (lens_fin (by omega))), hE, ?_, HIn.out.2.2.1⟩⟩
        rw [← HE.out]
        exact HIn.out.2.1
    · obtain ⟨e1, hrun⟩ := HIn.out.2.2.2.2.2 he
      have HRun := Lib.hid hrun; clear hrun
      have z2 : ((e : Int) == 0) = false := by simp; omega
      have z3 : ¬ (e : Int) = 0 := by omega
      have z4 : (e == 0) = false := by simpa using he
      by_cases hlt : l.length < n
      · have d1 : decide (l.length < n) = true := decide_eq_true hlt
        go_wp2_with fail
        go_ret
        exact ⟨_, rfl, HIn.out.2.2.2.1, .inr ⟨e, b, by omega, e1, HRun.out, ⟨_, _, _, rfl⟩, HIn.out.2.2.1⟩⟩
      · have d1 : decide (l.length < n) = false := decide_eq_false hlt
        go_wp2_with fail
        go_ret
        exact ⟨_, rfl, HIn.out.2.2.2.1, .inr ⟨e, b, by omega, e1, HRun.out, ⟨_, _, _, rfl⟩, HIn.out.2.2.1⟩⟩
end Go.Proofs.YtkjhefjjacokjaaGreat
