/-
  The contract of lengths: so many lengths in runs. Conditions: the state stands as told (StAt), its things are where they should be (Cx.Good), the code is right and has 19 signs.
-/
import Derived.Test.YtobchlakjgeadaaT9
namespace Go.Proofs.Ytobchlakjgeadaa
open Go.RowKit
set_option maxRecDepth 100000

def LensRes (c : Cx) (cl : List Int) (n a : Nat) (o : List Nat) (ov p q : Value) (w : World) (e : Ending) (w' : World) : Prop :=
  (∃ a' l v, Runs (lensStep cl c.L n) (a, []) (.ok (a', l)) ∧ a ≤ a' ∧ l.length = n ∧ e = .returned (.tuple #[v, .int .i64 0]) ∧ w'.ownsRow w.heap.size 3 1 v n (iv l) ∧ StAt c w' ov p q a' o ∧ Fr c.B0 w w') ∨
  (∃ er : Nat, 0 < er ∧ er < 100 ∧ Runs (lensStep cl c.L n) (a, []) (.er er) ∧ e = .returned (.tuple #[.slice none 0 0, .int .i64 er]) ∧ Fr c.B0 w w')

def LensIn (c : Cx) (cl : List Int) (n a : Nat) (o : List Nat) (ov p q : Value) (w : World) (b : Nat) (l : List Int) (v : Value) (wr : World) : Prop :=
  a ≤ b ∧ l.length ≤ n ∧ wr.ownsRow w.heap.size 3 1 v l.length (iv l) ∧ StAt c wr ov p q b o ∧ Fr c.B0 w wr ∧ (∀ r, Runs (lensStep cl c.L n) (b, l) r → Runs (lensStep cl c.L n) (a, []) r)

/-- Within a run: t of its lengths have been put down. -/
def LensRun (c : Cx) (o : List Nat) (ov p q : Value) (w : World) (b : Nat) (l : List Int) (x : Int) (t : Nat) (v : Value) (wr : World) : Prop :=
  wr.ownsRow w.heap.size 3 1 v (l.length + t) (iv (l ++ List.replicate t x)) ∧ StAt c wr ov p q b o ∧ Fr c.B0 w wr

theorem Fr.past {B : Nat} {a b c : World} (h : Fr B a b) (k : Below a.heap.size b c) : Fr B a c :=
  ⟨k.os.trans h.os, k.tape.trans h.tape, k.output.trans h.output, Nat.le_trans h.size k.size, fun i hi => by rw [k.block i hi]; exact h.block i hi⟩

/-- A row of numbers has grown, that came behind the state. -/
theorem StAt.ints {c : Cx} {w w1 w2 : World} {ov p q : Value} {a : Nat} {o : List Nat} {S : Nat → Prop} (h0 : Fx w c.B1 p q) (hf : Fr c.B0 w w2) (h : StAt c w1 ov p q a o) (hO : Only S w1 w2) (hS : ∀ j, S j → ∃ cs, Whole w1 j 3 cs) : StAt c w2 ov p q a o := by
  have n1 : ∀ {g : Nat} {t : TypeId} {cs : Array Value}, Whole w1 g t cs → t ≠ 3 → ¬ S g := fun hw ht hs => by
    obtain ⟨cs, h2⟩ := hS _ hs
    exact hw.ne h2 ht rfl
  have n2 : ∀ {B : Nat} {v : Value} {n : Nat} {xs : List Value}, w1.ownsRow B 5 1 v n xs → ∀ k, v.ownBlock = some k → ¬ S k := fun ho k hk hs => by
    obtain ⟨cs, h2⟩ := hS _ hs
    obtain ⟨_, cs', h3⟩ := own_whole ho hk
    exact h3.ne h2 (by decide) rfl
  exact ⟨h.st.only hO (n1 h.st (by decide)), h.rd.only hO (n1 h.rd.2.1 (by decide)) (n2 h.rd.2.2), own_only h.out hO (n2 h.out), h0.keep (fun h => hf.code h), Nat.le_trans h.size hO.size, h.place, h.room⟩

def lenV : Value → Nat
  | .slice _ n _ => n
  | _ => 0

theorem lens_fin {cl : List Int} {L : List Bool} {n b : Nat} {l : List Int} (h : n ≤ l.length) : lensStep cl L n (b, l) = .fin (b, l) := by
  unfold lensStep; rw [if_pos h]
theorem lens_er {cl : List Int} {L : List Bool} {n b er : Nat} {l : List Int} (h : ¬ n ≤ l.length) (hr : runAt cl L b l = .er er) : lensStep cl L n (b, l) = .er er := by
  unfold lensStep; rw [if_neg h, hr]
theorem lens_form {cl : List Int} {L : List Bool} {n b t b' : Nat} {l : List Int} {x : Int} (h : ¬ n ≤ l.length) (hr : runAt cl L b l = .ok (x, t, b')) (ht : n - l.length < t) : lensStep cl L n (b, l) = .er 2 := by
  unfold lensStep; rw [if_neg h, hr]; simp only; rw [if_pos ht]
theorem lens_go {cl : List Int} {L : List Bool} {n b t b' : Nat} {l : List Int} {x : Int} (h : ¬ n ≤ l.length) (hr : runAt cl L b l = .ok (x, t, b')) (ht : ¬ n - l.length < t) : lensStep cl L n (b, l) = .go (b', l ++ List.replicate t x) := by
  unfold lensStep; rw [if_neg h, hr]; simp only; rw [if_neg ht]

set_option maxHeartbeats 1000000 in
theorem lengths_any {c : Cx} (hg : c.Good) (ov p q : Value) (a : Nat) (o : List Nat) (lo g : Nat) (cl : List Int) (hn : cl.length = 19) (hr : kindOf cl ≠ 0) (n : Nat) (hn1 : n ≤ 1000) (w : World) (hc : CodeOwn w lo g cl 19) (h : StAt c w ov p q a o) :
    Calls Try.prog 56 #[.pointer (some ⟨c.gs, 0, none⟩), .pointer (some ⟨g, 0, none⟩), .int .i64 n] w (LensRes c cl n a o ov p q w) := by
  obtain ⟨i0, hi0, hz0, hz1, hz2⟩ := info_parts int_info
  have H := Lib.hid h; clear h
  have HC := Lib.hid hc; clear hc
  have HN := Lib.hid hn; clear hn
  have HR := Lib.hid hr; clear hr
  unfold LensRes
  go_enter Try.func56, Try.ntmps56
  go_wp2_with (refine wpList_make_own _ rfl (.const (.int .i64 0)) (.tmp 12) 30 rfl w.heap.size 3 i0 _ 1 Try.underlying30 hi0 hz0 hz1 .i64 .i64 n n rfl rfl rfl (by rw [hz2]; omega) (by simp only [maxLen]; omega) (Nat.le_refl _) ?_; intro w1 hown1 hg1)
  have hb1 : Below w.heap.size w w1 := ⟨hg1.os, hg1.tape, hg1.output, hg1.size, fun k hk => hg1.block k hk (by simp)⟩
  have H0 : Hid (LensIn c cl n a o ov p q w a [] (.slice (some ⟨w.heap.size, 0, none⟩) 0 n) w1) := Lib.hid ⟨Nat.le_refl _, by simp, hown1, H.out.below hb1, Fr.of_below hb1 _, fun _ h => h⟩
  clear hown1 hg1 hb1
  go_loopw [8] (fun lv wr => ∃ (b : Nat) (l : List Int), LensIn c cl n a o ov p q w b l lv wr) (fun lv _ => n - lenV lv)
  case atStart => exact ⟨a, [], H0.out⟩
  case round =>
    obtain ⟨b, l, hin⟩ := hrel
    obtain ⟨A, cp, rfl, _⟩ := own_form hin.2.2.1
    have hln := hin.2.1
    have hab := hin.1
    have HIn := Lib.hid hin; clear hin
    by_cases hlt : l.length < n
    · have hnl : ¬ n ≤ l.length := by omega
      have d1 : decide (l.length < n) = true := decide_eq_true hlt
      go_wp2_with fail
      refine (run_any hg ov p q b o lo g cl HN.out HR.out l w.heap.size A cp (by omega) wr (HIn.out.2.2.2.2.1.code HC.out) HIn.out.2.2.1 HIn.out.2.2.2.1).mono ?_
      rintro e w2 (⟨x, t, b', hrun, hbb, ht1, ht2, rfl, hs2, hf2⟩ | ⟨er, e0, e1, hrun, rfl, hf2⟩)
      · have HRun := Lib.hid hrun
        have S2 := Lib.hid hs2
        have F2 := Lib.hid (HIn.out.2.2.2.2.1.trans hf2)
        have O2 := Lib.hid (hf2.own HIn.out.2.2.1 (by decide) (by decide) (by decide))
        have HK := Lib.hid HIn.out.2.2.2.2.2
        clear hrun hs2 hf2 HIn
        obtain ⟨m, hm⟩ : ∃ m, n - l.length = m := ⟨_, rfl⟩
        have wm : (n : Int) - l.length = m := by omega
        have wm2 : IntKind.i64.wrap (m : Int) = m := IntWalk.i64_in _ (by omega)
        by_cases hover : m < t
        · have d2 : decide (m < t) = true := decide_eq_true hover
          go_wp2_with fail
          go_ret2
          exact .inr ⟨2, by omega, by omega, HK.out _ (.er (lens_form hnl HRun.out (by omega))), rfl, F2.out⟩
        · have d2 : decide (m < t) = false := decide_eq_false hover
          have R0 : Hid (LensRun c o ov p q w b' l x 0 (.slice A l.length cp) w2) := Lib.hid ⟨by simpa using O2.out, S2.out, F2.out⟩
          go_wp2_with fail
          go_loopw [8, 36] (fun lv i wr => ∃ k : Nat, k ≤ t ∧ i = .int .i64 k ∧ LensRun c o ov p q w b' l x k lv wr) (fun _ i _ => t - (intOf i).toNat)
          case atStart => exact ⟨0, by omega, rfl, R0.out⟩
          case round =>
            obtain ⟨k, hk, rfl, hin⟩ := hrel
            obtain ⟨A3, c3, rfl, _⟩ := own_form hin.1
            have sz : w.heap.size ≤ wr.heap.size := hin.2.2.size
            have HI3 := Lib.hid hin; clear hin
            by_cases hkt : k < t
            · have HB : Hid (Below wr.heap.size wr (wr.alloc (.cells #[.int .i64 x] 3))) := Lib.hid ((Below.refl _ _).alloc (Nat.le_refl _) _)
              have HA := Lib.hid (own_only HI3.out.1 (Only.of_below HB.out Nob) (fun _ _ h => h))
              have d3 : decide (k < t) = true := decide_eq_true hkt
              go_wp2_with (at_builtin; refine wpList_append_seen _ rfl (.tmp 38) (.tmp 40) _ rfl w.heap.size 3 i0 _ 1 8 Try.underlying30 hi0 hz0 hz1 hz2 rfl (by omega) (.slice A3 (l.length + k) c3) (l.length + k) _ rfl HA.out _ _ 1 1 _ rfl (seen_one _ _ _) (by simp [Value.oneCell']) (by simp only [maxLen]; omega) (by omega) (by simp only [World.size_alloc]; omega) ?_; intro v4 w4 hown4 hg4 hat4)
              have hO4 : Only (fun j => (Value.slice A3 (l.length + k) c3).ownBlock = some j) (wr.alloc (.cells #[.int .i64 x] 3)) w4 := (Only.refl _ _).grown hg4 (fun j hj _ => hj)
              have hne : ∀ j, (Value.slice A3 (l.length + k) c3).ownBlock = some j → ∃ cs, Whole (wr.alloc (.cells #[.int .i64 x] 3)) j 3 cs := fun j hj => (own_whole HA.out hj).2
              have hF4 : Below w.heap.size (wr.alloc (.cells #[.int .i64 x] 3)) w4 := hO4.below (by simp; omega) (fun j hj => (own_whole HA.out hj).1)
              have hF5 : Fr c.B0 w w4 := (HI3.out.2.2.trans (Fr.of_below HB.out _)).past hF4
              have N4 : Hid (LensRun c o ov p q w b' l x (k + 1) v4 w4) := Lib.hid (by
                refine ⟨?_, StAt.ints H.out.fx hF5 (HI3.out.2.1.below HB.out) hO4 hne, hF5⟩
                rw [List.replicate_succ', ← List.append_assoc, iv, List.map_append]
                exact hown4)
              clear hown4 hg4 hat4 hO4 hne hF4 hF5
              go_roundw
              case rel => exact ⟨k + 1, by omega, by go_num, N4.out⟩
              case measure => simp [intOf]; omega
            · obtain rfl : k = t := by omega
              have d3 : decide (k < k) = false := decide_eq_false (by omega)
              go_wp2_with fail
              go_roundw
              case rel =>
                have h1 := HI3.out.1
                rw [show l.length + k = (l ++ List.replicate k x).length by simp] at h1
                exact ⟨b', l ++ List.replicate k x, by omega, by simp; omega, by simpa using h1, HI3.out.2.1, HI3.out.2.2, fun r h => HK.out r (.go (lens_go hnl HRun.out (by omega)) h)⟩
              case measure => simp [lenV]; omega
      · have HRun := Lib.hid hrun
        have F2 := Lib.hid (HIn.out.2.2.2.2.1.trans hf2)
        clear hrun hf2
        have e2 : ((er : Int) == 0) = false := by simp; omega
        have e3 : ¬ (er : Int) = 0 := by omega
        have e4 : (er == 0) = false := by simp; omega
        go_wp2_with fail
        go_ret2
        exact .inr ⟨er, e0, e1, HIn.out.2.2.2.2.2 _ (.er (lens_er hnl HRun.out)), rfl, F2.out⟩
    · have hE : l.length = n := by omega
      have d1 : decide (l.length < n) = false := decide_eq_false hlt
      go_wp2_with fail
      go_ret2
      exact .inl ⟨b, l, _, HIn.out.2.2.2.2.2 _ (.fin (lens_fin (by omega))), hab, hE, rfl, by rw [← hE]; exact HIn.out.2.2.1, HIn.out.2.2.2.1, HIn.out.2.2.2.2.1⟩
end Go.Proofs.Ytobchlakjgeadaa
