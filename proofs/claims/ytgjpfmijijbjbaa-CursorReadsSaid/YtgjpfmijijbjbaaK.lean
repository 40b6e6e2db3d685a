/-
  Contracts of the reader: Take. Conditions: the reader stands as told (ReaderAt), over at most a million bytes.
-/
import Derived.Test.YtgjpfmijijbjbaaR
namespace Go.Proofs.Ytgjpfmijijbjbaa
open Go.RowKit

theorem take_nil (n : Int) (w : World) : Calls Try.prog 23 #[.pointer none, .int .i64 n] w fun e w' => e = .returned (.tuple #[.slice none 0 0, .int .i64 1]) ∧ w = w' := by
  go_enter Try.func23, Try.ntmps23
  go_wp2
  go_ret2
  exact ⟨rfl, rfl⟩

theorem take_neg (g : Nat) (n : Int) (h : n < 0) (w : World) : Calls Try.prog 23 #[.pointer (some ⟨g, 0, none⟩), .int .i64 n] w fun e w' => e = .returned (.tuple #[.slice none 0 0, .int .i64 1]) ∧ w = w' := by
  go_enter Try.func23, Try.ntmps23
  go_wp2
  go_ret2
  exact ⟨rfl, rfl⟩

theorem take_end (B g : Nat) (sv : Value) (bs : List Nat) (a : Nat) (n : Int) (w : World) (h : ReaderAt w B g sv bs a) (hb : bs.length ≤ 1000000) (ha : a ≤ 8 * bs.length)
    (hn : 0 ≤ n) (hl : (bs.length : Int) - ((a + 7) / 8 : Nat) < n) :
    Calls Try.prog 23 #[.pointer (some ⟨g, 0, none⟩), .int .i64 n] w fun e w' => e = .returned (.tuple #[.slice none 0 0, .int .i64 6]) ∧ GetPost w B g sv bs ((a + 7) / 8 * 8) w' := by
  have H := Lib.hid h; clear h
  have hgt : decide (((8 * bs.length - (a + 7) / 8 * 8 : Nat) : Int) / 8 < n) = true := by simp; omega
  go_enter Try.func23, Try.ntmps23
  go_wp2_with (first | (go_at_call 21; refine (readerAlign_any B g sv bs a _ H.out hb ha).mono ?_; rintro e w' ⟨rfl, hR, hO⟩) | (go_at_call 25; refine (left_any B g sv bs _ _ hR hb (by omega)).mono ?_; rintro e w' ⟨rfl, rfl⟩))
  go_ret2
  exact ⟨rfl, hR, hO.drew⟩

def TakePost (w : World) (B g : Nat) (sv : Value) (bs : List Nat) (a n : Nat) (xs : List Nat) (e : Ending) (w' : World) : Prop :=
  ∃ v, e = .returned (.tuple #[v, .int .i64 0]) ∧ w'.ownsRow w.heap.size 5 1 v n (xs.map fun x : Nat => Value.int .u8 x) ∧ GetPost w B g sv bs a w'

theorem Seen.cut {w : World} {B : Nat} {A : Option Addr} {len c q n : Nat} {xs : List Value} (h : Seen w B 1 A len c xs) (hq : q + n ≤ len) : Seen w B 1 (Option.map (fun x => x.add q) A) n (c - q) ((xs.drop q).take n) := by
  obtain ⟨h1, h2, h3⟩ := h
  refine ⟨by simp; omega, by omega, ?_⟩
  rcases h3 with ⟨rfl, rfl⟩ | ⟨⟨b, o, s⟩, rfl, h3⟩
  · exact .inl ⟨rfl, by omega⟩
  · refine .inr ⟨_, rfl, fun hx => ?_⟩
    obtain ⟨g1, g2, g3⟩ := h3 (by rintro rfl; simp at hx)
    simp only at g1 g2 g3
    subst g1
    simp only [Addr.add_lit]
    refine ⟨trivial, g2, fun j u hu => ?_⟩
    rw [Nat.add_assoc]
    refine g3 _ u ?_
    rw [List.getElem?_take] at hu
    split at hu
    · rw [← hu, List.getElem?_drop]
    · cases hu
theorem Seen.empty {w : World} {B : Nat} {A : Option Addr} {len c : Nat} {xs : List Value} (h : Seen w B 1 A len c xs) : Seen w B 1 A 0 0 [] := by
  obtain ⟨h1, h2, h3⟩ := h
  refine ⟨rfl, Nat.le_refl _, ?_⟩
  rcases h3 with ⟨rfl, _⟩ | ⟨a, rfl, h3⟩
  · exact .inl ⟨rfl, rfl⟩
  · exact .inr ⟨a, rfl, fun hx => absurd rfl hx⟩

def TakeRow (w : World) (B g : Nat) (sv : Value) (bs : List Nat) (a : Nat) (v : Value) (n : Nat) (xs : List Nat) (w' : World) : Prop :=
  w'.ownsRow w.heap.size 5 1 v n (xs.map fun x : Nat => Value.int .u8 x) ∧ GetPost w B g sv bs a w'

theorem take_yes (B g : Nat) (sv : Value) (bs : List Nat) (a n : Nat) (w : World) (h : ReaderAt w B g sv bs a) (hb : bs.length ≤ 1000000)
    (hl : (a + 7) / 8 + n ≤ bs.length) :
    Calls Try.prog 23 #[.pointer (some ⟨g, 0, none⟩), .int .i64 n] w (TakePost w B g sv bs ((a + 7) / 8 * 8 + 8 * n) n ((bs.drop ((a + 7) / 8)).take n)) := by
  obtain ⟨A, c, rfl, hcm⟩ := own_form h.2.2
  have hlc : bs.length ≤ c := (Seen.of_own h.2.2).2.1
  unfold maxLen at hcm
  have H := Lib.hid h; clear h
  obtain ⟨q, hq⟩ : ∃ q, (a + 7) / 8 = q := ⟨_, rfl⟩
  have hgt : decide (((8 * bs.length - q * 8 : Nat) : Int) / 8 < n) = false := by simp; omega
  have e1 : ((q * 8 : Nat) : Int) / 8 = q := by omega
  have hn0 : decide ((n : Int) < 0) = false := by simp
  rw [hq]
  have hq2 : q ≤ bs.length := by omega
  have ha : a ≤ 8 * bs.length := by omega
  rw [hq] at hl
  have HQ := Lib.hid hq; clear hq
  by_cases hcq : c = q
  · subst hcq
    obtain rfl : n = 0 := by omega
    go_enter Try.func23, Try.ntmps23
    go_wp2_with (first | (go_at_call 21; refine (readerAlign_any B g _ bs a _ H.out hb ha).mono ?_; rintro e w1 ⟨rfl, hR, hO⟩; rw [HQ.out] at hR; obtain ⟨hBg, hWh, hown⟩ := hR; have c0 : w1.cell? ⟨g, 0, none⟩ = some (.slice A bs.length c) := (by simpa using hWh.cell 0); have c1 : w1.cell? ⟨g, 1, none⟩ = some (.int .i64 ((c * 8 : Nat) : Int)) := (by simpa using hWh.cell 1); have f1 := hWh.frozen 1) | (go_at_call 25; refine (left_any B g _ bs _ _ ⟨hBg, hWh, hown⟩ hb (by omega)).mono ?_; rintro e w' ⟨rfl, rfl⟩) | (go_at_call 48; fail))
    have hO1 := ((Only.refl (fun k => k = g) w1).setCell (p := ⟨g, 1, none⟩) (.inl rfl) (.int .i64 ((c : Int) * 8))).drew
    have hW1 := (hWh.put 1 (.int .i64 ((c : Int) * 8))).drew
    have hown1 := own_only hown hO1 (fun k hk => own_ne_whole hown hWh (by decide) k hk)
    have hO2 : Only (fun k => k = g) w (w1.setCell ⟨g, 1, none⟩ (.int .i64 ((c : Int) * 8))).drew := hO.trans hO1
    have hsz := hO2.size
    have hlt := hW1.lt
    have hs1 := Seen.of_own hown1
    generalize (w1.setCell ⟨g, 1, none⟩ (.int .i64 ((c : Int) * 8))).drew = W at *
    refine (clone_any A 0 0 W.heap.size [] W (hs1.empty) (Nat.le_refl _) ?_ (by omega)).mono ?_
    · intro u hu
      simp at hu
    rintro e w2 ⟨v, rfl, hown2, hbel⟩
    go_wp2
    go_ret2
    have hne := own_ne_whole hown1 hW1 (by decide)
    have hO3 := hO2.trans (Only.of_below hbel (fun k => k = g))
    refine ⟨v, rfl, ?_, ⟨hBg, ?_, own_only hown1 (Only.of_below hbel Nob) (fun _ _ h => h)⟩, hO3⟩
    · refine own_base ?_ hsz
      simpa using hown2
    · have h3 := hW1.only (Only.of_below hbel Nob) (fun h => h)
      simpa using h3
  · have hcq1 : (c = q) = False := by simp [hcq]
    go_enter Try.func23, Try.ntmps23
    go_wp2_with (first | (go_at_call 21; refine (readerAlign_any B g _ bs a _ H.out hb ha).mono ?_; rintro e w1 ⟨rfl, hR, hO⟩; rw [HQ.out] at hR; obtain ⟨hBg, hWh, hown⟩ := hR; have c0 : w1.cell? ⟨g, 0, none⟩ = some (.slice A bs.length c) := (by simpa using hWh.cell 0); have c1 : w1.cell? ⟨g, 1, none⟩ = some (.int .i64 ((q * 8 : Nat) : Int)) := (by simpa using hWh.cell 1); have f1 := hWh.frozen 1) | (go_at_call 25; refine (left_any B g _ bs _ _ ⟨hBg, hWh, hown⟩ hb (by omega)).mono ?_; rintro e w' ⟨rfl, rfl⟩) | (go_at_call 48; fail))
    have hO1 := ((Only.refl (fun k => k = g) w1).setCell (p := ⟨g, 1, none⟩) (.inl rfl) (.int .i64 ((q : Int) * 8 + 8 * n))).drew
    have hW1 := (hWh.put 1 (.int .i64 ((q : Int) * 8 + 8 * n))).drew
    have hown1 := own_only hown hO1 (fun k hk => own_ne_whole hown hWh (by decide) k hk)
    have hO2 : Only (fun k => k = g) w (w1.setCell ⟨g, 1, none⟩ (.int .i64 ((q : Int) * 8 + 8 * n))).drew := hO.trans hO1
    have hsz := hO2.size
    have hlt := hW1.lt
    have hs1 := Seen.of_own hown1
    generalize (w1.setCell ⟨g, 1, none⟩ (.int .i64 ((q : Int) * 8 + 8 * n))).drew = W at *
    refine (clone_any (Option.map (fun x => x.add q) A) n (c - q) W.heap.size _ W (hs1.cut hl) (Nat.le_refl _) ?_ (by omega)).mono ?_
    · intro u hu
      exact bytes_oneCell bs u (List.mem_of_mem_drop (List.mem_of_mem_take hu))
    rintro e w2 ⟨v, rfl, hown2, hbel⟩
    go_wp2
    go_ret2
    have hne := own_ne_whole hown1 hW1 (by decide)
    have hO3 := hO2.trans (Only.of_below hbel (fun k => k = g))
    refine ⟨v, rfl, ?_, ⟨hBg, ?_, own_only hown1 (Only.of_below hbel Nob) (fun _ _ h => h)⟩, hO3⟩
    · refine own_base ?_ hsz
      rw [List.map_take, List.map_drop]; exact hown2
    · have h3 := hW1.only (Only.of_below hbel Nob) (fun h => h)
      simpa using h3
end Go.Proofs.Ytgjpfmijijbjbaa
