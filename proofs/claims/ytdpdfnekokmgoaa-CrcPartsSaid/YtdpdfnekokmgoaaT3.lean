/-
  Contracts of crc: Open. Conditions: each theorem names the range of its arguments.
-/
import Derived.Test.YtdpdfnekokmgoaaT2
import Derived.Test.YtdpdfnekokmgoaaC4
namespace Go.Proofs.Ytdpdfnekokmgoaa
open Go.RowKit

theorem Seen.head {w : World} {B : Nat} {A : Option Addr} {len c n : Nat} {xs : List Value} (h : Seen w B 1 A len c xs) (hn : n ≤ len) : Seen w B 1 A n c (xs.take n) := by
  obtain ⟨h1, h2, h3⟩ := h
  refine ⟨by simp; omega, by omega, ?_⟩
  rcases h3 with h3 | ⟨a, rfl, h3⟩
  · exact .inl h3
  · refine .inr ⟨a, rfl, fun hx => ?_⟩
    obtain ⟨g1, g2, g3⟩ := h3 (by rintro rfl; simp at hx)
    refine ⟨g1, g2, fun j u hu => g3 j u ?_⟩
    rw [List.getElem?_take] at hu
    split at hu
    · exact hu
    · cases hu

theorem bv_take (l : List Nat) (k : Nat) : (bv l).take k = bv (l.take k) := by simp [bv, List.map_take]
theorem bv_drop (l : List Nat) (k : Nat) : (bv l).drop k = bv (l.drop k) := by simp [bv, List.map_drop]

/-- What Open answers. -/
def opened (bs : List Nat) : List Nat × Int := if bs.length < 4 then ([], 6) else if len_ (bs.drop (bs.length - 4)) = crc (bs.take (bs.length - 4)) then (bs.take (bs.length - 4), 0) else ([], 7)

def OpenRes (w : World) (r : List Nat × Int) (e : Ending) (w' : World) : Prop := ∃ v, e = .returned (.tuple #[v, .int .i64 r.2]) ∧ w'.ownsRow w.heap.size 5 1 v r.1.length (bv r.1) ∧ Below w.heap.size w w'

theorem nxt_all (l : List Nat) (h : l.length = 4) : nxt l 0 0 4 (decide (Wide 4)) = (l, 4, 0) := by
  have hw : decide (Wide 4) = true := by decide
  rw [hw]
  unfold nxt
  have hc : cerr 0 true 4 ((l.length : Int) - (0 : Nat)) = 0 := by unfold cerr; simp; omega
  rw [if_pos hc]
  have h4 : (4 : Int).toNat = 4 := rfl
  rw [h4, List.drop_zero, List.take_of_length_le (by omega)]

theorem newC_len {A : Option Addr} {c B : Nat} {bs : List Nat} {w : World} {n : Nat} (hn : bs.length = n) (hs : Seen w B 1 A n c (bv bs)) (hB : B ≤ w.heap.size) (hl : n ≤ 1000000) :
    Calls Try.prog 23 #[.slice A n c] w (NewC w bs) := by
  subst hn
  exact newC_any A c B bs w hs hB hl
theorem littleC_all (B g : Nat) (sv : Value) (l : List Nat) (w : World) (h : CursorAt w B g sv l 0 0) (hl : l.length = 4) (h256 : ∀ x ∈ l, x < 256) :
    Calls Try.prog 24 #[.pointer (some ⟨g, 0, none⟩), .int .i64 4] w fun e w' => e = .returned (.int .u64 (len_ l : Nat)) ∧ Only (fun k => k = g) w w' := by
  refine (littleC_any B g sv l 0 0 4 w h (by omega) (by omega) h256).mono ?_
  rintro e w' ⟨rfl, _, hO⟩
  rw [nxt_all l hl]
  exact ⟨rfl, hO⟩

theorem opened_yes (bs : List Nat) (m : Nat) (h : bs.length = m + 4) (hq : len_ (bs.drop m) = crc (bs.take m)) : opened bs = (bs.take m, 0) := by
  unfold opened
  rw [if_neg (by omega), show bs.length - 4 = m by omega, if_pos hq]
theorem opened_no (bs : List Nat) (m : Nat) (h : bs.length = m + 4) (hq : ¬ len_ (bs.drop m) = crc (bs.take m)) : opened bs = ([], 7) := by
  unfold opened
  rw [if_neg (by omega), show bs.length - 4 = m by omega, if_neg hq]

set_option maxHeartbeats 1000000 in
theorem open_any (A : Option Addr) (c B : Nat) (bs : List Nat) (h256 : ∀ x ∈ bs, x < 256) (hn : bs.length ≤ 1000000) (w : World) (hs : Seen w B 1 A bs.length c (bv bs)) (hB : B ≤ w.heap.size) (h4 : 4 ≤ bs.length) :
    Calls Try.prog 13 #[.slice A bs.length c] w (OpenRes w (opened bs)) := by
  have hnc := hs.2.1
  obtain ⟨n, hn'⟩ : ∃ n, bs.length = n := ⟨_, rfl⟩
  obtain ⟨m, hm⟩ : ∃ m, n = m + 4 := ⟨n - 4, by omega⟩
  rw [hn'] at hn hnc h4 hs ⊢
  have HBd : Hid (Seen w B 1 A m c (bv (bs.take m))) := by
    show Seen w B 1 A m c (bv (bs.take m))
    rw [← bv_take]; exact hs.head (by omega)
  have HBh : Hid (Seen w B 1 (Option.map (fun x => x.add m) A) 4 (c - m) (bv (bs.drop m))) := by
    show Seen w B 1 (Option.map (fun x => x.add m) A) 4 (c - m) (bv (bs.drop m))
    have h3 := hs.cut (q := m) (n := 4) (by omega)
    rw [bv_drop, bv_take, List.take_of_length_le (by simp; omega)] at h3
    exact h3
  have HS := Lib.hid hs; clear hs
  have L1 : Hid ((bs.take m).length = m) := by show (bs.take m).length = m; simp; omega
  have L2 : Hid ((bs.drop m).length = 4) := by show (bs.drop m).length = 4; simp; omega
  have HO : Hid (bs.length = m + 4) := Lib.hid (hn'.trans hm)
  have HN := Lib.hid hn'; clear hn'
  have T1 : Hid (∀ x ∈ bs.take m, x < 256) := Lib.hid (fun x hx => h256 x (List.mem_of_mem_take hx))
  have T2 : Hid (∀ x ∈ bs.drop m, x < 256) := Lib.hid (fun x hx => h256 x (List.mem_of_mem_drop hx))
  clear h256
  have e1 : ((n : Int) - 4) = m := by omega
  have w1 : IntKind.i64.wrap (m : Int) = m := IntWalk.i64_in _ (by omega)
  have hcm2 : (c = m) = False := by simp; omega
  have h0 : (0 : Int) ≤ m := by omega
  have h1 : (m : Int) ≤ c := by omega
  have h2 : m ≤ c := by omega
  have h3 : m ≤ n := by omega
  have h5 : (m : Int) ≤ (n : Int) := by omega
  have h6 : n - m = 4 := by omega
  have h7 : decide ((n : Int) < 4) = false := by simp; omega
  have h8 : m ≤ 1000000 := by omega
  clear hm
  have hc32 := crc_lt (bs.take m)
  have wc : IntKind.u64.wrap ((crc (bs.take m) : Nat) : Int) = (crc (bs.take m) : Nat) := IntWalk.u64_in _ (by omega)
  by_cases hq : len_ (bs.drop m) = crc (bs.take m)
  · have HR := Lib.hid (opened_yes bs m HO.out hq)
    have hne : (((len_ (bs.drop m) : Nat) : Int) != ((crc (bs.take m) : Nat) : Int)) = false := by simp [hq]
    rw [HR.out]
    clear hq
    go_enter Try.func13, Try.ntmps13
    go_wp2
    refine wp_region_still_lit (by kernel_rfl) (by kernel_rfl) ?_
    repeat still_step
    refine wpStill_nil ?_
    go_wp2_with fail
    refine (newC_len L2.out (w := w.drew) HBh.out (by simpa using hB) (by omega)).mono ?_; rintro e wa ⟨g, sv, rfl, hC, hba⟩
    have HC := Lib.hid hC; clear hC
    have hBa : Below w.heap.size w wa := ⟨hba.os, hba.tape, hba.output, hba.size, hba.block⟩
    have HBa := Lib.hid hBa; clear hBa hba
    go_wp2_with fail
    refine (littleC_all _ g sv (bs.drop m) _ HC.out L2.out T2.out).mono ?_; rintro e wb ⟨rfl, hOb⟩
    have HBb := Lib.hid (HBa.out.trans (hOb.below HBa.out.size (fun k hk => by have := HC.out.1; simp at this; omega)))
    clear hOb
    go_wp2_with fail
    refine (sum_any A m c B (bs.take m) L1.out T1.out (by omega) wb (HBd.out.below (HBb.out.mono hB)) (Nat.le_trans hB HBb.out.size)).mono ?_; rintro e wd ⟨rfl, hbd⟩
    have HBc := Lib.hid (HBb.out.trans (hbd.mono HBb.out.size)); clear hbd
    go_wp2_with fail
    refine (clone_any A m c B _ wd (HBd.out.below (HBc.out.mono hB)) (Nat.le_trans hB HBc.out.size) (bv_oneCell _) (by omega)).mono ?_; rintro e we ⟨v, rfl, hown, hbe⟩
    go_wp2_with fail
    go_ret2
    exact ⟨v, rfl, by rw [L1.out]; exact own_base hown HBc.out.size, HBc.out.trans (hbe.mono HBc.out.size)⟩
  · have HR := Lib.hid (opened_no bs m HO.out hq)
    have hne : (((len_ (bs.drop m) : Nat) : Int) != ((crc (bs.take m) : Nat) : Int)) = true := by simp; omega
    rw [HR.out]
    clear hq
    go_enter Try.func13, Try.ntmps13
    go_wp2
    refine wp_region_still_lit (by kernel_rfl) (by kernel_rfl) ?_
    repeat still_step
    refine wpStill_nil ?_
    go_wp2_with fail
    refine (newC_len L2.out (w := w.drew) HBh.out (by simpa using hB) (by omega)).mono ?_; rintro e wa ⟨g, sv, rfl, hC, hba⟩
    have HC := Lib.hid hC; clear hC
    have hBa : Below w.heap.size w wa := ⟨hba.os, hba.tape, hba.output, hba.size, hba.block⟩
    have HBa := Lib.hid hBa; clear hBa hba
    go_wp2_with fail
    refine (littleC_all _ g sv (bs.drop m) _ HC.out L2.out T2.out).mono ?_; rintro e wb ⟨rfl, hOb⟩
    have HBb := Lib.hid (HBa.out.trans (hOb.below HBa.out.size (fun k hk => by have := HC.out.1; simp at this; omega)))
    clear hOb
    go_wp2_with fail
    refine (sum_any A m c B (bs.take m) L1.out T1.out (by omega) wb (HBd.out.below (HBb.out.mono hB)) (Nat.le_trans hB HBb.out.size)).mono ?_; rintro e wd ⟨rfl, hbd⟩
    have HBc := Lib.hid (HBb.out.trans (hbd.mono HBb.out.size)); clear hbd
    go_wp2_with fail
    go_ret2
    exact ⟨_, rfl, World.ownsRow_nil _ _ _ _, HBc.out⟩
end Go.Proofs.Ytdpdfnekokmgoaa
