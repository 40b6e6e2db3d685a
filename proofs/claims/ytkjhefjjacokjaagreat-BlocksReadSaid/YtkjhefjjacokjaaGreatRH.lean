/-
  Mathematics of runs; contracts of the smallest functions of runs; rows of runs. Conditions: each theorem names its own.
  Mathematics of runs that are taken greedily. Conditions: each theorem names its own.
  Contracts of greatest, like, IndexFunc with isBeyond, ContainsFunc. Conditions: each theorem names its own.
-/
import Derived.Test.YtkjhefjjacokjaaGreatG7
import Derived.Test.YtkjhefjjacokjaaGreatCT
namespace Go.Proofs.YtkjhefjjacokjaaGreat
open Go.RowKit
set_option maxRecDepth 100000
theorem run_info : (Tryz.prog.info? 118).map (fun i => (i.zero, i.size, i.bytes)) = some (some (.agg #[.int .i64 0, .int .i64 0]), 2, 16) := by kernel_rfl
/-- A run: a sign, and what is added. -/
structure Rn where
  sign : Int
  more : Int
/-- How many bits are added. -/
def bitsR (s : Int) : Int := if s = 16 then 2 else if s = 17 then 3 else if s = 18 then 7 else 0
/-- Two to the power of that. -/
def roomR (s : Int) : Int := if s = 16 then 4 else if s = 17 then 8 else if s = 18 then 128 else 1
/-- How many lengths a sign stands for at least. -/
def leastR (s : Int) : Int := if s = 16 then 3 else if s = 17 then 3 else if s = 18 then 11 else 1
/-- Whether it is a run. -/
def rightR (r : Rn) : Bool := decide (0 ≤ r.sign) && decide (r.sign ≤ 18) && decide (0 ≤ r.more) && decide (r.more < roomR r.sign)
/-- Which length a sign tells behind those ahead. -/
def toldR (s : Int) (o : List Int) : Int := if s = 16 then o.getD (o.length - 1) 0 else if s = 17 then 0 else if s = 18 then 0 else s
/-- Why a run may not stand behind so many lengths. -/
def wrongR (r : Rn) (n : Nat) : Nat := if rightR r = false then 5 else if r.sign = 16 ∧ n = 0 then 2 else if 320 - (n : Int) < leastR r.sign + r.more then 4 else 0
/-- What a run adds. -/
def addR (r : Rn) (o : List Int) : List Int := o ++ List.replicate (leastR r.sign + r.more).toNat (toldR r.sign o)
/-- What runs stand for, or why they stand for nothing. -/
def expR : List Rn → List Int → Nat × List Int
  | [], o => (0, o)
  | r :: l, o => if wrongR r o.length = 0 then expR l (addR r o) else (wrongR r o.length, [])
theorem wrongR_ok {r : Rn} {n : Nat} (h : wrongR r n = 0) : rightR r = true ∧ ¬ (r.sign = 16 ∧ n = 0) ∧ leastR r.sign + r.more ≤ 320 - (n : Int) := by
  unfold wrongR at h
  split at h
  · omega
  · split at h
    · omega
    · split at h
      · omega
      · rename_i h1 h2 h3
        exact ⟨by simpa using h1, h2, by omega⟩
theorem leastR_pos (s : Int) : 1 ≤ leastR s ∧ leastR s ≤ 11 := by
  unfold leastR
  repeat (first | omega | split)
theorem rightR_nums {r : Rn} (h : rightR r = true) : 0 ≤ r.sign ∧ r.sign ≤ 18 ∧ 0 ≤ r.more ∧ r.more < roomR r.sign := by
  simp [rightR] at h
  omega
theorem addR_length {r : Rn} {o : List Int} (h : wrongR r o.length = 0) : (addR r o).length = o.length + (leastR r.sign + r.more).toNat ∧ (addR r o).length ≤ 320 := by
  obtain ⟨h1, h2, h3⟩ := wrongR_ok h
  have h4 := rightR_nums h1
  have h5 := leastR_pos r.sign
  have e : (addR r o).length = o.length + (leastR r.sign + r.more).toNat := by simp [addR]
  refine ⟨e, ?_⟩
  rw [e]
  omega
theorem expR_ok {r : Rn} {l : List Rn} {o : List Int} (h : wrongR r o.length = 0) : expR (r :: l) o = expR l (addR r o) := by
  show (if _ then _ else _) = _
  rw [if_pos h]
theorem expR_er {r : Rn} {l : List Rn} {o : List Int} (h : wrongR r o.length ≠ 0) : expR (r :: l) o = (wrongR r o.length, []) := by
  show (if _ then _ else _) = _
  rw [if_neg h]
theorem bitsR_nums (s : Int) : 0 ≤ bitsR s ∧ bitsR s ≤ 7 := by
  unfold bitsR
  repeat (first | omega | split)
theorem bits_any (s : Int) (w : World) : Calls Tryz.prog 81 #[.int .i64 s] w fun e w' => e = .returned (.int .i64 (bitsR s)) ∧ w = w' := by
  obtain ⟨r, hr⟩ : ∃ r, bitsR s = r := ⟨_, rfl⟩
  rw [hr]
  unfold bitsR at hr
  go_enter Tryz.func81, Tryz.ntmps81
  go_wp2
  all_goals go_ret
  all_goals exact ⟨ret_int (by simp_all), rfl⟩
theorem least_any (s : Int) (w : World) : Calls Tryz.prog 111 #[.int .i64 s] w fun e w' => e = .returned (.int .i64 (leastR s)) ∧ w = w' := by
  obtain ⟨r, hr⟩ : ∃ r, leastR s = r := ⟨_, rfl⟩
  rw [hr]
  unfold leastR at hr
  go_enter Tryz.func111, Tryz.ntmps111
  go_wp2
  all_goals go_ret
  all_goals exact ⟨ret_int (by simp_all), rfl⟩
theorem beyond_any (s : Int) (w : World) : Calls Tryz.prog 96 #[.int .i64 s] w fun e w' => e = .returned (.bool (decide (s < 0) || decide (15 < s))) ∧ w = w' := by
  by_cases h : s < 0
  · have d : decide (s < 0) = true := decide_eq_true h
    go_enter Tryz.func96, Tryz.ntmps96
    go_wp2
    go_ret
    exact ⟨by simp [h], rfl⟩
  · have d : decide (s < 0) = false := decide_eq_false h
    go_enter Tryz.func96, Tryz.ntmps96
    go_wp2
    go_ret
    exact ⟨by simp, rfl⟩
/-- A run's cells. -/
def rc (t : Rn) : List Value := [.int .i64 t.sign, .int .i64 t.more]
def rvs (l : List Rn) : List Value := l.flatMap rc
theorem rvs_length (l : List Rn) : (rvs l).length = l.length * 2 := by
  induction l with
  | nil => rfl
  | cons t l ih =>
    have : rvs (t :: l) = rc t ++ rvs l := rfl
    rw [this, List.length_append, ih]
    simp [rc]
    omega
theorem rvs_append (a b : List Rn) : rvs (a ++ b) = rvs a ++ rvs b := by simp [rvs]
theorem rvs_get : ∀ (l : List Rn) (k j : Nat) (h : k < l.length), j < 2 → (rvs l)[k * 2 + j]? = (rc l[k])[j]?
  | t :: l, 0, j, h, hj => by
    have : rvs (t :: l) = rc t ++ rvs l := rfl
    rw [this, List.getElem?_append_left (by simp [rc]; omega)]
    simp
  | t :: l, k + 1, j, h, hj => by
    have : rvs (t :: l) = rc t ++ rvs l := rfl
    rw [this, List.getElem?_append_right (by simp [rc]; omega)]
    have e : (k + 1) * 2 + j - (rc t).length = k * 2 + j := by simp [rc]; omega
    rw [e, rvs_get l k j (by simpa using h) hj]
    simp
theorem Seen.rn {w : World} {B n c : Nat} {A : Option Addr} {l : List Rn} (h : Seen w B 2 A n c (rvs l)) {k : Nat} (hk : k < n) : ∃ (t : Rn) (b o : Nat), l[k]? = some t ∧ A = some ⟨b, o, none⟩ ∧ b < B ∧ w.cell? ⟨b, o + k * 2, none⟩ = some (.int .i64 t.sign) ∧ w.cell? ⟨b, o + k * 2 + 1, none⟩ = some (.int .i64 t.more) := by
  obtain ⟨h1, h2, h3⟩ := h
  rw [rvs_length] at h1
  have hl : k < l.length := by omega
  rcases h3 with ⟨_, h3⟩ | ⟨⟨b, o, s⟩, ha, h3⟩
  · omega
  · obtain ⟨g1, g2, g3⟩ := h3 (by intro e; have := rvs_length l; rw [e] at this; simp at this; omega)
    simp only at g1 g2 g3
    subst g1
    refine ⟨l[k], b, o, List.getElem?_eq_getElem hl, ha, g2, ?_, ?_⟩
    · exact g3 (k * 2) _ (rvs_get l k 0 hl (by omega))
    · have := g3 (k * 2 + 1) _ (rvs_get l k 1 hl (by omega))
      rwa [← Nat.add_assoc] at this
end Go.Proofs.YtkjhefjjacokjaaGreat

namespace Go.Proofs.YtkjhefjjacokjaaGreat
open Go.RowKit
set_option maxRecDepth 100000
/-- The sign that tells the most. -/
def greatR (x u : Int) : Int := if 0 < x ∧ 3 ≤ u then 16 else if x = 0 ∧ 11 ≤ u then 18 else if x = 0 ∧ 3 ≤ u then 17 else x
theorem expR_append : ∀ (a b : List Rn) (o o1 : List Int), expR a o = (0, o1) → expR (a ++ b) o = expR b o1
  | [], b, o, o1, h => by
    injection h with _ h
    subst h
    rfl
  | r :: a, b, o, o1, h => by
    by_cases hw : wrongR r o.length = 0
    · rw [expR_ok hw] at h
      rw [List.cons_append, expR_ok hw]
      exact expR_append a b _ _ h
    · rw [expR_er hw] at h
      injection h with h _
      exact absurd h hw
/-- How many a sign stands for at most. -/
theorem great_nums (x u : Int) (hx : 0 ≤ x) (hx2 : x ≤ 15) (hu : 1 ≤ u) (hu2 : u ≤ 320) : 0 ≤ greatR x u ∧ greatR x u ≤ 18 ∧ leastR (greatR x u) ≤ u ∧ 1 ≤ leastR (greatR x u) ∧ leastR (greatR x u) ≤ 11 ∧ 1 ≤ roomR (greatR x u) ∧ roomR (greatR x u) ≤ 128 := by
  unfold greatR
  split
  · simp only [leastR, roomR]; simp; omega
  · split
    · simp only [leastR, roomR]; simp; omega
    · split
      · simp only [leastR, roomR]; simp; omega
      · have h16 : x ≠ 16 := by omega
        have h17 : x ≠ 17 := by omega
        have h18 : x ≠ 18 := by omega
        simp only [leastR, roomR, if_neg h16, if_neg h17, if_neg h18]
        omega
theorem last_rep (o : List Int) (x : Int) (d : Nat) (hd : 0 < d) : (o ++ List.replicate d x).getD ((o ++ List.replicate d x).length - 1) 0 = x := by
  obtain ⟨e, rfl⟩ : ∃ e, d = e + 1 := ⟨d - 1, by omega⟩
  rw [List.replicate_succ', ← List.append_assoc]
  simp
/-- One run more. -/
theorem great_step (rs : List Rn) (o : List Int) (x : Int) (d t : Nat) (hx : 0 ≤ x) (hx2 : x ≤ 15) (hd : d < t) (ht : o.length + t ≤ 320) (h0 : 0 < x → 0 < d) (h : expR rs [] = (0, o ++ List.replicate d x)) (g c : Int) (hg : greatR x ((t : Int) - d) = g) (hc : c = min ((t : Int) - d) (leastR g + roomR g - 1)) :
    expR (rs ++ [⟨g, c - leastR g⟩]) [] = (0, o ++ List.replicate (d + c.toNat) x) ∧ 1 ≤ c ∧ c ≤ (t : Int) - d := by
  have hn := great_nums x ((t : Int) - d) hx hx2 (by omega) (by omega)
  rw [hg] at hn
  obtain ⟨n1, n2, n3, n4, n5, n6, n7⟩ := hn
  have hc1 : leastR g ≤ c := by omega
  refine ⟨?_, by omega, by omega⟩
  rw [expR_append _ _ _ _ h]
  have hright : rightR ⟨g, c - leastR g⟩ = true := by
    simp only [rightR, Bool.and_eq_true, decide_eq_true_eq]
    omega
  have hlen : (o ++ List.replicate d x).length = o.length + d := by simp
  have hw : wrongR ⟨g, c - leastR g⟩ (o ++ List.replicate d x).length = 0 := by
    unfold wrongR
    rw [hright, if_neg (by simp), hlen]
    simp only
    rw [if_neg, if_neg (by omega)]
    rintro ⟨e1, e2⟩
    have hx0 : x = 0 := by
      rcases Int.lt_or_le 0 x with h | h
      · have := h0 h; omega
      · omega
    subst hx0
    rw [← hg] at e1
    unfold greatR at e1
    simp at e1
    split at e1
    · omega
    · split at e1 <;> omega
  rw [expR_ok hw]
  have htold : toldR g (o ++ List.replicate d x) = x := by
    by_cases h16 : g = 16
    · have hdp : 0 < d := by
        rcases Nat.eq_zero_or_pos d with h | h
        · subst h
          have hx0 : x = 0 := by
            rcases Int.lt_or_le 0 x with h | h
            · have := h0 h; omega
            · omega
          subst hx0
          rw [h16] at hg
          unfold greatR at hg
          simp at hg
          split at hg
          · omega
          · split at hg <;> omega
        · exact h
      unfold toldR
      rw [if_pos h16]
      exact last_rep o x d hdp
    · unfold toldR
      rw [if_neg h16]
      by_cases h17 : g = 17
      · rw [if_pos h17]
        rw [h17] at hg
        unfold greatR at hg
        split at hg
        · omega
        · split at hg
          · omega
          · split at hg <;> omega
      · rw [if_neg h17]
        by_cases h18 : g = 18
        · rw [if_pos h18]
          rw [h18] at hg
          unfold greatR at hg
          split at hg
          · omega
          · split at hg
            · omega
            · split at hg <;> omega
        · rw [if_neg h18]
          unfold greatR at hg
          split at hg
          · omega
          · split at hg
            · omega
            · split at hg <;> omega
  have hadd : addR ⟨g, c - leastR g⟩ (o ++ List.replicate d x) = o ++ List.replicate (d + c.toNat) x := by
    unfold addR
    simp only
    rw [htold]
    have e : leastR g + (c - leastR g) = c := by omega
    rw [e, List.append_assoc, List.replicate_append_replicate]
  rw [hadd]
  rfl
/-- A length by itself. -/
theorem single_step (rs : List Rn) (o : List Int) (x : Int) (hx : 0 ≤ x) (hx2 : x ≤ 15) (ho : o.length < 320) (h : expR rs [] = (0, o)) : expR (rs ++ [⟨x, 0⟩]) [] = (0, o ++ List.replicate 1 x) := by
  rw [expR_append _ _ _ _ h]
  have h16 : x ≠ 16 := by omega
  have h17 : x ≠ 17 := by omega
  have h18 : x ≠ 18 := by omega
  have hright : rightR ⟨x, 0⟩ = true := by
    simp [rightR, roomR, h16, h17, h18]
    omega
  have hl : leastR x = 1 := by simp [leastR, h16, h17, h18]
  have hw : wrongR ⟨x, 0⟩ o.length = 0 := by
    unfold wrongR
    rw [hright, if_neg (by simp)]
    simp only
    rw [if_neg (by omega), if_neg (by omega)]
  rw [expR_ok hw]
  have : addR ⟨x, 0⟩ o = o ++ List.replicate 1 x := by
    unfold addR
    simp only
    rw [hl]
    simp [toldR, h16, h17, h18]
  rw [this]
  rfl
/-- The next run of a length that comes so often. -/
def stp (x : Int) (t : Nat) (p : Nat × List Rn) : Nat × List Rn :=
  (p.1 + (min ((t : Int) - p.1) (leastR (greatR x ((t : Int) - p.1)) + roomR (greatR x ((t : Int) - p.1)) - 1)).toNat, p.2 ++ [⟨greatR x ((t : Int) - p.1), min ((t : Int) - p.1) (leastR (greatR x ((t : Int) - p.1)) + roomR (greatR x ((t : Int) - p.1)) - 1) - leastR (greatR x ((t : Int) - p.1))⟩])
def runG (x : Int) (t : Nat) : Nat → Nat × List Rn → List Rn
  | 0, p => p.2
  | f + 1, p => if p.1 < t then runG x t f (stp x t p) else p.2
theorem stp_more (x : Int) (t : Nat) (hx : 0 ≤ x) (hx2 : x ≤ 15) (ht : t ≤ 320) (p : Nat × List Rn) (h : p.1 < t) : p.1 < (stp x t p).1 := by
  have hn := great_nums x ((t : Int) - p.1) hx hx2 (by omega) (by omega)
  obtain ⟨n1, n2, n3, n4, n5, n6, n7⟩ := hn
  show p.1 < p.1 + _
  have : 1 ≤ min ((t : Int) - p.1) (leastR (greatR x ((t : Int) - p.1)) + roomR (greatR x ((t : Int) - p.1)) - 1) := by omega
  omega
theorem runG_more (x : Int) (t : Nat) (hx : 0 ≤ x) (hx2 : x ≤ 15) (ht : t ≤ 320) : ∀ (f g : Nat) (p : Nat × List Rn), t - p.1 ≤ f → t - p.1 ≤ g → runG x t f p = runG x t g p
  | 0, 0, p, _, _ => rfl
  | 0, g + 1, p, h, _ => by rw [runG, runG, if_neg (by omega)]
  | f + 1, 0, p, _, h => by rw [runG, runG, if_neg (by omega)]
  | f + 1, g + 1, p, hf, hg => by
    rw [runG, runG]
    split
    · rename_i h
      have := stp_more x t hx hx2 ht p h
      exact runG_more x t hx hx2 ht f g _ (by omega) (by omega)
    · rfl
theorem runG_step (x : Int) (t d : Nat) (rs : List Rn) (hx : 0 ≤ x) (hx2 : x ≤ 15) (ht : t ≤ 320) (hd : d < t) (g c : Int) (hg : greatR x ((t : Int) - d) = g) (hc : c = min ((t : Int) - d) (leastR g + roomR g - 1)) :
    runG x t (t - d) (d, rs) = runG x t (t - (d + c.toNat)) (d + c.toNat, rs ++ [⟨g, c - leastR g⟩]) := by
  obtain ⟨f, hf⟩ : ∃ f, t - d = f + 1 := ⟨t - d - 1, by omega⟩
  have e : stp x t (d, rs) = (d + c.toNat, rs ++ [⟨g, c - leastR g⟩]) := by
    unfold stp
    simp only [hg, ← hc]
  have hm := stp_more x t hx hx2 ht (d, rs) hd
  rw [e] at hm
  rw [hf, runG, if_pos hd, e]
  exact runG_more x t hx hx2 ht _ _ _ (by simp only at hm ⊢; omega) (Nat.le_refl _)
/-- The runs of a length that comes so often, behind others. -/
def appR (x : Int) (t : Nat) (rs : List Rn) : List Rn := if 0 < x then runG x t (t - 1) (1, rs ++ [⟨x, 0⟩]) else runG x t t (0, rs)
/-- How many of the first lengths are the same. -/
def likeN (l : List Int) : Nat := (l.takeWhile fun y => y == l.getD 0 0).length
theorem like_eq {l : List Int} {k : Nat} {x : Int} (hx : l.getD 0 0 = x) (h : l.take k = List.replicate k x) (hk : k ≤ l.length) (he : k = l.length ∨ l.getD k 0 ≠ x) : k = likeN l := by
  unfold likeN
  rw [hx]
  have e : l = List.replicate k x ++ l.drop k := by rw [← h, List.take_append_drop]
  have h2 : (l.takeWhile fun y => y == x) = List.replicate k x ++ (l.drop k).takeWhile fun y => y == x := by
    conv => lhs; rw [e]
    rw [List.takeWhile_append_of_pos (by intro a ha; rw [List.eq_of_mem_replicate ha]; simp)]
  have h3 : (l.drop k).takeWhile (fun y => y == x) = [] := by
    rcases he with he | he
    · rw [he, List.drop_length]; rfl
    · by_cases hlt : k < l.length
      · rw [List.drop_eq_getElem_cons hlt, List.takeWhile_cons_of_neg]
        simp [List.getD, hlt] at he
        simpa using he
      · rw [List.drop_eq_nil_of_le (by omega)]; rfl
  rw [h2, h3]
  simp
/-- The runs of lengths. -/
def ofG (l : List Int) : Nat → Nat → List Rn → List Rn
  | 0, _, rs => rs
  | f + 1, d, rs => if d < l.length then ofG l f (d + likeN (l.drop d)) (appR ((l.drop d).getD 0 0) (likeN (l.drop d)) rs) else rs
theorem likeN_pos (l : List Int) (h : 0 < l.length) : 1 ≤ likeN l := by
  cases l with
  | nil => simp at h
  | cons a l => simp [likeN]
theorem ofG_more (l : List Int) : ∀ (f g d : Nat) (rs : List Rn), l.length - d ≤ f → l.length - d ≤ g → ofG l f d rs = ofG l g d rs
  | 0, 0, d, rs, _, _ => rfl
  | 0, g + 1, d, rs, h, _ => by rw [ofG, ofG, if_neg (by omega)]
  | f + 1, 0, d, rs, _, h => by rw [ofG, ofG, if_neg (by omega)]
  | f + 1, g + 1, d, rs, hf, hg => by
    rw [ofG, ofG]
    split
    · rename_i h
      have := likeN_pos (l.drop d) (by rw [List.length_drop]; omega)
      exact ofG_more l f g _ _ (by omega) (by omega)
    · rfl
theorem ofG_step (l : List Int) (d k : Nat) (x : Int) (rs : List Rn) (hd : d < l.length) (hx : (l.drop d).getD 0 0 = x) (hk : k = likeN (l.drop d)) : ofG l (l.length - d) d rs = ofG l (l.length - (d + k)) (d + k) (appR x k rs) := by
  subst hx hk
  obtain ⟨f, hf⟩ : ∃ f, l.length - d = f + 1 := ⟨l.length - d - 1, by omega⟩
  have := likeN_pos (l.drop d) (by rw [List.length_drop]; omega)
  rw [hf, ofG, if_pos hd]
  exact ofG_more l _ _ _ _ (by omega) (Nat.le_refl _)
def ofL (l : List Int) : List Rn := ofG l l.length 0 []
end Go.Proofs.YtkjhefjjacokjaaGreat

namespace Go.Proofs.YtkjhefjjacokjaaGreat
open Go.RowKit
set_option maxRecDepth 100000
set_option maxHeartbeats 2000000 in
theorem great_any (x u : Int) (w : World) : Calls Tryz.prog 110 #[.int .i64 x, .int .i64 u] w fun e w' => e = .returned (.int .i64 (greatR x u)) ∧ w = w' := by
  obtain ⟨r, hr⟩ : ∃ r, greatR x u = r := ⟨_, rfl⟩
  rw [hr]
  unfold greatR at hr
  have C1 := Lib.hid (fun W => (show Calls Tryz.prog 111 #[.int .i64 16] W fun e w' => e = .returned (.int .i64 3) ∧ W = w' from least_any 16 W))
  have C2 := Lib.hid (fun W => (show Calls Tryz.prog 111 #[.int .i64 17] W fun e w' => e = .returned (.int .i64 3) ∧ W = w' from least_any 17 W))
  have C3 := Lib.hid (fun W => (show Calls Tryz.prog 111 #[.int .i64 18] W fun e w' => e = .returned (.int .i64 11) ∧ W = w' from least_any 18 W))
  have HR := Lib.hid hr; clear hr
  by_cases h0 : 0 < x
  · have d0 : decide (0 < x) = true := decide_eq_true h0
    have dz : (x == 0) = false := by simp; omega
    by_cases h3 : 3 ≤ u
    · have d3 : decide (3 ≤ u) = true := decide_eq_true h3
      go_enter Tryz.func110, Tryz.ntmps110
      go_wp2_with (go_at_call 111; refine (C1.out _).mono ?_; rintro e w2 ⟨rfl, rfl⟩)
      go_ret
      exact ⟨ret_int (by rw [← HR.out, if_pos ⟨h0, h3⟩]), rfl⟩
    · have d3 : decide (3 ≤ u) = false := decide_eq_false h3
      go_enter Tryz.func110, Tryz.ntmps110
      go_wp2_with (go_at_call 111; refine (C1.out _).mono ?_; rintro e w2 ⟨rfl, rfl⟩)
      go_ret
      exact ⟨ret_int (by rw [← HR.out, if_neg (by omega), if_neg (by omega), if_neg (by omega)]), rfl⟩
  · have d0 : decide (0 < x) = false := decide_eq_false h0
    by_cases hz : x = 0
    · subst hz
      by_cases h11 : 11 ≤ u
      · have d11 : decide (11 ≤ u) = true := decide_eq_true h11
        go_enter Tryz.func110, Tryz.ntmps110
        go_wp2_with (go_at_call 111; refine (C3.out _).mono ?_; rintro e w2 ⟨rfl, rfl⟩)
        go_ret
        exact ⟨ret_int (by rw [← HR.out, if_neg (by omega), if_pos (by simp; omega)]), rfl⟩
      · have d11 : decide (11 ≤ u) = false := decide_eq_false h11
        by_cases h3 : 3 ≤ u
        · have d3 : decide (3 ≤ u) = true := decide_eq_true h3
          go_enter Tryz.func110, Tryz.ntmps110
          go_wp2_with (first | (go_at_call 111; refine (C3.out _).mono ?_; rintro e w2 ⟨rfl, rfl⟩) | (go_at_call 111; refine (C2.out _).mono ?_; rintro e w2 ⟨rfl, rfl⟩))
          go_ret
          exact ⟨ret_int (by rw [← HR.out, if_neg (by omega), if_neg (by omega), if_pos (by simp; omega)]), rfl⟩
        · have d3 : decide (3 ≤ u) = false := decide_eq_false h3
          go_enter Tryz.func110, Tryz.ntmps110
          go_wp2_with (first | (go_at_call 111; refine (C3.out _).mono ?_; rintro e w2 ⟨rfl, rfl⟩) | (go_at_call 111; refine (C2.out _).mono ?_; rintro e w2 ⟨rfl, rfl⟩))
          go_ret
          exact ⟨ret_int (by rw [← HR.out, if_neg (by omega), if_neg (by omega), if_neg (by omega)]), rfl⟩
    · have dz : (x == 0) = false := by simpa using hz
      go_enter Tryz.func110, Tryz.ntmps110
      go_wp2_with fail
      go_ret
      exact ⟨ret_int (by rw [← HR.out, if_neg (by omega), if_neg (by omega), if_neg (by omega)]), rfl⟩
/-- How many of the first lengths are the same. -/
theorem like_any (A : Option Addr) (n c B : Nat) (l : List Int) (hn : l.length = n) (h1 : 1 ≤ n) (h2 : n ≤ 1000) (w : World) (hs : Seen w B 1 A n c (iv l)) :
    Calls Tryz.prog 97 #[.slice A n c] w fun e w' => w = w' ∧ ∃ k : Nat, e = .returned (.int .i64 k) ∧ 1 ≤ k ∧ k ≤ n ∧ l.take k = List.replicate k (l.getD 0 0) ∧ k = likeN l := by
  obtain ⟨b, o, rfl, hb, c0⟩ := hs.int hn (k := 0) (by omega)
  have e0 : l[0]'(by omega) = l.getD 0 0 := by simp [List.getD, show 0 < l.length by omega]
  rw [e0, Nat.add_zero] at c0
  have HN := Lib.hid hn
  obtain ⟨x, hx⟩ : ∃ x, l.getD 0 0 = x := ⟨_, rfl⟩
  rw [hx] at c0 ⊢
  have HX := Lib.hid hx
  have HS := Lib.hid hs
  clear hs hx e0 hn
  go_enter Tryz.func97, Tryz.ntmps97
  go_wp2_with fail
  go_loopw [7] (fun i wr => ∃ k : Nat, k ≤ n ∧ i = .int .i64 k ∧ Hid (l.take k = List.replicate k x) ∧ w = wr) (fun i _ => n - (intOf i).toNat)
  case atStart => exact ⟨0, Nat.zero_le _, rfl, Lib.hid rfl, rfl⟩
  case round =>
    obtain ⟨k, hk, rfl, hall, rfl⟩ := hrel
    by_cases hlt : k < n
    · obtain ⟨b', o', e, _, c1⟩ := HS.out.int HN.out hlt
      injection e with e
      injection e with e1 e2
      subst e1 e2
      have hk0 : (0 : Int) ≤ k := by omega
      have hkl : k < l.length := by have := HN.out; omega
      obtain ⟨y, hy⟩ : ∃ y, l[k]'hkl = y := ⟨_, rfl⟩
      rw [hy] at c1
      have HT : Hid (l.take (k + 1) = l.take k ++ [y]) := Lib.hid (by rw [← hy, List.take_append_getElem])
      by_cases hxy : y = x
      · subst hxy
        have dx : (y != y) = false := by simp
        clear hy
        go_wp2_with fail
        go_roundw
        case rel => exact ⟨k + 1, by omega, by go_num, Lib.hid (by rw [HT.out, hall.out, List.replicate_succ']), by trivial⟩
        case measure => simp [intOf]; omega
      · have dx : (y != x) = true := by simpa using hxy
        have hk1 : 1 ≤ k := by
          rcases Nat.eq_zero_or_pos k with h | h
          · subst h
            exfalso
            apply hxy
            rw [← hy, ← HX.out]
            simp [List.getD, hkl]
          · exact h
        have HLK := Lib.hid (like_eq HX.out hall.out (by omega) (.inr (by simp only [List.getD]; rw [List.getElem?_eq_getElem hkl]; simpa [hy] using hxy)))
        clear hy hxy
        go_wp2_with fail
        go_ret
        exact ⟨rfl, k, rfl, hk1, by omega, hall.out, HLK.out⟩
    · obtain rfl : k = n := by omega
      go_wp2_with fail
      go_ret
      exact ⟨rfl, k, rfl, h1, Nat.le_refl _, hall.out, like_eq HX.out hall.out (by rw [HN.out]; exact Nat.le_refl _) (.inl HN.out.symm)⟩
/-- Whether a length is beyondR what one may be. -/
def beyondR (l : List Int) : Bool := l.any fun y => decide (y < 0) || decide (15 < y)
theorem index_any (A : Option Addr) (n c B : Nat) (l : List Int) (hn : l.length = n) (h2 : n ≤ 1000) (w : World) (hs : Seen w B 1 A n c (iv l)) :
    Calls Tryz.prog 105 #[.slice A n c, .func (.func 96) #[] #[]] w fun e w' => w = w' ∧ ∃ k : Int, e = .returned (.int .i64 k) ∧ decide (0 ≤ k) = beyondR l := by
  have HN := Lib.hid hn
  have HS := Lib.hid hs
  clear hs hn
  go_enter Tryz.func105, Tryz.ntmps105
  go_wp2_with fail
  go_loopw [8] (fun i wr => ∃ k : Nat, k ≤ n ∧ i = .int .i64 k ∧ Hid (beyondR (l.take k) = false) ∧ w = wr) (fun i _ => n - (intOf i).toNat)
  case atStart => exact ⟨0, Nat.zero_le _, rfl, Lib.hid rfl, rfl⟩
  case round =>
    obtain ⟨k, hk, rfl, hall, rfl⟩ := hrel
    by_cases hlt : k < n
    · obtain ⟨b', o', rfl, _, c1⟩ := HS.out.int HN.out hlt
      have hk0 : (0 : Int) ≤ k := by omega
      have hkl : k < l.length := by have := HN.out; omega
      obtain ⟨y, hy⟩ : ∃ y, l[k]'hkl = y := ⟨_, rfl⟩
      rw [hy] at c1
      have HT : Hid (l.take (k + 1) = l.take k ++ [y]) := Lib.hid (by rw [← hy, List.take_append_getElem])
      have HM : Hid (y ∈ l) := Lib.hid (by rw [← hy]; exact List.getElem_mem hkl)
      have CB := Lib.hid (fun W => beyond_any y W)
      obtain ⟨q, hq⟩ : ∃ q, (decide (y < 0) || decide (15 < y)) = q := ⟨_, rfl⟩
      rw [hq] at CB
      have HQ := Lib.hid hq
      clear hy hq
      cases q with
      | false =>
        go_wp2_with fail
        refine (CB.out _).mono ?_; rintro e w2 ⟨rfl, rfl⟩
        go_wp2_with fail
        go_roundw
        case rel => exact ⟨k + 1, by omega, by go_num, Lib.hid (by rw [HT.out]; unfold beyondR at *; rw [List.any_append, hall.out]; simp [HQ.out]), by trivial⟩
        case measure => simp [intOf]; omega
      | true =>
        go_wp2_with fail
        refine (CB.out _).mono ?_; rintro e w2 ⟨rfl, rfl⟩
        go_wp2_with fail
        go_ret
        exact ⟨rfl, k, rfl, by
          have : beyondR l = true := List.any_eq_true.2 ⟨y, HM.out, HQ.out⟩
          rw [this]
          exact decide_eq_true hk0⟩
    · obtain rfl : k = n := by omega
      go_wp2_with fail
      go_ret
      exact ⟨rfl, -1, rfl, by
        have := hall.out
        rw [List.take_of_length_le (by rw [HN.out]; exact Nat.le_refl _)] at this
        rw [this]
        rfl⟩
theorem containsR_any (A : Option Addr) (n c B : Nat) (l : List Int) (hn : l.length = n) (h2 : n ≤ 1000) (w : World) (hs : Seen w B 1 A n c (iv l)) :
    Calls Tryz.prog 89 #[.slice A n c, .func (.func 96) #[] #[]] w fun e w' => e = .returned (.bool (beyondR l)) ∧ w = w' := by
  have CI := Lib.hid (index_any A n c B l hn h2 w hs)
  clear hs hn
  go_enter Tryz.func89, Tryz.ntmps89
  go_wp2_with fail
  refine CI.out.mono ?_
  rintro e w2 ⟨rfl, k, rfl, hk⟩
  have HK := Lib.hid hk; clear hk
  go_wp2_with fail
  go_ret
  exact ⟨by rw [← HK.out]; rfl, rfl⟩
end Go.Proofs.YtkjhefjjacokjaaGreat
