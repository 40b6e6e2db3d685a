/-
  Mathematics: the bytes of a pool that is read are the pool's bytes. Conditions: none.
-/
import Derived.Test.YtmojclbejmnikaaYB
namespace Go.Proofs.Ytmojclbejmnikaa
open Go Go.RowKit
set_option maxRecDepth 100000

theorem leb_len : ∀ l : List Nat, (∀ x ∈ l, x < 256) → leb (len_ l) l.length = l
  | [], _ => rfl
  | b :: l, h => by
    have hb := h b (by simp)
    have ih := leb_len l fun x hx => h x (by simp [hx])
    have e : len_ (b :: l) = b + 256 * len_ l := rfl
    rw [List.length_cons, leb, e, show (b + 256 * len_ l) % 256 = b by omega, show (b + 256 * len_ l) / 256 = len_ l by omega, ih]
theorem be_big (l : List Nat) (h : ∀ x ∈ l, x < 256) : beN (big_ l) l.length = l := by
  unfold beN
  have e : big_ l = len_ l.reverse := by rw [← big_reverse, List.reverse_reverse]
  have k := leb_len l.reverse (fun x hx => h x (by simpa using hx))
  rw [List.length_reverse] at k
  rw [e, k, List.reverse_reverse]
/-- What is read without an error. -/
theorem nxt_inv {bs : List Nat} {a : Nat} {err : Int} {n : Nat} {y : List Nat} {a' : Nat} (h : nxt bs a err n true = (y, a', 0)) (_ha : a ≤ bs.length) : err = 0 ∧ a' = a + n ∧ a + n ≤ bs.length ∧ (bs.drop a).take n = y := by
  unfold nxt at h
  split at h
  · rename_i hc
    unfold cerr at hc
    by_cases he : err = 0
    · rw [if_neg (by simpa using he), if_neg (by decide)] at hc
      split at hc
      · cases hc
      · rename_i hn
        injection h with h1 h2
        injection h2 with h2 _
        rw [Int.toNat_natCast] at h1 h2
        exact ⟨he, h2.symm, by omega, h1⟩
    · rw [if_pos he] at hc; exact absurd hc he
  · rename_i hc
    injection h with _ h2
    injection h2 with _ h3
    exact absurd h3 hc
theorem num_inv {bs : List Nat} (h256 : ∀ x ∈ bs, x < 256) {a : Nat} {err : Int} {n x a' : Nat} (h : num bs a err n = (x, a', 0)) (ha : a ≤ bs.length) : err = 0 ∧ a' = a + n ∧ a + n ≤ bs.length ∧ (bs.drop a).take n = beN x n ∧ x < 256 ^ n := by
  have hx := num_lt bs a err n h256
  rw [h] at hx
  unfold num at h
  injection h with h1 h2
  injection h2 with h2 h3
  obtain ⟨r1, r2, r3, r4⟩ := nxt_inv (y := (nxt bs a err n true).1) (a' := a') (show nxt bs a err n true = _ by rw [← h2, ← h3]) ha
  refine ⟨r1, r2, r3, ?_, hx⟩
  rw [r4, ← h1]
  have hl : (nxt bs a err n true).1.length = n := by rw [← r4, List.length_take, List.length_drop]; omega
  have := be_big (nxt bs a err n true).1 (nxt_byte bs a err n true h256)
  rw [hl] at this
  exact this.symm
theorem num_err {bs : List Nat} {a : Nat} {err : Int} {n : Nat} (h : (num bs a err n).2.2 = 0) : err = 0 := by
  unfold num nxt at h
  by_cases he : err = 0
  · exact he
  · have hc : cerr err true n ((bs.length : Int) - a) = err := by unfold cerr; rw [if_pos he]
    rw [hc, if_neg he] at h
    exact h
theorem take_two {bs : List Nat} {a n m : Nat} {x y : List Nat} (h1 : (bs.drop a).take n = x) (h2 : (bs.drop (a + n)).take m = y) : (bs.drop a).take (n + m) = x ++ y := by
  rw [List.take_add, h1, List.drop_drop, h2]
theorem txN_str (y : List Nat) (h : ∀ x ∈ y, x < 256) : txN (strOf y) = y := by
  unfold txN strOf
  simp only [List.map_map]
  have : ∀ l : List Nat, (∀ x ∈ l, x < 256) → l.map (UInt8.toNat ∘ fun n => UInt8.ofNat n) = l := by
    intro l hl
    induction l with
    | nil => rfl
    | cons b l ih =>
      rw [List.map_cons, ih (fun x hx => hl x (by simp [hx]))]
      simp [Function.comp, UInt8.toNat_ofNat', Nat.mod_eq_of_lt (hl b (by simp))]
  exact this y h
theorem str_size (y : List Nat) : (strOf y).size = y.length := by simp [strOf, ByteArray.size]
theorem u64_small {x : Nat} (h : x < 65536) : u64N (x : Int) = x := by unfold u64N; omega
/-- One constant's bytes. -/
theorem one_inv {bs : List Nat} (h256 : ∀ x ∈ bs, x < 256) {a : Nat} (ha : a ≤ bs.length) {r : Raw} {a' : Nat} (h : oneM bs a = (r, a', 0)) :
    ∃ k, a' = a + k ∧ a + k ≤ bs.length ∧ (bs.drop a).take k = rawB r ∧ formM r.tag ≠ 0 := by
  obtain ⟨p, hp⟩ : ∃ p, num bs a 0 1 = p := ⟨_, rfl⟩
  obtain ⟨t, a1, e1⟩ := p
  obtain ⟨c1, c2, c3, c4, c5, c6⟩ := one_cases bs a hp
  have hp1 := num_place bs a 0 1 ha
  rw [hp] at hp1
  simp only at hp1
  have tag : e1 = 0 → a1 = a + 1 ∧ a + 1 ≤ bs.length ∧ (bs.drop a).take 1 = [t] ∧ t < 256 := fun he => by
    subst he
    obtain ⟨_, r2, r3, r4, r5⟩ := num_inv h256 hp ha
    have r6 : t < 256 := r5
    refine ⟨r2, r3, ?_, r6⟩
    rw [r4]; unfold beN; rw [leb, leb]; simp; omega
  rcases form_val (t : Int) with hf | hf | hf | hf | hf | hf
  · rw [c6 hf] at h
    injection h with _ h2
    injection h2 with _ h3
    split at h3
    · cases h3
    · rename_i he; exact absurd h3 he
  · rw [c1 hf] at h
    injection h with h1 h2
    injection h2 with h2 h3
    obtain ⟨q, hq⟩ : ∃ p, num bs a1 e1 2 = p := ⟨_, rfl⟩
    have hp2 := num_place bs a1 e1 2 hp1
    rw [hq] at h1 h2 h3 hp2
    obtain ⟨x2, a2, e2⟩ := q
    simp only at h1 h2 h3 hp2
    obtain ⟨nx, hnx⟩ : ∃ p, nxt bs a2 e2 (x2 : Int) true = p := ⟨_, rfl⟩
    have hby := nxt_byte bs a2 e2 (x2 : Int) true h256
    rw [hnx] at h1 h2 h3 hby
    obtain ⟨y, a3, e3⟩ := nx
    simp only at h1 h2 h3 hby
    have he3 : e3 = 0 := by
      split at h3
      · cases h3
      · exact h3
    subst he3
    obtain ⟨he2, r2, r3, r4⟩ := nxt_inv hnx hp2
    subst he2
    obtain ⟨he1, s2, s3, s4, s5⟩ := num_inv h256 hq hp1
    obtain ⟨t2, t3, t4, t5⟩ := tag he1
    subst h1 h2 t2 s2 r2
    refine ⟨1 + (2 + x2), by omega, by omega, ?_, by rw [hf]; decide⟩
    have hyl : y.length = x2 := by rw [← r4, List.length_take, List.length_drop]; omega
    rw [take_two t4 (take_two s4 r4)]
    unfold rawB
    simp only [hf]
    rw [if_neg (by decide), if_pos trivial, str_size, txN_str y hby, hyl, show ((t : Int) % 256).toNat = t by omega]
    rfl
  · rw [c2 hf] at h
    injection h with h1 h2
    injection h2 with h2 h3
    obtain ⟨q, hq⟩ : ∃ p, num bs a1 e1 4 = p := ⟨_, rfl⟩
    rw [hq] at h1 h2 h3
    obtain ⟨x2, a2, e2⟩ := q
    simp only at h1 h2 h3
    subst h3
    obtain ⟨he1, s2, s3, s4, s5⟩ := num_inv h256 hq hp1
    obtain ⟨t2, t3, t4, t5⟩ := tag he1
    subst h1 h2 t2 s2
    refine ⟨1 + 4, by omega, by omega, ?_, by rw [hf]; decide⟩
    rw [take_two t4 s4]
    unfold rawB
    simp only [hf]
    rw [if_neg (by decide), if_neg (by decide), if_pos trivial, show ((t : Int) % 256).toNat = t by omega]
    rfl
  · rw [c3 hf] at h
    injection h with h1 h2
    injection h2 with h2 h3
    obtain ⟨q, hq⟩ : ∃ p, num bs a1 e1 8 = p := ⟨_, rfl⟩
    rw [hq] at h1 h2 h3
    obtain ⟨x2, a2, e2⟩ := q
    simp only at h1 h2 h3
    subst h3
    obtain ⟨he1, s2, s3, s4, s5⟩ := num_inv h256 hq hp1
    obtain ⟨t2, t3, t4, t5⟩ := tag he1
    subst h1 h2 t2 s2
    refine ⟨1 + 8, by omega, by omega, ?_, by rw [hf]; decide⟩
    rw [take_two t4 s4]
    unfold rawB
    simp only [hf]
    rw [if_neg (by decide), if_neg (by decide), if_neg (by decide), if_pos trivial, show ((t : Int) % 256).toNat = t by omega]
    rfl
  · rw [c4 hf] at h
    injection h with h1 h2
    injection h2 with h2 h3
    obtain ⟨q, hq⟩ : ∃ p, num bs a1 e1 2 = p := ⟨_, rfl⟩
    rw [hq] at h1 h2 h3
    obtain ⟨x2, a2, e2⟩ := q
    simp only at h1 h2 h3
    subst h3
    obtain ⟨he1, s2, s3, s4, s5⟩ := num_inv h256 hq hp1
    obtain ⟨t2, t3, t4, t5⟩ := tag he1
    subst h1 h2 t2 s2
    refine ⟨1 + 2, by omega, by omega, ?_, by rw [hf]; decide⟩
    rw [take_two t4 s4]
    unfold rawB
    simp only [hf]
    rw [if_neg (by decide), if_neg (by decide), if_neg (by decide), if_neg (by decide), if_pos trivial, u64_small s5, show ((t : Int) % 256).toNat = t by omega]
    rfl
  · rw [c5 hf] at h
    injection h with h1 h2
    injection h2 with h2 h3
    obtain ⟨q, hq⟩ : ∃ p, num bs a1 e1 2 = p := ⟨_, rfl⟩
    have hp2 := num_place bs a1 e1 2 hp1
    rw [hq] at h1 h2 h3 hp2
    obtain ⟨x2, a2, e2⟩ := q
    simp only at h1 h2 h3 hp2
    obtain ⟨q3, hq3⟩ : ∃ p, num bs a2 e2 2 = p := ⟨_, rfl⟩
    rw [hq3] at h1 h2 h3
    obtain ⟨x3, a3, e3⟩ := q3
    simp only at h1 h2 h3
    subst h3
    obtain ⟨he2, r2, r3, r4, r5⟩ := num_inv h256 hq3 hp2
    subst he2
    obtain ⟨he1, s2, s3, s4, s5⟩ := num_inv h256 hq hp1
    obtain ⟨t2, t3, t4, t5⟩ := tag he1
    subst h1 h2 t2 s2 r2
    refine ⟨1 + (2 + 2), by omega, by omega, ?_, by rw [hf]; decide⟩
    rw [take_two t4 (take_two s4 r4)]
    unfold rawB
    simp only [hf]
    rw [if_neg (by decide), if_neg (by decide), if_neg (by decide), if_neg (by decide), if_neg (by decide), u64_small s5, u64_small r5, show ((t : Int) % 256).toNat = t by omega]
    rfl
theorem zr0_none : rawB zr0 = [] := by decide
theorem rd_inv {bs : List Nat} (h256 : ∀ x ∈ bs, x < 256) {n : Nat} : ∀ (f : Nat) {out : List Raw} {a : Nat} {err : Int} {out' : List Raw} {a' : Nat}, rdLoop bs n f out a err = (out', a', 0) → a ≤ bs.length → n ≤ out.length + f →
    err = 0 ∧ n ≤ out'.length ∧ ∃ ext k, out' = out ++ ext ∧ a' = a + k ∧ a + k ≤ bs.length ∧ (bs.drop a).take k = ext.flatMap rawB
  | 0, out, a, err, out', a', h, ha, hn => by
    rw [rdLoop] at h
    injection h with h1 h2
    injection h2 with h2 h3
    subst h1 h2
    exact ⟨h3, by omega, [], 0, by simp, rfl, by omega, rfl⟩
  | f + 1, out, a, err, out', a', h, ha, hn => by
    rw [rdLoop] at h
    split at h
    · rename_i hc
      obtain ⟨O, hO⟩ : ∃ o, oneM bs a = o := ⟨_, rfl⟩
      rw [hO] at h
      obtain ⟨r, a1, e1⟩ := O
      simp only at h
      have hpl : a1 ≤ bs.length ∨ e1 ≠ 0 := by
        by_cases he : e1 = 0
        · subst he
          obtain ⟨k, r1, r2, _, _⟩ := one_inv h256 ha hO
          exact .inl (by omega)
        · exact .inr he
      rcases hpl with hpl | hpl
      · obtain ⟨he, hl, ext, k, q1, q2, q3, q4⟩ := rd_inv h256 f h hpl (by rw [List.length_append, List.length_cons]; omega)
        subst he
        obtain ⟨k1, r1, r2, r3, r4⟩ := one_inv h256 ha hO
        subst r1
        refine ⟨hc.2, hl, (r :: (if formM r.tag = 56 then [zr0] else [])) ++ ext, k1 + k, by rw [q1, List.append_assoc], by omega, by omega, ?_⟩
        rw [take_two r3 q4, List.flatMap_append, List.flatMap_cons]
        congr 1
        split
        · rw [List.flatMap_cons, zr0_none]; simp
        · simp
      · exfalso
        cases f with
        | zero => rw [rdLoop] at h; injection h with _ h2; injection h2 with _ h3; exact hpl h3
        | succ f => rw [rdLoop, if_neg (fun hh => hpl hh.2)] at h; injection h with _ h2; injection h2 with _ h3; exact hpl h3
    · rename_i hc
      injection h with h1 h2
      injection h2 with h2 h3
      subst h1 h2
      exact ⟨h3, by have : ¬ out.length < n := fun hh => hc ⟨hh, h3⟩; omega, [], 0, by simp, rfl, by omega, rfl⟩
/-- THE BYTES OF A POOL THAT IS READ ARE THE POOL'S. -/
theorem read_bytes {bs : List Nat} (h256 : ∀ x ∈ bs, x < 256) {l : List Raw} {a : Nat} {e : Int} (h : readM bs = (some l, a, e)) : e = 0 ∧ a ≤ bs.length ∧ bs.take a = bytesM l := by
  unfold readM at h
  obtain ⟨p, hp⟩ : ∃ p, num bs 0 0 2 = p := ⟨_, rfl⟩
  have hpl := num_place bs 0 0 2 (Nat.zero_le _)
  rw [hp] at h hpl
  obtain ⟨n, a0, e0⟩ := p
  simp only at h hpl
  obtain ⟨e1, he1⟩ : ∃ e, (if e0 = 0 ∧ n = 0 then (2 : Int) else e0) = e := ⟨_, rfl⟩
  rw [he1] at h
  obtain ⟨R, hR⟩ : ∃ r, rdLoop bs n n [zr0] a0 e1 = r := ⟨_, rfl⟩
  rw [hR] at h
  obtain ⟨out, a', e'⟩ := R
  simp only at h
  obtain ⟨eF, heF⟩ : ∃ x, (if e' = 0 ∧ n < out.length then (2 : Int) else e') = x := ⟨_, rfl⟩
  rw [heF] at h
  injection h with h1 h2
  injection h2 with h2 h3
  split at h1
  · rename_i hz
    have he0 : e' = 0 ∧ ¬ n < out.length := by
      rw [hz] at heF
      split at heF
      · cases heF
      · rename_i hh; exact ⟨heF, fun hn => hh ⟨heF, hn⟩⟩
    obtain ⟨rfl, hle⟩ := he0
    injection h1 with h1
    obtain ⟨q0, q1, ext, k, q2, q3, q4, q5⟩ := rd_inv h256 n hR hpl (by simp)
    subst q0
    have hz0 : e0 = 0 := by
      split at he1
      · cases he1
      · exact he1
    subst hz0
    obtain ⟨_, s2, s3, s4, _⟩ := num_inv h256 hp (Nat.zero_le _)
    subst h1 h2 q3
    rw [Nat.zero_add] at s2
    subst s2
    refine ⟨by rw [← h3]; exact hz, q4, ?_⟩
    have hlen : out.length = n := by omega
    rw [List.drop_zero] at s4
    rw [List.take_add, s4, q5]
    unfold bytesM
    rw [hlen, q2]
    rfl
  · cases h1
theorem rawB_byte (r : Raw) : ∀ x ∈ rawB r, x < 256 := by
  have hbe : ∀ v n, ∀ x ∈ beN v n, x < 256 := fun v n x hx => leb_lt v n x (by unfold beN at hx; simpa using hx)
  have htx : ∀ s : ByteArray, ∀ x ∈ txN s, x < 256 := fun s x hx => by
    obtain ⟨b, _, rfl⟩ := List.mem_map.1 hx
    exact UInt8.toNat_lt b
  intro x hx
  unfold rawB at hx
  split at hx
  · cases hx
  · rcases List.mem_cons.1 hx with rfl | hx
    · omega
    · split at hx
      · rcases List.mem_append.1 hx with hx | hx
        · exact hbe _ _ x hx
        · exact htx _ x hx
      · split at hx
        · exact hbe _ _ x hx
        · split at hx
          · exact hbe _ _ x hx
          · split at hx
            · exact hbe _ _ x hx
            · rcases List.mem_append.1 hx with hx | hx
              · exact hbe _ _ x hx
              · exact hbe _ _ x hx
theorem bytes_byte (l : List Raw) : ∀ x ∈ bytesM l, x < 256 := by
  intro x hx
  rcases List.mem_append.1 hx with hx | hx
  · exact leb_lt l.length 2 x (by unfold beN at hx; simpa using hx)
  · obtain ⟨r, _, hr⟩ := List.mem_flatMap.1 hx
    exact rawB_byte r x hr
/-- A POOL THAT IS READ OF ITS OWN BYTES LEAVES NOTHING. -/
theorem read_back {l : List Raw} {a : Nat} {e : Int} (h : readM (bytesM l) = (some l, a, e)) : e = 0 ∧ a = (bytesM l).length := by
  obtain ⟨h1, h2, h3⟩ := read_bytes (bytes_byte l) h
  refine ⟨h1, ?_⟩
  have := congrArg List.length h3
  rw [List.length_take] at this
  omega
end Go.Proofs.Ytmojclbejmnikaa
