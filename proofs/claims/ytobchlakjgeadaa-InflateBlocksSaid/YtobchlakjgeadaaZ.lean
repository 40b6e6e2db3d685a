/-
  What more room, less room, and bits behind the end do to what deflated bytes stand for: mathematics, nothing of the program. Conditions: each theorem names its own.
-/
import Derived.Test.YtobchlakjgeadaaTC
namespace Go.Proofs.Ytobchlakjgeadaa

/-- The first a bits are the same. -/
def Ag (L L' : List Bool) (a : Nat) : Prop := L.take a = L'.take a
theorem Ag.mono {L L' : List Bool} {a b : Nat} (h : Ag L L' a) (hb : b ≤ a) : Ag L L' b := by
  have := congrArg (List.take b) h
  rwa [List.take_take, List.take_take, Nat.min_eq_left hb] at this
theorem Ag.refl (L : List Bool) (a : Nat) : Ag L L a := rfl
theorem Ag.length {L L' : List Bool} {a b : Nat} (h : Ag L L' a) (hb : b ≤ a) (hl : b ≤ L.length) : b ≤ L'.length := by
  have := congrArg List.length h
  simp at this
  omega
theorem Ag.mid {L L' : List Bool} {a : Nat} (h : Ag L L' a) (p n : Nat) (hp : p + n ≤ a) : (L.drop p).take n = (L'.drop p).take n := by
  have e : ∀ X : List Bool, (X.drop p).take n = ((X.take a).drop p).take n := by
    intro X
    rw [List.drop_take, List.take_take, Nat.min_eq_left (by omega)]
  rw [e L, e L', h]

theorem bits_ok {L : List Bool} {a n v : Nat} (h : bitsAt L a n = .ok v) : a + n ≤ L.length ∧ num ((L.drop a).take n) = v := by
  unfold bitsAt at h
  split at h
  · exact ⟨by assumption, by injection h⟩
  · cases h
theorem bits_ag {L L' : List Bool} {a b n v : Nat} (h : bitsAt L a n = .ok v) (hA : Ag L L' b) (hb : a + n ≤ b) : bitsAt L' a n = .ok v := by
  obtain ⟨h1, h2⟩ := bits_ok h
  unfold bitsAt
  rw [if_pos (hA.length hb h1), ← hA.mid a n hb, h2]

theorem look_ag {l : List Int} {bits bits' : List Bool} {n u : Nat} : ∀ f k v, look l bits f k v = .found n u → (∀ i, i < n → bits'[i]? = bits[i]?) → k < n ∧ look l bits' f k v = .found n u
  | 0, k, v, h, _ => by simp [look] at h
  | f + 1, k, v, h, hb => by
    simp only [look] at h ⊢
    by_cases hw : words l ≤ bas l (k + 1)
    · rw [if_pos hw] at h; cases h
    · rw [if_neg hw] at h ⊢
      cases hk : bits[k]? with
      | none => rw [hk] at h; cases h
      | some b =>
        rw [hk] at h
        simp only at h
        by_cases hu : 2 * v + b.toNat < upTo l (k + 1)
        · rw [if_pos hu] at h
          injection h with h1 h2
          have : k < n := by omega
          rw [hb k this, hk]
          simp only
          rw [if_pos hu, h1, h2]
          exact ⟨this, rfl⟩
        · rw [if_neg hu] at h
          obtain ⟨h1, h2⟩ := look_ag f (k + 1) _ h hb
          rw [hb k (by omega), hk]
          simp only
          rw [if_neg hu]
          exact ⟨by omega, h2⟩

theorem sign_ok {l : List Int} {L : List Bool} {a j b : Nat} (h : signAt l L a = .ok (j, b)) : a < b ∧ b ≤ a + (L.drop a).length ∧ ∃ n v, lookup l (L.drop a) = .found n v ∧ b = a + n := by
  unfold signAt at h
  split at h
  · rename_i n v hl
    injection h with h
    injection h with h1 h2
    obtain ⟨k1, k2, k3, _⟩ := lookup_found hl
    have hn : 0 < n := by
      rcases Nat.eq_zero_or_pos n with h0 | h0
      · rw [h0, upTo_zero] at k3; omega
      · exact h0
    exact ⟨by omega, by omega, n, v, hl, h2.symm⟩
  · cases h
  · cases h
theorem sign_ag {l : List Int} {L L' : List Bool} {a j b c : Nat} (h : signAt l L a = .ok (j, b)) (hA : Ag L L' c) (hb : b ≤ c) : signAt l L' a = .ok (j, b) := by
  obtain ⟨_, _, n, v, hl, rfl⟩ := sign_ok h
  have h2 := (look_ag (bits' := L'.drop a) 16 0 0 hl (fun i hi => by
    have := hA.mid a n hb
    have h3 := congrArg (fun x => x[i]?) this
    simp only [List.getElem?_take, if_pos hi] at h3
    exact h3.symm)).2
  unfold signAt at h ⊢
  rw [hl] at h
  rw [show lookup l (L'.drop a) = .found n v from h2]
  exact h

theorem add_ok {q : Option (Nat × Nat)} {L : List Bool} {a v b : Nat} (h : addAt q L a = .ok (v, b)) : a ≤ b := by
  unfold addAt at h
  split at h
  · cases h
  · split at h
    · cases h
    · injection h with h
      injection h with h1 h2
      omega
theorem add_ag {q : Option (Nat × Nat)} {L L' : List Bool} {a v b c : Nat} (h : addAt q L a = .ok (v, b)) (hA : Ag L L' c) (hb : b ≤ c) : addAt q L' a = .ok (v, b) := by
  unfold addAt at h ⊢
  split at h
  · cases h
  · split at h
    · cases h
    · rename_i hx
      injection h with h
      injection h with h1 h2
      rw [bits_ag hx hA (by omega)]
      simp only
      rw [h1, h2]

/-- A copy that is made: as it was with other room, if that is enough; else ErrLong. -/
theorem copy_ok {y : List Int} {L : List Bool} {most s a b : Nat} {o u : List Nat} (h : copyAt y L most s a o = .ok (b, u)) :
    a ≤ b ∧ o.length ≤ u.length ∧ (∀ L' m', Ag L L' b → u.length ≤ m' → copyAt y L' m' s a o = .ok (b, u)) ∧ (∀ m', m' < u.length → copyAt y L m' s a o = .er 3) := by
  unfold copyAt at h
  split at h
  · cases h
  rename_i n a1 h1
  split at h
  · cases h
  rename_i d a2 h2
  split at h
  · cases h
  rename_i k a3 h3
  split at h
  · cases h
  rename_i g1
  split at h
  · cases h
  rename_i g2
  injection h with h
  injection h with e1 e2
  subst e1 e2
  have l1 := add_ok h1
  have l2 := (sign_ok h2).1
  have l3 := add_ok h3
  refine ⟨by omega, by rw [copyN_length]; omega, fun L' m' hA hm => ?_, fun m' hm => ?_⟩
  · rw [copyN_length] at hm
    unfold copyAt
    rw [add_ag h1 hA (by omega)]
    simp only
    rw [sign_ag h2 hA (by omega)]
    simp only
    rw [add_ag h3 hA (by omega)]
    simp only
    rw [if_neg g1, if_neg (by omega)]
  · rw [copyN_length] at hm
    unfold copyAt
    rw [h1]
    simp only
    rw [h2]
    simp only
    rw [h3]
    simp only
    rw [if_neg g1, if_pos (by omega)]

theorem sstep_go {x y : List Int} {L : List Bool} {m : Nat} {s t : Nat × List Nat} (h : signStep x y L m s = .go t) :
    s.1 ≤ t.1 ∧ s.2.length ≤ t.2.length ∧ (∀ L' m', Ag L L' t.1 → t.2.length ≤ m' → signStep x y L' m' s = .go t) ∧ (∀ m', m' < t.2.length → s.2.length ≤ m' → signStep x y L m' s = .er 3) := by
  obtain ⟨a, o⟩ := s
  unfold signStep at h
  split at h
  · cases h
  rename_i j b hs
  simp only at hs
  have l1 := (sign_ok hs).1
  split at h
  · cases h
  rename_i g1
  split at h
  · rename_i g2
    split at h
    · cases h
    rename_i g3
    injection h with h
    subst h
    simp only at g3 ⊢
    refine ⟨by omega, by simp, fun L' m' hA hm => ?_, fun m' hm hm2 => ?_⟩
    · simp at hm
      exact step_lone (sign_ag hs hA (Nat.le_refl _)) g2 (by omega)
    · simp at hm
      exact step_long hs g2 (by omega)
  · rename_i g2
    split at h
    · cases h
    rename_i t' hc
    injection h with h
    subst h
    obtain ⟨b', u⟩ := t'
    simp only at hc ⊢
    obtain ⟨k1, k2, k3, k4⟩ := copy_ok hc
    refine ⟨by omega, k2, fun L' m' hA hm => ?_, fun m' hm _ => ?_⟩
    · exact step_copy (sign_ag hs hA (by omega)) (by omega) (k3 L' m' hA hm)
    · exact step_copy_er hs (by omega) (k4 m' hm)
theorem sstep_fin {x y : List Int} {L : List Bool} {m : Nat} {s t : Nat × List Nat} (h : signStep x y L m s = .fin t) :
    s.1 ≤ t.1 ∧ s.2 = t.2 ∧ (∀ L' m', Ag L L' t.1 → signStep x y L' m' s = .fin t) := by
  obtain ⟨a, o⟩ := s
  unfold signStep at h
  split at h
  · cases h
  rename_i j b hs
  simp only at hs
  have l1 := (sign_ok hs).1
  split at h
  · rename_i g1
    subst g1
    injection h with h
    subst h
    exact ⟨by simp only; omega, rfl, fun L' m' hA => step_fin (sign_ag hs hA (Nat.le_refl _))⟩
  · split at h
    · split at h <;> cases h
    · split at h <;> cases h

theorem sruns_ok {x y : List Int} {L : List Bool} {m : Nat} {s : Nat × List Nat} {r : Rs (Nat × List Nat)} (h : Runs (signStep x y L m) s r) : ∀ t, r = .ok t →
    s.1 ≤ t.1 ∧ s.2.length ≤ t.2.length ∧ (∀ L' m', Ag L L' t.1 → t.2.length ≤ m' → Runs (signStep x y L' m') s (.ok t)) ∧ (∀ m', m' < t.2.length → s.2.length ≤ m' → Runs (signStep x y L m') s (.er 3)) := by
  induction h with
  | er _ => intro t e; cases e
  | fin h =>
    intro t e
    injection e with e
    subst e
    obtain ⟨h1, h2, h3⟩ := sstep_fin h
    refine ⟨h1, by rw [h2]; exact Nat.le_refl _, fun L' m' hA _ => .fin (h3 L' m' hA), fun m' h4 h5 => ?_⟩
    rw [h2] at h5; omega
  | @go s t' r h _ ih =>
    intro t e
    obtain ⟨i1, i2, i3, i4⟩ := ih t e
    obtain ⟨h1, h2, h3, h4⟩ := sstep_go h
    refine ⟨by omega, by omega, fun L' m' hA hm => .go (h3 L' m' (hA.mono i1) (by omega)) (i3 L' m' hA hm), fun m' hm hm2 => ?_⟩
    by_cases hl : m' < t'.2.length
    · exact .er (h4 m' hl hm2)
    · exact .go (h3 L m' (.refl _ _) (by omega)) (i4 m' hm (by omega))

theorem run_ok {cl : List Int} {L : List Bool} {a b t : Nat} {l : List Int} {x : Int} (h : runAt cl L a l = .ok (x, t, b)) : a ≤ b ∧ ∀ L', Ag L L' b → runAt cl L' a l = .ok (x, t, b) := by
  unfold runAt at h
  split at h
  · cases h
  rename_i s a1 hs
  have l1 := (sign_ok hs).1
  split at h
  · rename_i g
    injection h with h; injection h with h1 h; injection h with h2 h3
    subst h1 h2 h3
    exact ⟨by omega, fun L' hA => run_len (sign_ag hs hA (Nat.le_refl _)) g⟩
  rename_i g
  split at h
  · cases h
  rename_i v hb
  split at h
  · rename_i g2
    injection h with h; injection h with h1 h; injection h with h2 h3
    subst h1 h2 h3
    exact ⟨by omega, fun L' hA => run_noughts (sign_ag hs hA (by omega)) g2 (bits_ag hb hA (Nat.le_refl _))⟩
  rename_i g2
  split at h
  · cases h
  rename_i g3
  injection h with h; injection h with h1 h; injection h with h2 h3
  subst h1 h2 h3
  refine ⟨by omega, fun L' hA => ?_⟩
  unfold runAt
  rw [sign_ag hs hA (by omega)]
  simp only
  rw [if_neg g, bits_ag hb hA (Nat.le_refl _)]
  simp only
  rw [if_neg g2, if_neg g3]

theorem lruns_ok {cl : List Int} {L : List Bool} {n : Nat} {s : Nat × List Int} {r : Rs (Nat × List Int)} (h : Runs (lensStep cl L n) s r) : ∀ t, r = .ok t → s.1 ≤ t.1 ∧ ∀ L', Ag L L' t.1 → Runs (lensStep cl L' n) s (.ok t) := by
  induction h with
  | er _ => intro t e; cases e
  | @fin s t' h =>
    intro t e
    injection e with e
    subst e
    obtain ⟨a, l⟩ := s
    unfold lensStep at h
    split at h
    · rename_i g
      injection h with h
      subst h
      exact ⟨Nat.le_refl _, fun L' _ => .fin (lens_fin g)⟩
    · split at h
      · cases h
      · split at h <;> cases h
  | @go s t' r h _ ih =>
    intro t e
    obtain ⟨i1, i2⟩ := ih t e
    obtain ⟨a, l⟩ := s
    unfold lensStep at h
    split at h
    · cases h
    rename_i g
    split at h
    · cases h
    rename_i x k b hr
    simp only at hr g
    split at h
    · cases h
    rename_i g2
    injection h with h
    subst h
    obtain ⟨r1, r2⟩ := run_ok hr
    simp only at i1 g2 ⊢
    exact ⟨by omega, fun L' hA => .go (lens_go g (r2 L' (hA.mono i1)) g2) (i2 L' hA)⟩

theorem runF_ok {σ : Type} {f : σ → Step σ} {s t : σ} (h : runF f s = .ok t) : Runs f s (.ok t) := by
  unfold runF at h
  split at h
  · rename_i hx
    have := hx.choose_spec
    rwa [h] at this
  · cases h

theorem llF_ag {L L' : List Bool} {a b : Nat} (hA : Ag L L' b) : ∀ k, a + 3 * k ≤ b → llF L' a k = llF L a k
  | 0, _ => rfl
  | k + 1, h => by rw [llF, llF, llF_ag hA k (by omega), hA.mid (a + 3 * k) 3 (by omega)]

theorem dyn_ok {L : List Bool} {a b : Nat} {x y : List Int} (h : dynAt L a = .ok (b, x, y)) : a ≤ b ∧ ∀ L', Ag L L' b → dynAt L' a = .ok (b, x, y) := by
  unfold dynAt at h
  split at h
  · cases h
  rename_i v hv
  split at h
  · cases h
  rename_i g1
  split at h
  · cases h
  rename_i g2
  split at h
  · cases h
  rename_i g3
  split at h
  · cases h
  rename_i b1 l hr
  split at h
  · cases h
  rename_i g4
  injection h with h; injection h with e1 h; injection h with e2 e3
  subst e1 e2 e3
  obtain ⟨r1, r2⟩ := lruns_ok (runF_ok hr) _ rfl
  simp only at r1 r2
  refine ⟨by omega, fun L' hA => ?_⟩
  have hl : a + 14 + 3 * (v / 1024 + 4) ≤ L'.length := hA.length r1 (by omega)
  have e := llF_ag (a := a + 14) hA (v / 1024 + 4) r1
  unfold dynAt
  rw [bits_ag hv hA (by omega)]
  simp only
  rw [if_neg g1, if_neg (by omega), e, if_neg g3, runF_eq (r2 L' hA)]
  simp only
  rw [if_neg g4]

theorem pack_len8 (l : List Bool) (n : Nat) (h : l.length = 8 * n) : (pack l).length = n := by simp; omega

theorem stored_ok {L : List Bool} {m a b : Nat} {o u : List Nat} (h : storedAt L m a o = .ok (b, u)) :
    a ≤ b ∧ o.length ≤ u.length ∧ (∀ L' m', Ag L L' b → u.length ≤ m' → storedAt L' m' a o = .ok (b, u)) ∧ (∀ m', m' < u.length → storedAt L m' a o = .er 3) := by
  unfold storedAt at h
  split at h
  · cases h
  rename_i v hv
  split at h
  · cases h
  rename_i g1
  split at h
  · cases h
  rename_i g2
  split at h
  · cases h
  rename_i g3
  injection h with h
  injection h with e1 e2
  subst e1 e2
  have hlen : (pack ((L.drop ((a + 7) / 8 * 8 + 32)).take (8 * (v % 65536)))).length = v % 65536 := pack_len8 _ _ (by simp; omega)
  refine ⟨by omega, by simp, fun L' m' hA hm => ?_, fun m' hm => ?_⟩
  · rw [List.length_append, hlen] at hm
    unfold storedAt
    rw [bits_ag hv hA (by omega)]
    simp only
    rw [if_neg g1, if_neg (by omega), if_neg (by have := hA.length (Nat.le_refl _) (by omega); omega), hA.mid _ (8 * (v % 65536)) (Nat.le_refl _)]
  · rw [List.length_append, hlen] at hm
    unfold storedAt
    rw [hv]
    simp only
    rw [if_neg g1, if_pos (by omega)]

theorem kind_ok {L : List Bool} {m k a b : Nat} {o u : List Nat} (h : kindAt L m k a o = .ok (b, u)) :
    a ≤ b ∧ o.length ≤ u.length ∧ (∀ L' m', Ag L L' b → u.length ≤ m' → kindAt L' m' k a o = .ok (b, u)) ∧ (∀ m', m' < u.length → o.length ≤ m' → kindAt L m' k a o = .er 3) := by
  match k, h with
  | 0, h =>
    rw [kindAt] at h
    obtain ⟨h1, h2, h3, h4⟩ := stored_ok h
    exact ⟨h1, h2, fun L' m' hA hm => by rw [kindAt]; exact h3 L' m' hA hm, fun m' hm _ => by rw [kindAt]; exact h4 m' hm⟩
  | 1, h =>
    rw [kindAt] at h
    obtain ⟨h1, h2, h3, h4⟩ := sruns_ok (runF_ok h) _ rfl
    exact ⟨h1, h2, fun L' m' hA hm => by rw [kindAt]; exact runF_eq (h3 L' m' hA hm), fun m' hm hm2 => by rw [kindAt]; exact runF_eq (h4 m' hm hm2)⟩
  | 2, h =>
    rw [kindAt] at h
    split at h
    · cases h
    rename_i a1 x y hd
    obtain ⟨d1, d2⟩ := dyn_ok hd
    obtain ⟨h1, h2, h3, h4⟩ := sruns_ok (runF_ok h) _ rfl
    simp only at h1 h2 h3 h4
    exact ⟨by omega, h2, fun L' m' hA hm => by rw [kindAt, d2 L' (hA.mono h1)]; exact runF_eq (h3 L' m' hA hm), fun m' hm hm2 => by rw [kindAt, hd]; exact runF_eq (h4 m' hm hm2)⟩
  | _ + 3, h => rw [kindAt] at h; cases h

theorem bstep_ok {L : List Bool} {m : Nat} {s t : Nat × List Nat} (h : blockStep L m s = .go t ∨ blockStep L m s = .fin t) :
    s.1 ≤ t.1 ∧ s.2.length ≤ t.2.length ∧ (∀ L' m', Ag L L' t.1 → t.2.length ≤ m' → blockStep L' m' s = blockStep L m s) ∧ (∀ m', m' < t.2.length → s.2.length ≤ m' → blockStep L m' s = .er 3) := by
  obtain ⟨a, o⟩ := s
  unfold blockStep at h
  split at h
  · rcases h with h | h <;> cases h
  rename_i v hv
  simp only at hv
  split at h
  · rcases h with h | h <;> cases h
  rename_i t' hk
  have ht : t' = t := by
    split at h
    · rcases h with h | h
      · cases h
      · injection h
    · rcases h with h | h
      · injection h
      · cases h
  subst ht
  obtain ⟨b, u⟩ := t'
  simp only at hk ⊢
  obtain ⟨k1, k2, k3, k4⟩ := kind_ok hk
  refine ⟨by omega, k2, fun L' m' hA hm => ?_, fun m' hm hm2 => ?_⟩
  · unfold blockStep
    simp only
    rw [bits_ag hv hA (by omega), hv]
    simp only
    rw [k3 L' m' hA hm, hk]
  · unfold blockStep
    simp only
    rw [hv]
    simp only
    rw [k4 m' hm hm2]

theorem bruns_ok {L : List Bool} {m : Nat} {s : Nat × List Nat} {r : Rs (Nat × List Nat)} (h : Runs (blockStep L m) s r) : ∀ t, r = .ok t →
    s.1 ≤ t.1 ∧ s.2.length ≤ t.2.length ∧ (∀ L' m', Ag L L' t.1 → t.2.length ≤ m' → Runs (blockStep L' m') s (.ok t)) ∧ (∀ m', m' < t.2.length → s.2.length ≤ m' → Runs (blockStep L m') s (.er 3)) := by
  induction h with
  | er _ => intro t e; cases e
  | fin h =>
    intro t e
    injection e with e
    subst e
    obtain ⟨h1, h2, h3, h4⟩ := bstep_ok (.inr h)
    exact ⟨h1, h2, fun L' m' hA hm => .fin ((h3 L' m' hA hm).trans h), fun m' hm hm2 => .er (h4 m' hm hm2)⟩
  | @go s t' r h _ ih =>
    intro t e
    obtain ⟨i1, i2, i3, i4⟩ := ih t e
    obtain ⟨h1, h2, h3, h4⟩ := bstep_ok (.inl h)
    refine ⟨by omega, by omega, fun L' m' hA hm => .go ((h3 L' m' (hA.mono i1) (by omega)).trans h) (i3 L' m' hA hm), fun m' hm hm2 => ?_⟩
    by_cases hl : m' < t'.2.length
    · exact .er (h4 m' hl hm2)
    · exact .go ((h3 L m' (.refl _ _) (by omega)).trans h) (i4 m' hm (by omega))
end Go.Proofs.Ytobchlakjgeadaa
