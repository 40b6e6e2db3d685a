/-
  Memory while bytes are told in tokens: the chains, the row of tokens, the token that waits. Conditions: each theorem names its own.
-/
import Derived.Test.YthlgceeldnhhbaaU
import Derived.Test.YthlgceeldnhhbaaE
namespace Go.Proofs.Ythlgceeldnhhbaa
open Go.RowKit
set_option maxRecDepth 100000

theorem tok_info : (Try.prog.info? 29).map (fun i => (i.zero, i.size, i.bytes)) = some (some (.agg #[.int .u8 0, .int .i64 0, .int .i64 0]), 3, 24) := by kernel_rfl
theorem tvs_one (l : List Tok) : ∀ u ∈ tvs l, u.oneCell' = true := by
  intro u hu
  simp only [tvs, List.mem_flatMap, tc] at hu
  obtain ⟨p, _, hp⟩ := hu
  simp at hp
  rcases hp with rfl | rfl | rfl <;> rfl

theorem seen_tok (w : World) (tl : Nat) (tm td : Int) : Seen (w.alloc (.cells #[.int .u8 tl, .int .i64 tm, .int .i64 td] 29)) (w.heap.size + 1) 3 (some ⟨w.heap.size, 0, none⟩) 1 1 (tvs [⟨tl, tm, td⟩]) := by
  have hW := Whole.new w 29 #[.int .u8 tl, .int .i64 tm, .int .i64 td]
  refine ⟨rfl, Nat.le_refl _, .inr ⟨_, rfl, fun _ => ⟨rfl, Nat.lt_succ_self _, fun j u hu => ?_⟩⟩⟩
  show _ = some u
  simp only [Nat.zero_add]
  rw [hW.cell j]
  have e : tvs [⟨tl, tm, td⟩] = [.int .u8 tl, .int .i64 tm, .int .i64 td] := rfl
  rw [e] at hu
  rw [← hu]
  simp

/-- The row of tokens, the token that waits (in block g5), the chains. -/
structure TkAt (k : Kx) (B0 g5 : Nat) (w : World) (s : Value) (h : Nat) (l : List Tok) (T : Tok) : Prop where
  own : w.ownsRow B0 29 3 s l.length (tvs l)
  ne : ∀ j, s.ownBlock = some j → j ≠ g5
  tk : Whole w g5 29 #[.int .u8 T.lit, .int .i64 T.len, .int .i64 T.dist]
  ch : ChAt k w h
  B : k.B ≤ g5
  lo : k.B ≤ B0

section
variable {k : Kx} {B0 g5 : Nat} {w w' : World} {s : Value} {h h' : Nat} {l : List Tok} {T T' : Tok}
theorem TkAt.below (H : TkAt k B0 g5 w s h l T) (hb : Below w.heap.size w w') : TkAt k B0 g5 w' s h l T :=
  ⟨own_only H.own (Only.of_below hb Nob) (fun _ _ h => h), H.ne, H.tk.only (Only.of_below hb Nob) (fun h => h), H.ch.below hb, H.B, H.lo⟩
theorem TkAt.alloc (H : TkAt k B0 g5 w s h l T) (o : Obj) : TkAt k B0 g5 (w.alloc o) s h l T := H.below ((Below.refl _ _).alloc (Nat.le_refl _) _)
/-- A place has been hung. -/
theorem ChAt.keepW (H : ChAt k w h) (ho : Only (fun i => i = k.M ∨ i = k.g) w w') {g : Nat} {cs : Array Value} (hW : Whole w g 29 cs) : Whole w' g 29 cs :=
  hW.only ho (fun e => e.elim (fun e => H.mp.ne hW e.symm) (fun e => by
    obtain ⟨zs, _, _, z3⟩ := H.ah
    exact hW.ne z3 (by decide) e))
theorem TkAt.kept (H : TkAt k B0 g5 w s h l T) (hc : ChAt k w' h') (ho : Only (fun i => i = k.M ∨ i = k.g) w w') : TkAt k B0 g5 w' s h' l T :=
  ⟨own_only H.own ho (fun j hj e => e.elim (fun e => H.ch.mp.ne_own H.own j hj e) (fun e => by
    obtain ⟨zs, _, _, z3⟩ := H.ch.ah
    exact own_ne_whole H.own z3 (by decide) j hj e)), H.ne, H.ch.keepW ho H.tk, hc, H.B, H.lo⟩
theorem only_put3 (w : World) (g : Nat) (a b c : Value) : Only (fun i => i = g) w (((w.setCell ⟨g, 0, none⟩ a).setCell ⟨g, 1, none⟩ b).setCell ⟨g, 2, none⟩ c) :=
  (((Only.refl (fun i => i = g) w).setCell (p := ⟨g, 0, none⟩) (.inl rfl) _).setCell (p := ⟨g, 1, none⟩) (.inl rfl) _).setCell (p := ⟨g, 2, none⟩) (.inl rfl) _
theorem ChAt.put_other (H : ChAt k w h) {g : Nat} {cs : Array Value} (hW : Whole w g 29 cs) (hB : k.B ≤ g) (ho : Only (fun i => i = g) w w') : ChAt k w' h :=
  H.only ho (H.ch.ne hW (by decide)) (H.mp.ne hW) (by obtain ⟨zs, _, _, q3⟩ := H.ah; exact q3.ne hW (by decide)) (fun i hi e => by omega)
/-- The token that waits is another one. -/
theorem TkAt.put (H : TkAt k B0 g5 w s h l T) (tl : Nat) (tm td : Int) : TkAt k B0 g5 (((w.setCell ⟨g5, 0, none⟩ (.int .u8 tl)).setCell ⟨g5, 1, none⟩ (.int .i64 tm)).setCell ⟨g5, 2, none⟩ (.int .i64 td)) s h l ⟨tl, tm, td⟩ :=
  ⟨own_only H.own (only_put3 w g5 _ _ _) (fun j hj e => H.ne j hj e), H.ne, H.tk.put3 _ _ _, H.ch.put_other H.tk H.B (only_put3 w g5 _ _ _), H.B, H.lo⟩
/-- A block beside them. -/
theorem TkAt.beside (H : TkAt k B0 g5 w s h l T) {g : Nat} {cs : Array Value} (hW : Whole w g 29 cs) (hg : g ≠ g5) (hs : ∀ j, s.ownBlock = some j → j ≠ g) (hB : k.B ≤ g) (ho : Only (fun i => i = g) w w') : TkAt k B0 g5 w' s h l T :=
  ⟨own_only H.own ho (fun j hj e => hs j hj e), H.ne, H.tk.only ho (fun e => hg e.symm), H.ch.put_other hW hB ho, H.B, H.lo⟩
/-- A token more. -/
theorem TkAt.push {s' : Value} {tl : Nat} {tm td : Int} (H : TkAt k B0 g5 w s h l ⟨tl, tm, td⟩) (hg : w.grownBy w' s.ownBlock) (hown : w'.ownsRow B0 29 3 s' (l.length + 1) (tvs l ++ tvs [⟨tl, tm, td⟩])) (hat : s'.ownBlock = s.ownBlock ∨ s'.ownBlock = some w.heap.size) : TkAt k B0 g5 w' s' h (l ++ [⟨tl, tm, td⟩]) ⟨tl, tm, td⟩ := by
  have hO : Only (fun i => s.ownBlock = some i) w w' := (Only.refl _ w).grown hg (fun k hk _ => hk)
  refine ⟨by rw [tvs_append]; simpa using hown, ?_, H.tk.only hO (fun e => H.ne _ e rfl), ?_, H.B, H.lo⟩
  · intro j hj
    rcases hat with e | e
    · exact H.ne j (by rw [← e]; exact hj)
    · rw [e] at hj
      injection hj with hj
      have := H.tk.lt
      omega
  · refine H.ch.only hO (fun e => ?_) (fun e => H.ch.mp.ne_own H.own _ e rfl) (fun e => ?_) (fun i hi e => ?_)
    · exact own_ne_whole H.own H.ch.ch (by decide) _ e rfl
    · obtain ⟨zs, _, _, z3⟩ := H.ch.ah
      exact own_ne_whole H.own z3 (by decide) _ e rfl
    · have := (own_whole H.own e).1
      have := H.lo
      omega
end
end Go.Proofs.Ythlgceeldnhhbaa
