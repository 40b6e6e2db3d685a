/-
  The program's appendSign and Encode. Conditions: a text of at most a hundred thousand bytes, and unicode/utf8's tables as they are laid.
-/
import Derived.Test.YtdfliogomkpceaaDoorWE
import Derived.Test.YtdfliogomkpceaaDoorS
import Derived.Test.YtdfliogomkpceaaDoorUH
import Derived.Lib.ValidLaws
namespace Go.Proofs.YtdfliogomkpceaaDoor
open Go Go.RowKit
set_option maxRecDepth 100000

theorem bad_iff {s : List UInt8} (hs : s ≠ []) : badS s ↔ (Lib.decodeL s).1 = 65533 ∧ (Lib.decodeL s).2 = 1 := by
  constructor
  · rintro ⟨h1, h2⟩
    by_cases hw : (Lib.decodeL s).2 = 1
    · exact ⟨h1, hw⟩
    · exfalso
      have he := Lib.encode_decode s hs (fun h => hw h.2)
      have hle := Lib.decodeL_le s hs
      rw [h1] at he
      have e : Lib.encodeRune ((65533 : Nat) : Int) = [239, 191, 189] := by decide
      rw [e] at he
      have hl := congrArg List.length he
      rw [List.length_take, Nat.min_eq_left hle] at hl
      rw [← hl] at he
      exact h2 he.symm
  · intro h
    by_cases hb : badS s
    · exact hb
    · exact absurd h (bad_width hb)
theorem valid_sg : ∀ (n : Nat) (p : List Nat) (s : List UInt8), s.length ≤ n → Lib.validD s = (sgM p s).isSome
  | n, p, [], _ => by rw [sgM]; rfl
  | 0, p, c :: r, hn => by simp at hn
  | n + 1, p, c :: r, hn => by
    rw [Lib.validD_step _ (by simp), sgM]
    have hw := Lib.decodeL_width (c :: r)
    by_cases hb : badS (c :: r)
    · rw [if_pos hb, if_pos ((bad_iff (by simp)).1 hb)]; rfl
    · rw [if_neg hb, if_neg (fun h => hb ((bad_iff (by simp)).2 h))]
      have e : r.drop ((Lib.decodeL (c :: r)).2 - 1) = (c :: r).drop (Lib.decodeL (c :: r)).2 := by
        rw [show (Lib.decodeL (c :: r)).2 = ((Lib.decodeL (c :: r)).2 - 1) + 1 by omega, List.drop_succ_cons, Nat.add_sub_cancel]
      rw [e]
      exact valid_sg n _ _ (by rw [List.length_drop]; simp at hn ⊢; omega)

set_option maxHeartbeats 8000000 in
theorem appendSign_any (c : Nat) (hc : c < 1114112) (B : Nat) (v : Value) (L : Nat) (xs : List Value) (w : World) (ho : w.ownsRow B 27 1 v L xs) (hB : B ≤ w.heap.size) (hL : L ≤ 10000000) :
    Calls Tryd.prog 20 #[v, .int .i32 (c : Int)] w fun e w' => ∃ v', e = .returned v' ∧ w'.ownsRow B 27 1 v' (L + (uOf c).length) (xs ++ uv (uOf c)) ∧ Below B w w' := by
  obtain ⟨i0, hi0, hz0, hz1, hz2⟩ := info_parts unit_info
  obtain ⟨A4, c4, rfl, _⟩ := own_form ho
  have HO := Lib.hid ho
  clear ho
  by_cases h1 : c < 65536
  · have huo : uOf c = [c] := by rw [uOf, if_pos h1]
    rw [huo]
    have e1 : decide ((c : Int) < 65536) = true := by rw [decide_eq_true_iff]; omega
    have u1 : IntKind.u16.wrap (c : Int) = (c : Int) := IntWalk.u16_in _ (by omega)
    have HS := Lib.hid (seen_new w 27 (uv [c]) 1 rfl #[.int .u16 (c : Int)] rfl)
    have BB := Lib.hid ((Below.refl w.heap.size w).alloc (Nat.le_refl _) (.cells #[.int .u16 (c : Int)] 27))
    have HO2 := Lib.hid (own_only HO.out (Only.of_below BB.out Nob) (fun _ _ h => h))
    have r1 : L + 1 ≤ maxLen := by simp [maxLen]; omega
    have r2 : (L + 1) * 2 ≤ 140737488355328 := by omega
    have r3 : B ≤ (w.alloc (.cells #[.int .u16 (c : Int)] 27)).heap.size := by rw [World.size_alloc]; omega
    clear huo h1
    go_enter Tryd.func20, Tryd.ntmps20
    go_wp2_with (at_builtin; refine wpList_append_seen _ rfl (.tmp 8) (.tmp 11) _ rfl B 27 i0 _ 1 2 Tryd.underlying23 hi0 hz0 hz1 hz2 rfl (by omega) (.slice A4 L c4) L xs rfl HO2.out (w.heap.size + 1) (some ⟨w.heap.size, 0, none⟩) 1 1 (uv [c]) rfl HS.out (uv_one _) r1 r2 r3 ?_; intro v2 w2 ho2 hg2 hv2)
    go_ret
    exact ⟨_, rfl, ho2, ((Below.refl B w).alloc hB _).grown hg2 r3 (fun j hj => (own_whole HO.out hj).1)⟩
  · obtain ⟨d, hcd⟩ : ∃ d, c - 65536 = d := ⟨_, rfl⟩
    obtain ⟨a, ha⟩ : ∃ a, d / 1024 = a := ⟨_, rfl⟩
    obtain ⟨b, hb⟩ : ∃ a, d % 1024 = a := ⟨_, rfl⟩
    have huo : uOf c = [55296 + a, 56320 + b] := by rw [uOf, if_neg h1, hcd, ha, hb]
    rw [huo]
    have e1 : decide ((c : Int) < 65536) = false := by rw [decide_eq_false_iff_not]; omega
    have e2 : ∀ z : Int, z = (d : Int) → IntKind.i32.wrap z = (d : Int) := fun z h => h ▸ (by rw [IntKind.wrap_i32]; omega)
    have e3 : IntKind.u32.wrap (d : Int) = (d : Int) := by rw [IntKind.wrap_u32]; omega
    have e4 : (c : Int) - 65536 = (d : Int) := by omega
    have s1 : (d : Int) / 1024 = (a : Int) := by omega
    have s2 := a32_1023 d b (by omega) hb
    have w1 : IntKind.u32.wrap (55296 + (a : Int)) = 55296 + (a : Int) := by rw [IntKind.wrap_u32]; omega
    have w2 : IntKind.u32.wrap (56320 + (b : Int)) = 56320 + (b : Int) := by rw [IntKind.wrap_u32]; omega
    have w3 : IntKind.u16.wrap (55296 + (a : Int)) = 55296 + (a : Int) := by rw [IntKind.wrap_u16]; omega
    have w4 : IntKind.u16.wrap (56320 + (b : Int)) = 56320 + (b : Int) := by rw [IntKind.wrap_u16]; omega
    have hcs : (#[.int .u16 (55296 + (a : Int)), .int .u16 (56320 + (b : Int))] : Array Value).toList = uv [55296 + a, 56320 + b] := by simp [uv]
    have HS := Lib.hid (seen_new w 27 (uv [55296 + a, 56320 + b]) 2 rfl #[.int .u16 (55296 + (a : Int)), .int .u16 (56320 + (b : Int))] hcs)
    have BB := Lib.hid ((Below.refl w.heap.size w).alloc (Nat.le_refl _) (.cells #[.int .u16 (55296 + (a : Int)), .int .u16 (56320 + (b : Int))] 27))
    have HO2 := Lib.hid (own_only HO.out (Only.of_below BB.out Nob) (fun _ _ h => h))
    have r1 : L + 2 ≤ maxLen := by simp [maxLen]; omega
    have r2 : (L + 2) * 2 ≤ 140737488355328 := by omega
    have r3 : B ≤ (w.alloc (.cells #[.int .u16 (55296 + (a : Int)), .int .u16 (56320 + (b : Int))] 27)).heap.size := by rw [World.size_alloc]; omega
    clear huo h1 ha hb hcs hcd
    go_enter Tryd.func20, Tryd.ntmps20
    go_wp2_with (at_builtin; refine wpList_append_seen _ rfl (.tmp 16) (.tmp 25) _ rfl B 27 i0 _ 1 2 Tryd.underlying23 hi0 hz0 hz1 hz2 rfl (by omega) (.slice A4 L c4) L xs rfl HO2.out (w.heap.size + 1) (some ⟨w.heap.size, 0, none⟩) 2 2 (uv [55296 + a, 56320 + b]) rfl HS.out (uv_one _) r1 r2 r3 ?_; intro v2 w2 ho2 hg2 hv2)
    go_ret
    exact ⟨_, rfl, ho2, ((Below.refl B w).alloc hB _).grown hg2 r3 (fun j hj => (own_whole HO.out hj).1)⟩
end Go.Proofs.YtdfliogomkpceaaDoor
