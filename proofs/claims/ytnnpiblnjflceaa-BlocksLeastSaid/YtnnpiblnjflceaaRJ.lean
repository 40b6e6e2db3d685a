/-
  The contract of Of. Conditions: the slice is read as told (Seen), it has at most a thousand lengths.
-/
import Derived.Test.YtnnpiblnjflceaaRI
namespace Go.Proofs.Ytnnpiblnjflceaa
open Go.RowKit
set_option maxRecDepth 100000


/-- What Of answers. -/
def OfRes (l : List Int) (w : World) (e : Ending) (w' : World) : Prop :=
  (beyondR l = true ∧ e = .returned (.tuple #[.slice none 0 0, .int .i64 5]) ∧ Below w.heap.size w w') ∨
  (beyondR l = false ∧ 320 < l.length ∧ e = .returned (.tuple #[.slice none 0 0, .int .i64 4]) ∧ Below w.heap.size w w') ∨
  (beyondR l = false ∧ l.length ≤ 320 ∧ ∃ (rs : List Rn) (v : Value), e = .returned (.tuple #[v, .int .i64 0]) ∧ w'.ownsRow w.heap.size 97 2 v rs.length (rvs rs) ∧ expR rs [] = (0, l) ∧ rs.length ≤ l.length ∧ Below w.heap.size w w' ∧ rs = ofL l)

theorem beyond_not {l : List Int} (h : beyondR l = false) {y : Int} (hy : y ∈ l) : 0 ≤ y ∧ y ≤ 15 := by
  have := List.any_eq_false.1 h y hy
  simp at this
  omega

set_option maxHeartbeats 2000000 in
theorem of_any (A : Option Addr) (n c B : Nat) (l : List Int) (hn : l.length = n) (h2 : n ≤ 1000) (w : World) (hs : Seen w B 1 A n c (iv l)) (hB : B ≤ w.heap.size) :
    Calls Try.prog 61 #[.slice A n c] w (OfRes l w) := by
  have CC := Lib.hid (containsR_any A n c B l hn h2 w hs)
  obtain ⟨q, hq⟩ : ∃ q, beyondR l = q := ⟨_, rfl⟩
  rw [hq] at CC
  have HQ := Lib.hid hq
  have HN := Lib.hid hn
  have HS := Lib.hid hs
  clear hq hs
  cases q with
  | true =>
    clear hn
    go_enter Try.func61, Try.ntmps61
    go_wp2_with fail
    refine CC.out.mono ?_; rintro e w2 ⟨rfl, rfl⟩
    go_wp2_with fail
    go_ret2
    exact .inl ⟨HQ.out, rfl, Below.refl _ _⟩
  | false =>
    by_cases hm : 320 < n
    · have dm : decide ((320 : Int) < n) = true := decide_eq_true (by omega)
      clear hn
      go_enter Try.func61, Try.ntmps61
      go_wp2_with fail
      refine CC.out.mono ?_; rintro e w2 ⟨rfl, rfl⟩
      go_wp2_with fail
      go_ret2
      exact .inr (.inl ⟨HQ.out, by rw [HN.out]; exact hm, rfl, Below.refl _ _⟩)
    · have dm : decide ((320 : Int) < n) = false := decide_eq_false (by omega)
      have HO0 : Hid ((w.alloc (.cells #[] 97)).ownsRow w.heap.size 97 2 (.slice (some ⟨w.heap.size, 0, none⟩) 0 0) ([] : List Rn).length (rvs [])) := Lib.hid (World.ownsRow_made w #[] 0 (Nat.le_refl _) (by simp [maxLen]) rfl)
      have HB0 : Hid (Below w.heap.size w (w.alloc (.cells #[] 97))) := Lib.hid ((Below.refl _ _).alloc (Nat.le_refl _) _)
      clear hn
      go_enter Try.func61, Try.ntmps61
      go_wp2_with fail
      refine CC.out.mono ?_; rintro e w2 ⟨rfl, rfl⟩
      go_wp2_with fail
      go_loopw [0, 4, 5] (fun s v x wr => ∃ (d : Nat) (A' : Option Addr) (c' : Nat) (rs : List Rn), d ≤ n ∧ s = .slice A' (n - d) c' ∧ Hid (Seen wr B 1 A' (n - d) c' (iv (l.drop d)) ∧ wr.ownsRow w.heap.size 97 2 v rs.length (rvs rs) ∧ expR rs [] = (0, l.take d) ∧ rs.length ≤ d ∧ Below w.heap.size w wr ∧ ofG l (l.length - d) d rs = ofL l)) (fun s _ _ _ => match s with | .slice _ m _ => m | _ => 0)
      case atStart => exact ⟨0, A, c, [], Nat.zero_le _, rfl, Lib.hid ⟨HS.out.below (HB0.out.mono hB), HO0.out, rfl, Nat.le_refl _, HB0.out, rfl⟩⟩
      case round =>
        obtain ⟨d, A', c', rs, hd, rfl, h⟩ := hrel
        by_cases hlt : d < n
        · obtain ⟨sn, own, exp, len, bel, gst⟩ := h.out
          have hdl : (l.drop d).length = n - d := by rw [List.length_drop, HN.out]
          obtain ⟨m, hm'⟩ : ∃ m, n - d = m := ⟨_, rfl⟩
          rw [hm'] at sn hdl ⊢
          obtain ⟨b, o, rfl, hbB, c0⟩ := sn.int hdl (k := 0) (by omega)
          obtain ⟨x, hx⟩ : ∃ x, (l.drop d)[0]'(by omega) = x := ⟨_, rfl⟩
          rw [hx, Nat.add_zero] at c0
          have hxm : x ∈ l := List.mem_of_mem_drop (by rw [← hx]; exact List.getElem_mem _)
          have hxx := beyond_not HQ.out hxm
          have hgd : (l.drop d).getD 0 0 = x := by
            have hdl0 : 0 < (l.drop d).length := by omega
            rw [← hx]; simp only [List.getD]; rw [List.getElem?_eq_getElem hdl0]; rfl
          have hbel := bel.size
          have CL := Lib.hid (like_any (some ⟨b, o, none⟩) m c' B (l.drop d) hdl (by omega) (by omega) wr sn)
          rw [hgd] at CL
          have SN := Lib.hid sn
          have hmc := sn.2.1
          have CA := Lib.hid (fun (t : Nat) (h1 : 1 ≤ t) (h3 : t ≤ m) => appended_any w.heap.size _ rs (l.take d) x t hxx.1 hxx.2 h1 (by rw [List.length_take, HN.out]; omega) (by omega) wr own exp hbel)
          have BEL := Lib.hid bel
          have LEN := Lib.hid len
          obtain ⟨As, cs, rfl, _⟩ := own_form own
          have GST := Lib.hid gst
          have HGD := Lib.hid hgd
          clear sn own exp len bel h hx hxm hgd hdl gst
          have hm0 : 0 < m := by omega
          have dm0 : decide ((0 : Int) < m) = true := decide_eq_true (by omega)
          go_wp2_with fail
          refine CL.out.mono ?_
          rintro e w3 ⟨rfl, k, rfl, hk1, hkm, hk, hlk⟩
          have HK := Lib.hid hk; have HLK := Lib.hid hlk; clear hk hlk
          go_wp2_with fail
          refine (CA.out k hk1 hkm).mono ?_
          rintro e w4 ⟨v', rs', rfl, own', exp', len', bel', eq'⟩
          have HF := Lib.hid (And.intro own' (And.intro exp' (And.intro len' bel')))
          have EQ' := Lib.hid eq'
          clear own' exp' len' bel' eq'
          have hk0 : (0 : Int) ≤ k := by omega
          have hkc : k ≤ c' := by omega
          go_wp2_with fail
          go_roundw
          case rel =>
            have hex : expR rs' [] = (0, l.take (d + k)) := by rw [HF.out.2.1, List.take_add, HK.out]
            have hle : rs'.length ≤ d + k := by have := HF.out.2.2.1; have := LEN.out; omega
            have hmk : n - (d + k) = m - k := by omega
            have hgs : ofG l (l.length - (d + k)) (d + k) rs' = ofL l := by rw [← GST.out, EQ'.out]; exact (ofG_step l d k x rs (by rw [HN.out]; exact hlt) HGD.out HLK.out).symm
            by_cases hck : c' = k
            · refine ⟨d + k, some ⟨b, o, none⟩, c' - k, rs', by omega, by rw [if_pos hck, hmk], Lib.hid ⟨?_, HF.out.1, hex, hle, BEL.out.trans HF.out.2.2.2, hgs⟩⟩
              have e0 : l.drop (d + k) = [] := List.drop_eq_nil_of_le (by rw [HN.out]; omega)
              rw [hmk, e0, show m - k = 0 by omega]
              exact ⟨rfl, Nat.zero_le _, .inr ⟨_, rfl, fun hx => absurd rfl hx⟩⟩
            · refine ⟨d + k, some ⟨b, o + k, none⟩, c' - k, rs', by omega, by rw [if_neg hck, hmk], Lib.hid ⟨?_, HF.out.1, hex, hle, BEL.out.trans HF.out.2.2.2, hgs⟩⟩
              have h3 := SN.out.cut (q := k) (n := m - k) (by omega)
              have e : ((iv (l.drop d)).drop k).take (m - k) = iv (l.drop (d + k)) := by
                unfold iv
                rw [← List.map_drop, ← List.map_take, List.drop_drop, List.take_of_length_le (by rw [List.length_drop, HN.out]; omega)]
              rw [e] at h3
              simp only [Option.map_some, Addr.add_lit] at h3
              rw [hmk]
              exact h3.below (HF.out.2.2.2.mono hB)
          case measure => simp; omega
        · obtain rfl : d = n := by omega
          have hz : d - d = 0 := by omega
          rw [hz]
          have HL : Hid (l.take d = l) := Lib.hid (List.take_of_length_le (by rw [HN.out]; exact Nat.le_refl _))
          go_wp2_with fail
          go_ret2
          exact .inr (.inr ⟨HQ.out, by rw [HN.out]; omega, rs, _, rfl, h.out.2.1, by rw [← HL.out]; rw [HL.out]; have := h.out.2.2.1; rw [HL.out] at this; exact this, by rw [HN.out]; exact h.out.2.2.2.1, h.out.2.2.2.2.1, by have := h.out.2.2.2.2.2; rw [HN.out, Nat.sub_self] at this; exact this⟩)

end Go.Proofs.Ytnnpiblnjflceaa
