/-
  The contract of newChains. Conditions: the bytes are read as told (Seen), at most 100000 of them.
-/
import Derived.Test.YthlgceeldnhhbaaT
namespace Go.Proofs.Ythlgceeldnhhbaa
open Go.RowKit
set_option maxRecDepth 100000

theorem int_info : (Try.prog.info? 3).map (fun i => (i.zero, i.size, i.bytes)) = some (some (.int .i64 0), 1, 8) := by kernel_rfl

theorem own_exact {w : World} {base : Nat} {e : TypeId} {g n : Nat} {xs : List Value} (h : w.ownsRow base e 1 (.slice (some ⟨g, 0, none⟩) n n) n xs) : Whole w g e xs.toArray := by
  rcases h.2 with ⟨hv, _⟩ | ⟨g', cap', cur, hv, hb, hh, h1, h2, h3, ht⟩
  · cases hv
  · injection hv with e1 e2 e3
    injection e1 with e1
    injection e1 with e1
    subst e1 e3
    unfold Whole
    rw [hh]
    have : cur = xs.toArray := by
      rw [← ht]
      simp only [Nat.mul_one] at h3 ⊢
      rw [List.take_of_length_le (by simp; omega)]
    rw [this]

theorem made_zero (L : Nat) : (madeCells (Value.int .i64 0).cells (L * 1)).toList = iz (List.replicate L 0) := by
  apply List.ext_getElem
  · simp [madeCells, iz]
  · intro i h1 h2
    simp [madeCells, iz, Value.cells, Nat.mod_one]

/-- Where new chains are. -/
def newK (w : World) (A : Option Addr) (n c B : Nat) (bs : List Nat) (C : Nat) : Kx := ⟨A, n, c, B, bs, C, w.heap.size, w.heap.size + 1, min n 32768⟩

set_option maxHeartbeats 1000000 in
theorem newChains_any (A : Option Addr) (n c B : Nat) (bs : List Nat) (hb : bs.length = n) (hn : n ≤ 100000) (h256 : ∀ x ∈ bs, x < 256) (w : World) (hs : Seen w B 1 A n c (bx bs)) (hB : B ≤ w.heap.size) :
    Calls Try.prog 19 #[.slice A n c] w fun e w' => ∃ C, e = .returned (.pointer (some ⟨C, 0, none⟩)) ∧ (newK w A n c B bs C).Good ∧ ChAt (newK w A n c B bs C) w' 0 ∧ Below w.heap.size w w' := by
  obtain ⟨i0, hi0, hz0, hz1, hz2⟩ := info_parts int_info
  have HG : Hid (∀ C, w.heap.size ≤ C → (newK w A n c B bs C).Good) := Lib.hid (fun C hC => ⟨hb, hn, h256, rfl, by simp [newK]; omega, by simpa [newK] using hB, by simp [newK]; omega⟩)
  have HS := Lib.hid hs; clear hs
  obtain ⟨L, hL⟩ : ∃ L, min n 32768 = L := ⟨_, rfl⟩
  have em : (if (32768 : Int) < (n : Int) then (32768 : Int) else (n : Int)) = L := by split <;> omega
  have em2 : (if (n : Int) < 32768 then (n : Int) else (32768 : Int)) = L := by split <;> omega
  have em3 : (if n < 32768 then (n : Int) else (32768 : Int)) = L := by split <;> omega
  have hO : i0.bytes * L ≤ 281474976710656 := by rw [hz2]; omega
  have HM : Hid (MapAt (w.alloc (.map #[] 0)) w.heap.size 0) := Lib.hid (MapAt.new w)
  have HL := Lib.hid hL
  have mm : (Instr.makeMap 46 none).run Try.prog w = .ok (.map (some w.heap.size)) (w.alloc (.map #[] 0)) := rfl
  clear hb h256 hL
  go_enter Try.func19, Try.ntmps19
  go_wp2_with (at_make; refine wpList_make_full _ rfl _ _ 47 rfl w.heap.size 3 i0 _ 1 Try.underlying47 hi0 hz0 hz1 _ _ (L : Int) (L : Int) L rfl rfl rfl rfl hO (by simp only [maxLen]; omega) (by simp) ?_; intro w1 hown1 hg1)
  go_ret
  have hsz : (w.alloc (.map #[] 0)).heap.size = w.heap.size + 1 := by simp
  have h1 := hg1.size
  have hB0 : Below w.heap.size w (w.alloc (.map #[] 0)) := (Below.refl _ _).alloc (Nat.le_refl _) _
  have hB1 : Below (w.heap.size + 1) (w.alloc (.map #[] 0)) w1 := (Below.refl _ _).grown hg1 (by omega) (fun k hk => by cases hk)
  have hB1' : Below (w.alloc (.map #[] 0)).heap.size (w.alloc (.map #[] 0)) w1 := by rw [hsz]; exact hB1
  have hB2 : Below w1.heap.size w1 (w1.alloc (.cells #[.slice A n c, .map (some w.heap.size), .slice (some ⟨w.heap.size + 1, 0, none⟩) L L] 49)) := (Below.refl _ _).alloc (Nat.le_refl _) _
  have hBel : Below w.heap.size w (w1.alloc (.cells #[.slice A n c, .map (some w.heap.size), .slice (some ⟨w.heap.size + 1, 0, none⟩) L L] 49)) := (hB0.trans (hB1.mono (by omega))).trans (hB2.mono (by omega))
  have hwh := own_exact hown1
  rw [made_zero, hsz] at hwh
  refine ⟨w1.heap.size, rfl, HG.out _ (by omega), ⟨?_, ?_, ⟨List.replicate L 0, by simp [newK, HL.out], ?_, ?_⟩, ?_, ?_⟩, hBel⟩
  · have := Whole.new w1 49 #[.slice A n c, .map (some w.heap.size), .slice (some ⟨w.heap.size + 1, 0, none⟩) L L]
    simpa [newK, HL.out] using this
  · exact (HM.out.only (Only.of_below hB1' Nob) (fun h => h)).only (Only.of_below hB2 Nob) (fun h => h)
  · intro z hz
    have := List.eq_of_mem_replicate hz
    omega
  · exact hwh.only (Only.of_below hB2 Nob) (fun h => h)
  · exact HS.out.below (hBel.mono hB)
  · exact Nat.le_trans hB hBel.size
end Go.Proofs.Ythlgceeldnhhbaa
