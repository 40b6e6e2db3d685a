/-
  Texts as rows of bytes, units as rows of numbers; what all walks of this layer share. Conditions: none.
-/
import Derived.Test.YtibkdmliolebgaaDoorB
import Derived.Test.YtibkdmliolebgaaDoorProg
import Derived.Deep.LoopGhost
import Derived.Laws.Concat
import Derived.Lib.BufferOld
namespace Go.Proofs.YtibkdmliolebgaaDoor
open Go Go.RowKit
set_option maxRecDepth 100000

/-- A call that leaves all as it was. -/
def Rets (w : World) (v : Value) (e : Ending) (w' : World) : Prop := e = .returned v ∧ w = w'
/-- A call that leaves all that was there as it was. -/
def Gives (w : World) (v : Value) (e : Ending) (w' : World) : Prop := e = .returned v ∧ Below w.heap.size w w'
def tx (l : List UInt8) : ByteArray := ⟨l.toArray⟩
theorem tx_data (s : ByteArray) : tx s.data.toList = s := by simp [tx]
theorem tx_list (l : List UInt8) : (tx l).data.toList = l := by simp [tx]
theorem tx_size (l : List UInt8) : (tx l).size = l.length := by simp [tx, ByteArray.size]
theorem tx_app (a b : List UInt8) : tx a ++ tx b = tx (a ++ b) := by
  unfold tx
  rw [ByteArray.mk_append_mk]
theorem tx_at (l : List UInt8) (i : Nat) (h : i < (tx l).size) : (tx l)[i] = l[i]'(by rw [tx_size] at h; exact h) := by
  show (tx l).data[i] = _
  simp [tx]
theorem tx_cut (l : List UInt8) (i j : Nat) : (tx l).extract i j = tx ((l.take j).drop i) := by
  unfold tx
  rw [ByteArray.extract_mk]
  congr 1
  simp [List.drop_take]
theorem tx_inj {a b : List UInt8} : tx a = tx b ↔ a = b := ⟨fun h => by rw [← tx_list a, h, tx_list], fun h => by rw [h]⟩
theorem info_parts {t : TypeId} {z : Value} {n k : Nat} (h : (Tryd.prog.info? t).map (fun i => (i.zero, i.size, i.bytes)) = some (some z, n, k)) : ∃ i, Tryd.prog.info? t = some i ∧ i.zero = some z ∧ i.size = n ∧ i.bytes = k := by
  cases hi : Tryd.prog.info? t with
  | none => rw [hi] at h; simp at h
  | some i => rw [hi] at h; simp at h; exact ⟨i, rfl, h.1, h.2.1, h.2.2⟩
theorem byte_info : (Tryd.prog.info? 5).map (fun i => (i.zero, i.size, i.bytes)) = some (some (.int .u8 0), 1, 1) := by kernel_rfl
theorem unit_info : (Tryd.prog.info? 30).map (fun i => (i.zero, i.size, i.bytes)) = some (some (.int .u16 0), 1, 2) := by kernel_rfl
theorem int_info : (Tryd.prog.info? 3).map (fun i => (i.zero, i.size, i.bytes)) = some (some (.int .i64 0), 1, 8) := by kernel_rfl
/-- Bytes in memory, as a text. -/
theorem conv_bytes {w : World} {B : Nat} {A : Option Addr} {n c : Nat} {l : List UInt8} (h : Seen w B 1 A n c (Lib.byteCells l)) :
    (convert 68 9 (.slice A n c)).run Tryd.prog w = .ok (.string (tx l)) w := by
  obtain ⟨h1, h2, h3⟩ := h
  rw [Lib.byteCells_length, Nat.mul_one] at h1
  rcases h3 with ⟨rfl, rfl⟩ | ⟨a, rfl, h3⟩
  · obtain rfl : l = [] := List.eq_nil_of_length_eq_zero (by omega)
    exact run_convert_bytes_nil w 68 5 Tryd.underlying68 Tryd.underlying5 n 0 9 Tryd.underlying9
  · subst h1
    refine run_convert_bytes_back w 68 9 5 a c l Tryd.underlying68 Tryd.underlying5 Tryd.underlying9 (fun j hj => ?_)
    obtain ⟨g1, g2, g3⟩ := h3 (by intro e; have := Lib.byteCells_length l; rw [e] at this; simp at this; omega)
    obtain ⟨b, o, s⟩ := a
    simp only at g1 g2 g3
    subst g1
    rw [Addr.add_lit]
    exact g3 j _ (by simp [Lib.byteCells, hj])
/-- Units as values. -/
def uv (l : List Nat) : List Value := l.map fun x : Nat => Value.int .u16 x
theorem uv_length (l : List Nat) : (uv l).length = l.length := by simp [uv]
theorem uv_app (a b : List Nat) : uv (a ++ b) = uv a ++ uv b := by simp [uv]
theorem uv_at (l : List Nat) (k : Nat) (h : k < l.length) : (uv l)[k]? = some (.int .u16 (l[k] : Nat)) := by simp [uv, h]
theorem uv_one (l : List Nat) : ∀ u ∈ uv l, u.oneCell' = true := by
  intro u hu
  obtain ⟨_, _, rfl⟩ := List.mem_map.1 hu
  rfl
theorem bc_one (l : List UInt8) : ∀ u ∈ Lib.byteCells l, u.oneCell' = true := by
  intro u hu
  obtain ⟨_, _, rfl⟩ := List.mem_map.1 hu
  rfl
theorem bc_app (a b : List UInt8) : Lib.byteCells (a ++ b) = Lib.byteCells a ++ Lib.byteCells b := by simp [Lib.byteCells]
theorem own_seen {w : World} {base : Nat} {e : TypeId} {size n : Nat} {v : Value} {xs : List Value} (h : w.ownsRow base e size v n xs) : ∃ A c, v = .slice A n c ∧ c ≤ maxLen ∧ Seen w w.heap.size size A n c xs := by
  obtain ⟨A, c, rfl, hc⟩ := own_form h
  exact ⟨A, c, rfl, hc, Seen.of_own h⟩
/-- Values built in place. -/
theorem seen_new (w : World) (t : TypeId) (xs : List Value) (n : Nat) (hl : xs.length = n) (cs : Array Value) (hc : cs.toList = xs) : Seen (w.alloc (.cells cs t)) (w.heap.size + 1) 1 (some ⟨w.heap.size, 0, none⟩) n n xs := by
  refine ⟨by simp [hl], Nat.le_refl _, .inr ⟨_, rfl, fun _ => ⟨rfl, Nat.lt_succ_self _, fun j u hu => ?_⟩⟩⟩
  have hW := Whole.new w t cs
  show _ = some u
  simp only [Nat.zero_add]
  rw [hW.cell j, ← hu, ← hc]; simp
theorem ba_empty (s : ByteArray) : s.toList.isEmpty = decide (s.size = 0) := by
  rw [ByteArray.toList_eq, ByteArray.size, ← Array.length_toList]
  cases s.data.toList <;> simp

/-- A unit's bytes. -/
def uB (x : Nat) : List UInt8 := if 1 ≤ x ∧ x < 128 then [UInt8.ofNat x] else if x < 2048 then [UInt8.ofNat (192 + x / 64), UInt8.ofNat (128 + x % 64)] else [UInt8.ofNat (224 + x / 4096), UInt8.ofNat (128 + x / 64 % 64), UInt8.ofNat (128 + x % 64)]
def uBs (l : List Nat) : List UInt8 := l.flatMap uB
theorem uB_le (x : Nat) : (uB x).length ≤ 3 ∧ 1 ≤ (uB x).length := by
  unfold uB; split
  · simp
  · split <;> simp
theorem uBs_snoc (l : List Nat) (x : Nat) : uBs (l ++ [x]) = uBs l ++ uB x := by simp [uBs]
theorem uBs_le : ∀ l : List Nat, (uBs l).length ≤ 3 * l.length
  | [] => Nat.le_refl _
  | x :: l => by
    have h1 := uBs_le l
    have h2 := (uB_le x).1
    have e : uBs (x :: l) = uB x ++ uBs l := rfl
    rw [e, List.length_append, List.length_cons]; omega
theorem take_next {α : Type} (l : List α) (k : Nat) (hk : k < l.length) : l.take (k + 1) = l.take k ++ [l[k]] := by
  rw [List.take_add_one, List.getElem?_eq_getElem hk]; rfl
theorem bc_nats (l : List Nat) (h : ∀ x ∈ l, x < 256) : Lib.byteCells (l.map UInt8.ofNat) = l.map fun x : Nat => Value.int .u8 x := by
  unfold Lib.byteCells
  rw [List.map_map]
  refine List.map_congr_left fun x hx => ?_
  have : (UInt8.ofNat x).toNat = x := by rw [UInt8.toNat_ofNat', Nat.mod_eq_of_lt (h x hx)]
  simp [this]
end Go.Proofs.YtibkdmliolebgaaDoor
