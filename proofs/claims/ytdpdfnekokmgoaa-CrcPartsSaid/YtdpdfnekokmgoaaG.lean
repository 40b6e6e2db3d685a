/-
  append of noughts that are made in place ('append(s, make(..)...)'): where the new row lies, what it holds. Conditions: each theorem names them. Nothing of the program stands here.
-/
import Derived.Test.YtdpdfnekokmgoaaB
namespace Go.Proofs.Ytdpdfnekokmgoaa
open Go.RowKit

theorem zeroCells_one (z : Value) (m : Nat) : Builtin.zeroCells #[z] m = (List.replicate m z).toArray := by
  apply Array.ext
  · simp [Builtin.zeroCells]
  · intro i h1 h2
    simp [Builtin.zeroCells, Nat.mod_one]

/-- A block that was just made is a row of its own, of its first cells. -/
theorem own_new (w : World) {base : Nat} {e : TypeId} {n cap : Nat} {cs : Array Value} {xs : List Value} (hb : base ≤ w.heap.size) (hx : xs.length = n) (hn : n ≤ cap) (hc : cap ≤ maxLen) (hs : cs.size = cap) (ht : cs.toList.take n = xs) :
    (w.alloc (.cells cs e)).ownsRow base e 1 (.slice (some ⟨w.heap.size, 0, none⟩) n cap) n xs :=
  ⟨by omega, .inr ⟨w.heap.size, cap, cs, rfl, hb, Whole.new w e cs, hn, hc, by omega, by simpa using ht⟩⟩
theorem grown_drew (w : World) (o : Obj) (row : Option Nat) : w.grownBy (w.drew.alloc o) row :=
  ⟨rfl, rfl, rfl, by simp, fun k hk _ => Below.heap_alloc w.drew o k hk⟩
theorem grown_row (w : World) (g : Nat) (cs : Array Value) : w.grownBy (w.setRow g cs) (some g) :=
  ⟨rfl, rfl, rfl, by simp, fun k _ hk => setRow_other w g k cs (fun e => hk (congrArg some e))⟩

section
variable {P : Program} (w : World)
theorem run_append_noughts (base : Nat) (t it ty e : TypeId) (i : TypeInfo) (z : Value) (ht : P.underlying t = some (.slice e)) (hit : P.underlying it = some (.int .i64)) (hi : P.info? e = some i) (hz : i.zero = some z)
    (hsize : i.size = 1) (hby : i.bytes = 1) (hzc : z.cells = #[z]) (hz1 : z.oneCell' = true)
    (v : Value) (n : Nat) (xs : List Value) (hown : w.ownsRow base e 1 v n xs) (m : Nat) (hm : 0 < m)
    (h63 : n + m ≤ maxLen) (hbytes : n + m ≤ 140737488355328) (hbase : base ≤ w.heap.size) :
    ∃ v' w', (Builtin.append_ #[t, it] ty #[v, .int .i64 m]).run P w = .ok v' w' ∧ w'.ownsRow base e 1 v' (n + m) (xs ++ List.replicate m z) ∧ w.grownBy w' v.ownBlock ∧
      (v'.ownBlock = v.ownBlock ∨ v'.ownBlock = some w.heap.size) := by
  have hxn : xs.length = n := by have := hown.1; omega
  have hall : (xs ++ List.replicate m z).length = n + m := by simp [hxn]
  have hw : IntKind.i64.wrap (m : Int) = m := IntWalk.i64_in _ (by omega)
  have hm0 : ¬ ((m : Int) < 0) := by omega
  have hm48 : ¬ (281474976710656 < (m : Int)) := by omega
  have hmz : ¬ m = 0 := by omega
  have hzl := zeroCells_one z
  -- what a new block holds, whatever its capacity
  have made : ∀ K, n + m ≤ K → K ≤ maxLen → (w.drew.alloc (.cells (xs.toArray ++ (Array.replicate m z ++ Array.replicate (K - (n + m)) z)) e)).ownsRow base e 1 (.slice (some ⟨w.heap.size, 0, none⟩) (n + m) K) (n + m) (xs ++ List.replicate m z) := by
    intro K h1 h2
    refine own_new w.drew hbase hall h1 h2 (by simp [hxn]; omega) ?_
    have e1 : (xs.toArray ++ (Array.replicate m z ++ Array.replicate (K - (n + m)) z)).toList = (xs ++ List.replicate m z) ++ List.replicate (K - (n + m)) z := by simp
    rw [e1, ← hall, List.take_left]
  have room : ∀ old, n + m ≤ grownCap w (n + m) old e ∧ grownCap w (n + m) old e ≤ maxLen := fun old => ⟨grownCap_ge w (n + m) old e, grownCap_le_maxLen w (n + m) old e h63⟩
  rcases hown.2 with ⟨rfl, rfl⟩ | ⟨g, cap, cur, rfl, hbg, hg, hnc, hcm, hcs, htake⟩
  · obtain rfl : xs = [] := List.eq_nil_of_length_eq_zero hxn
    have h63' : ¬ (9223372036854775807 < (m : Int)) := by omega
    have h48' : ¬ (281474976710656 < Builtin.nextslicecap m 0) := by rw [nextslicecap_zero hm]; omega
    refine ⟨_, _, ?_, made (grownCap w (0 + m) 0 e) (room 0).1 (room 0).2, grown_drew w _ _, .inr rfl⟩
    simp [Builtin.append_, run_underlying ht, run_underlying hit, sizeOf, typeInfo, zeroValue, hi, hz, hsize, hby, hw, hm0, hm48, hmz, asInt, asIntOf, h63', h48', Question.forced, run_firstCells_none, newRow, grownCap, hzc, hzl]
  · by_cases hroom : n + m ≤ cap
    · have hcur : n + m ≤ cur.size := by omega
      have hst := run_storeCells_at P g n e (List.replicate m z) 0 cur w hg (by simpa using hcur) (fun u hu => by rw [List.eq_of_mem_replicate hu]; exact hz1)
      have hst2 : (storeCells ⟨g, n, none⟩ (List.replicate m z)).run P w = .ok () (w.setRow g (cur.toList.take n ++ List.replicate m z ++ cur.toList.drop (n + m)).toArray) := by simpa using hst
      have htk : cur.toList.take n = xs := by simpa using htake
      refine ⟨.slice (some ⟨g, 0, none⟩) (n + m) cap, _, ?_, ⟨by omega, .inr ⟨g, cap, (cur.toList.take n ++ List.replicate m z ++ cur.toList.drop (n + m)).toArray, rfl, hbg, setRow_heap w g cur _ e _ hg, hroom, hcm, ?_, ?_⟩⟩, grown_row w g _, .inl rfl⟩
      · simp [Builtin.append_, run_underlying ht, run_underlying hit, sizeOf, typeInfo, zeroValue, hi, hz, hsize, hby, hw, hm0, hm48, hmz, asInt, asIntOf, hroom, Addr.add_lit, hzc, hzl]
        rw [hst2]
        simp [Result.andThen]
      · simp
        omega
      · simp only [Nat.mul_one]
        rw [htk, ← hall, List.take_left]
    · have hfo := run_firstCells_some (P := P) w.drew 1 n ⟨g, 0, none⟩ n cap xs hown.1 (by simpa using hown.cells (g := g) rfl)
      have h63' : ¬ (9223372036854775807 < ((n : Int) + (m : Int))) := by omega
      have h48' : ¬ (281474976710656 < Builtin.nextslicecap (n + m) cap) := by
        have := growslice_fits (need := n + m) (old := cap) (bytes := 1) (by omega) (by omega)
        omega
      refine ⟨_, _, ?_, made (grownCap w (n + m) cap e) (room cap).1 (room cap).2, grown_drew w _ _, .inr rfl⟩
      simp [Builtin.append_, run_underlying ht, run_underlying hit, sizeOf, typeInfo, zeroValue, hi, hz, hsize, hby, hw, hm0, hm48, hmz, asInt, asIntOf, hroom, h63', h48', Question.forced, hfo, newRow, grownCap, hzc, hzl]

theorem wpList_append_noughts {ops : Array Oper} {rest : List Oper} {o : Oper} {a : Act} {Q : Exit → Act → World → Prop} (hgd : o.guard = none) (s x : Operand) (t it : TypeId)
    (ho : o.op = .call { callee := .builtin .append, args := #[s, x], argTypes := #[t, it] })
    (base : Nat) (e : TypeId) (i : TypeInfo) (z : Value) (ht : P.underlying t = some (.slice e)) (hit : P.underlying it = some (.int .i64)) (hi : P.info? e = some i) (hz : i.zero = some z)
    (hsize : i.size = 1) (hby : i.bytes = 1) (hzc : z.cells = #[z]) (hz1 : z.oneCell' = true)
    (v : Value) (n : Nat) (xs : List Value) (hs : a.eval s = v) (hown : w.ownsRow base e 1 v n xs) (m : Nat) (hx : a.eval x = .int .i64 m) (hm : 0 < m)
    (h63 : n + m ≤ maxLen) (hbytes : n + m ≤ 140737488355328) (hbase : base ≤ w.heap.size)
    (h : ∀ v' w', w'.ownsRow base e 1 v' (n + m) (xs ++ List.replicate m z) → w.grownBy w' v.ownBlock → (v'.ownBlock = v.ownBlock ∨ v'.ownBlock = some w.heap.size) → wpList P ops Q rest (a.put o.dst v') w') : wpList P ops Q (o :: rest) a w := by
  refine wpList_plain hgd fun K hK => ?_
  obtain ⟨v', w', hrun, h2, h3, h4⟩ := run_append_noughts (P := P) w base t it o.type e i z ht hit hi hz hsize hby hzc hz1 v n xs hown m hm h63 hbytes hbase
  unfold Oper.wp
  simp [execOp, ho, resolve, invoke, builtin, hs, hx, hrun, Result.andThen]
  exact hK _ _ (h v' w' h2 h3 h4)
end
end Go.Proofs.Ytdpdfnekokmgoaa
