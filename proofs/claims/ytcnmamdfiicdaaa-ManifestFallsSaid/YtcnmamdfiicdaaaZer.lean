/- Zeros appended to a row of one's own: append(s, make([]byte, k)...). -/
import Derived.Test.YtcnmamdfiicdaaaByts
import Derived.Lib.AppendZerosOnto
namespace Go.Proofs.Ytcnmamdfiicdaaa
open Go.RowKit Me

theorem zero_cells (k : Nat) : Builtin.zeroCells (Value.int .u8 0).cells k = (cellsOf (List.replicate k 0)).toArray := by
  unfold Builtin.zeroCells cellsOf
  apply Array.ext
  · simp [Value.cells]
  · intro i h1 h2
    simp [Value.cells, Nat.mod_one]
theorem growBy_le (n : Nat) : ∀ (r c : Nat), Builtin.growBy n r c ≤ (c + 1024) * 2 ^ r
  | 0, c => by simp only [Builtin.growBy]; omega
  | r + 1, c => by
    rw [Builtin.growBy]
    have hp : 1 ≤ 2 ^ r := Nat.one_le_two_pow
    split
    · calc c ≤ (c + 1024) * 1 := by omega
        _ ≤ (c + 1024) * 2 ^ (r + 1) := Nat.mul_le_mul_left _ Nat.one_le_two_pow
    · refine Nat.le_trans (growBy_le n r _) ?_
      rw [Nat.pow_succ, Nat.mul_comm (2 ^ r) 2, ← Nat.mul_assoc]
      exact Nat.mul_le_mul_right _ (by omega)
set_option maxRecDepth 100000 in
theorem run_append_zeros (w : World) (base : Nat) (ty : TypeId) (v : Value) (n k : Nat) (l : List UInt8) (hown : w.ownsRow base 5 1 v n (cellsOf l)) (hn : n ≤ 1048576) (hk : k ≤ 1048576) (hbase : base ≤ w.heap.size) :
    ∃ v' w', (Builtin.append_ #[22, 3] ty #[v, .int .i64 (k : Int)]).run Try.prog w = .ok v' w' ∧ w'.ownsRow base 5 1 v' (n + k) (cellsOf (l ++ List.replicate k 0)) ∧ w.grownBy w' v.ownBlock := by
  obtain ⟨i0, hi0, hz0, hz1, hz2⟩ := info_parts u8_info
  have hll : l.length = n := by have := hown.1; rwa [cellsOf_length, Nat.mul_one] at this
  have hlen : (cellsOf (l ++ List.replicate k 0)).length = (n + k) * 1 := by rw [cellsOf_length]; simp [hll]
  have hw : IntKind.i64.wrap (k : Int) = k := by rw [IntKind.wrap_i64]; omega
  have hneg : ¬ ((k : Int) < 0) := by omega
  have h48i : ¬ (281474976710656 < (k : Int)) := by omega
  have grown : ∀ (A : Option Addr) (old : Nat) (olds : List Value), olds = cellsOf l → (Builtin.firstCells i0.size n (.slice A n old)).run Try.prog w.drew = .ok olds.toArray w.drew → 0 < k → old < n + k → old ≤ 4294967296 →
      ∃ v' w', (Builtin.append_ #[22, 3] ty #[.slice A n old, .int .i64 (k : Int)]).run Try.prog w = .ok v' w' ∧ w'.ownsRow base 5 1 v' (n + k) (cellsOf (l ++ List.replicate k 0)) ∧ w.grownBy w' (Value.slice A n old).ownBlock := by
    intro A old olds ho hold h0 hg h32
    have hr := Lib.run_append_grow_zeros w 22 3 ty 5 i0 (.int .u8 0) .i64 .i64 Try.underlying22 Try.underlying3 hi0 hz0 A n old olds hold k h0 (by omega) hg (by omega) (by rw [hz2]; omega) (by
      rw [hz2]
      unfold Builtin.nextslicecap
      split
      · omega
      · split
        · omega
        · have := growBy_le (n + k) 4 old
          omega)
    have hge := grownCap_ge w (n + k) old 5
    have hcm := grownCap_le_maxLen w (n + k) old 5 (by unfold maxLen; omega)
    refine ⟨_, _, hr, ⟨hlen, .inr ⟨w.heap.size, _, _, rfl, hbase, heap_alloc_new w.drew _, hge, hcm, ?_, ?_⟩⟩, ⟨rfl, rfl, rfl, by simp, fun j hj _ => (World.grownBy_alloc w.drew _ none).block j hj (by simp)⟩⟩
    · simp only [Array.size_append, List.size_toArray, size_zeroCells, ho, cellsOf_length, hll]
      simp [Value.cells]
      omega
    · simp only [Array.toList_append, ho, zero_cells, ← cellsOf_append]
      have : (n + k) * 1 = (cellsOf (l ++ List.replicate k 0)).length := hlen.symm
      rw [this, cellsOf_append (l ++ List.replicate k 0)]
      exact List.take_left
  rcases hown.2 with ⟨rfl, rfl⟩ | ⟨g, cap, cur, rfl, hbg, hg, hnc, hcm, hcs, htake⟩
  · have hl0 : l = [] := List.eq_nil_of_length_eq_zero hll
    by_cases h0 : k = 0
    · subst h0 hl0
      refine ⟨.slice none 0 0, w, ?_, World.ownsRow_nil w base _ 1, ⟨rfl, rfl, rfl, Nat.le_refl _, fun _ _ _ => rfl⟩⟩
      simp [Builtin.append_, run_underlying Try.underlying22, run_underlying Try.underlying3, sizeOf, typeInfo, zeroValue, hi0, hz0, asInt, asIntOf, show IntKind.i64.wrap 0 = 0 from rfl]
    · exact grown none 0 [] (by rw [hl0]; rfl) (run_firstCells_none w.drew i0.size 0 0 0) (by omega) (by omega) (by omega)
  · by_cases hroom : n + k ≤ cap
    · have hst := run_storeCells_at Try.prog g (n * i0.size) 5 (cellsOf (List.replicate k 0)) 0 cur w hg (by rw [hz1, cellsOf_length]; simp; omega) (cellsOf_one _)
      simp only [Nat.add_zero] at hst
      refine ⟨.slice (some ⟨g, 0, none⟩) (n + k) cap, w.setRow g (cur.toList.take (n * i0.size) ++ cellsOf (List.replicate k 0) ++ cur.toList.drop (n * i0.size + (cellsOf (List.replicate k (0 : UInt8))).length)).toArray, ?_, ⟨hlen, .inr ⟨g, cap, _, rfl, hbg, setRow_heap w g cur _ _ _ hg, hroom, hcm, ?_, ?_⟩⟩, ⟨rfl, rfl, rfl, by simp, fun j _ hj => setRow_other w g j _ (fun e => hj (by simp [Value.ownBlock, e]))⟩⟩
      · by_cases h0 : k = 0
        · subst h0
          have hw0 : IntKind.i64.wrap 0 = 0 := rfl
          simp [Builtin.append_, run_underlying Try.underlying22, run_underlying Try.underlying3, sizeOf, typeInfo, zeroValue, hi0, hz0, asInt, asIntOf, hw0, hnc, cellsOf, Addr.add_lit] at hst ⊢
          rw [hst]
          rfl
        · have hns : ¬ (k * i0.size = 0) := Nat.mul_ne_zero h0 (by omega)
          have h48' : ¬ (281474976710656 < (k : Int) * (i0.bytes : Int)) := by rw [hz2]; omega
          simp [Builtin.append_, run_underlying Try.underlying22, run_underlying Try.underlying3, sizeOf, typeInfo, zeroValue, hi0, hz0, asInt, asIntOf, hw, hneg, h48', hroom, hns, zero_cells, Addr.add_lit, hst]
      · simp only [List.size_toArray, List.length_append, List.length_take, List.length_drop, Array.length_toList, cellsOf_length, List.length_replicate, hz1]
        omega
      · have e : cur.toList.take (n * i0.size) = cellsOf l := by rw [hz1]; exact htake
        rw [e, cellsOf_append, List.append_assoc, ← List.append_assoc]
        have : (n + k) * 1 = (cellsOf l ++ cellsOf (List.replicate k 0)).length := by rw [← cellsOf_append]; exact hlen.symm
        rw [this]
        exact List.take_left
    · have hold : (Builtin.firstCells i0.size n (.slice (some ⟨g, 0, none⟩) n cap)).run Try.prog w.drew = .ok (cellsOf l).toArray w.drew :=
        run_firstCells_some (P := Try.prog) w.drew i0.size n ⟨g, 0, none⟩ n cap (cellsOf l) (by rw [cellsOf_length, hz1, hll, Nat.mul_one]) (fun j u hu => hown.cells (g := g) rfl j u hu)
      exact grown _ cap _ rfl hold (by omega) (by omega) (by omega)
theorem wpList_zeros {w : World} {ops : Array Oper} {rest : List Oper} {o : Oper} {a : Act} {Q : Exit → Act → World → Prop} (hgd : o.guard = none) (s x : Operand)
    (ho : o.op = .call { callee := .builtin .append, args := #[s, x], argTypes := #[22, 3] }) (base : Nat) (v : Value) (n k : Nat) (l : List UInt8) (hs : a.eval s = v) (hx : a.eval x = .int .i64 (k : Int))
    (hown : w.ownsRow base 5 1 v n (cellsOf l)) (hn : n ≤ 1048576) (hk : k ≤ 1048576) (hbase : base ≤ w.heap.size)
    (h : ∀ v' w', w'.ownsRow base 5 1 v' (n + k) (cellsOf (l ++ List.replicate k 0)) → w.grownBy w' v.ownBlock → wpList Try.prog ops Q rest (a.put o.dst v') w') : wpList Try.prog ops Q (o :: rest) a w := by
  refine wpList_plain hgd fun K hK => ?_
  obtain ⟨v', w', hrun, h2, h3⟩ := run_append_zeros w base o.type v n k l hown hn hk hbase
  unfold Oper.wp execOp
  simp only [ho, resolve, invoke, builtin, Sem.run_bind, Sem.run_pure, Result.andThen_ok, List.map_toArray, List.map_cons, List.map_nil, hs, hx, hrun]
  exact hK _ _ (h v' w' h2 h3)
end Go.Proofs.Ytcnmamdfiicdaaa
