/- A new disk; the document's new disk. -/
import Derived.Test.YtpdhnkmihlgdjaaDWrite
namespace Go.Proofs.Ytpdhnkmihlgdjaa
open Go.RowKit Me Rw Ds

theorem block_info3 : (Try.prog.info? 64).map (fun i => (i.zero, i.size, i.bytes)) = some (some (.agg (Array.replicate 128 (.int .u8 0))), 128, 128) := by kernel_rfl
/-- A new disk. -/
def newD (n : Nat) : Dsk := { stored := List.replicate n zero128, pend := [], on := true, fuse := -1 }
theorem cells_zero : cellsOf zero128 = List.replicate 128 (.int .u8 0) := by simp [cellsOf, zero128]
theorem rows_zero : ∀ n : Nat, Rw.rows cellsOf (List.replicate n zero128) = List.replicate (n * 128) (.int .u8 0)
  | 0 => rfl
  | n + 1 => by
    rw [List.replicate_succ, rows_cons, rows_zero n, cells_zero, List.replicate_append_replicate]
    congr 1
    omega
theorem made_zeros (n : Nat) : (madeCells (Value.agg (Array.replicate 128 (.int .u8 0))).cells (n * 128)).toList = Rw.rows cellsOf (List.replicate n zero128) := by
  rw [rows_zero]
  unfold madeCells
  apply List.ext_getElem?
  intro i
  by_cases hi : i < n * 128
  · have : i % 128 < 128 := Nat.mod_lt _ (by omega)
    simp [hi, Value.cells, this]
  · simp [hi]
theorem Blk.of_own {w : World} {base size n g : Nat} {e : TypeId} {xs : List Value} (h : w.ownsRow base e size (.slice (some ⟨g, 0, none⟩) n n) n xs) : Blk w g xs := by
  obtain ⟨h1, h2⟩ := h
  rcases h2 with ⟨h, -⟩ | ⟨g', cap, cur, hv, -, hg, -, -, hs, ht⟩
  · cases h
  · injection hv with e1 e2 e3
    injection e1 with e1
    injection e1 with e1
    subst e1 e3
    rw [List.take_of_length_le (by simp [hs])] at ht
    subst ht
    exact ⟨e, by simpa using hg⟩
set_option maxRecDepth 100000 in
set_option maxHeartbeats 400000 in
theorem new_any (n : Nat) (h1 : 1 ≤ n) (hn : n ≤ 65536) (w : World) :
    Calls Try.prog 8 #[.int .i64 (n : Int)] w fun e w' => ∃ D own, e = .returned (.tuple #[.pointer (some ⟨D, 0, none⟩), .int .i64 0]) ∧ DiskAt w' w.heap.size D (newD n) own ∧ Below w.heap.size w w' := by
  obtain ⟨i0, hi0, hz0, hz1, hz2⟩ := info_parts block_info3
  have d1 : decide ((n : Int) < 1) = false := by simp; omega
  have d2 : decide ((65536 : Int) < (n : Int)) = false := by simp; omega
  have q0 : (n : Int) ≤ 65536 := by omega
  go_enter Try.func8, Try.ntmps8
  go_wp2_with (refine wpList_make_full w rfl _ _ 53 rfl w.heap.size 64 i0 _ 128 Try.underlying53 hi0 hz0 hz1 .i64 .i64 _ _ n rfl rfl rfl rfl (by rw [hz2]; omega) (by unfold maxLen; omega) (Nat.le_refl _) ?_
               intro w1 ho1 hg1
               rw [made_zeros] at ho1
               have HO1 := Lib.hid ho1
               have HG1 := Lib.hid hg1
               clear ho1 hg1)
  refine bodyPost_ret (v := .tuple #[.pointer (some ⟨w1.heap.size, 0, none⟩), .int .i64 0]) (by simp [results, Try.results8, go_sem]) rfl ?_
  have hb := Blk.of_own HO1.out
  have hlt := hb.lt
  have hne : w1.heap.size ≠ w.heap.size := by omega
  have hbelow : Below w.heap.size w w1 := (Below.refl _ _).grown HG1.out (Nat.le_refl _) (fun k e => by cases e)
  refine ⟨w1.heap.size, fun k => k = w1.heap.size ∨ k = w.heap.size, rfl, ⟨w.heap.size, .slice none 0 0, ?_⟩, hbelow.alloc hbelow.size _⟩
  refine ⟨?_, hb.alloc _, World.ownsRow_nil _ _ _ _, hne, by simp [Value.ownBlock], by simp [Value.ownBlock], by omega, Nat.le_refl _, fun k => by simp [Value.ownBlock], ⟨fun b hb => ?_, fun x hx => (by cases hx), ?_, ?_, ?_, ?_⟩⟩
  · have := Blk.new w1 [.slice (some ⟨w.heap.size, 0, none⟩) n n, .slice none 0 0, .bool true, .int .i64 (-1)] 56
    simpa [newD] using this
  · have := List.eq_of_mem_replicate hb
    rw [this]; exact zero128_length
  · simpa [newD] using h1
  · simpa [newD] using hn
  · simp [newD]
  · simp [newD]
set_option maxRecDepth 100000 in
theorem new_bad (n : Int) (h : n < 1 ∨ 65536 < n) (w : World) :
    Calls Try.prog 8 #[.int .i64 n] w fun e w' => e = .returned (.tuple #[.pointer none, .int .i64 1]) ∧ w = w' := by
  by_cases h1 : n < 1
  · have d1 : decide (n < 1) = true := by simp; omega
    clear h
    go_enter Try.func8, Try.ntmps8
    go_wp2
    exact bodyPost_ret (v := .tuple #[.pointer none, .int .i64 1]) (by simp [results, Try.results8, go_sem]) rfl ⟨rfl, rfl⟩
  · have h2 : 65536 < n := by omega
    have d1 : decide (n < 1) = false := by simp; omega
    have d2 : decide (65536 < n) = true := by simp; omega
    clear h
    go_enter Try.func8, Try.ntmps8
    go_wp2
    exact bodyPost_ret (v := .tuple #[.pointer none, .int .i64 1]) (by simp [results, Try.results8, go_sem]) rfl ⟨rfl, rfl⟩
end Go.Proofs.Ytpdhnkmihlgdjaa
