/- Operations of a region that draws its order, one by one; structs that hold an array, built. -/
import Derived.Test.YtpdhnkmihlgdjaaSettle
import Derived.Great.BuildSlice
import Derived.Laws.Cover3
import Derived.Maps.AppendAt
namespace Go.Proofs.Ytpdhnkmihlgdjaa.Gw
open Go.RowKit

section
variable {P : Program} {o : Oper} {a : Act} {w w' : World} {p : Value → World → Prop}
theorem ok_build {t : TypeId} {parts : Array (Nat × Operand)} {vs : Array (Nat × Value)} {cs : Array Value} (ho : o.op = .build t parts) (hv : (parts.map fun (i, x) => (i, a.eval x)) = vs) (hb : P.built t vs.toList = some cs) (h : p (.agg cs) w) : OkP P o a w p := by
  unfold OkP execOp
  simp only [ho, hv, Sem.run_bind, run_build w t vs cs hb, Result.andThen_ok, Sem.run_pure]
  exact h
theorem ok_buildSlice {t : TypeId} {n : Nat} {parts : Array (Nat × Operand)} {vs : Array (Nat × Value)} {v : Value} (ho : o.op = .buildSlice t n parts) (hv : (parts.map fun (i, x) => (i, a.eval x)) = vs) (hr : (Instr.buildSlice t n vs).run P w = .ok v w') (h : p v w') : OkP P o a w p := by
  unfold OkP execOp
  simp only [ho, hv, Sem.run_bind, hr, Result.andThen_ok, Sem.run_pure]
  exact h
theorem ok_load {t : TypeId} {x : Operand} {b : Addr} {v : Value} (ho : o.op = .load t x) (hx : a.eval x = .pointer (some b)) (hr : (loadVar t b).run P w = .ok v w) (h : p v w) : OkP P o a w p := by
  unfold OkP execOp
  simp only [ho, hx, Instr.loadAt, Instr.sureAddr, Sem.run_bind, Sem.run_pure, Result.andThen_ok, hr]
  exact h
theorem ok_store {t : TypeId} {x y : Operand} {b : Addr} {v : Value} (ho : o.op = .store t x y) (hx : a.eval x = .pointer (some b)) (hy : a.eval y = v) (hr : (storeVar t b v).run P w = .ok () w') (h : p undef w') : OkP P o a w p := by
  unfold OkP execOp
  simp only [ho, hx, hy, Instr.storeAt, Instr.sureAddr, Sem.run_bind, Sem.run_pure, Result.andThen_ok, hr]
  exact h
theorem ok_append {s x : Operand} {t : TypeId} {v u r : Value} (ho : o.op = .call { callee := .builtin .append, args := #[s, x], argTypes := #[t, t] }) (hs : a.eval s = v) (hx : a.eval x = u) (hr : (Builtin.append_ #[t, t] o.type #[v, u]).run P w = .ok r w') (h : p r w') : OkP P o a w p := by
  unfold OkP execOp
  simp only [ho, resolve, invoke, builtin, Sem.run_bind, Sem.run_pure, Result.andThen_ok, List.map_toArray, List.map_cons, List.map_nil, hs, hx, hr]
  exact h
end
/-- The worlds of a region's phases. -/
def Ph (l : List World) : Nat → World → Prop := fun p W => l[p]? = some W
end Go.Proofs.Ytpdhnkmihlgdjaa.Gw
namespace Go.Proofs.Ytpdhnkmihlgdjaa
open Go.RowKit Me Rw Ds
theorem fold_splice (off : Nat) (l : List Value) (cs : Array Value) (h : off + l.length ≤ cs.size) :
    ((l.toArray.zipIdx).foldl (fun cs (x : Value × Nat) => cs.setIfInBounds (off + x.2) x.1) cs) = (splice cs.toList off l).toArray := by
  have e : ((l.toArray.zipIdx).foldl (fun cs (x : Value × Nat) => cs.setIfInBounds (off + x.2) x.1) cs) = ((l.zipIdx 0).foldl (fun cs (x : Value × Nat) => cs.setIfInBounds (off + x.2) x.1) cs) := by
    rw [← Array.foldl_toList]
    simp
  rw [e]
  obtain ⟨h1, h2⟩ := Great.foldl_set off l 0 cs
  apply Array.ext_getElem?
  intro k
  rw [h2 k]
  simp only [Nat.add_zero, List.getElem?_toArray, splice, List.getElem?_append, List.length_take, Array.length_toList, List.getElem?_take, List.getElem?_drop, Array.getElem?_toList]
  by_cases h3 : k < off
  · rw [if_neg (by omega), if_pos (by omega), if_pos h3]
  · by_cases h4 : k < off + l.length
    · rw [if_pos (by omega), if_neg (by omega), if_pos (by omega)]
      congr 1; omega
    · rw [if_neg (by omega), if_neg (by omega), if_neg (by omega)]
      congr 1; omega
/-- A struct's fields, as 'build' goes through them. -/
def placesOf (P : Program) (t : TypeId) : Option (List (Nat × Nat)) := match P.underlying t with
  | some (.struct fields) => fields.toList.mapM (fun f => (P.info? f.type).map fun i => (f.offset, i.size))
  | _ => none
theorem built_struct {P : Program} {t : TypeId} {pl : List (Nat × Nat)} {z : Value} {n : Nat} {parts : List (Nat × Value)} {cs : Array Value} (hp : placesOf P t = some pl) (hz : (P.info? t).map (fun i => (i.zero, i.size)) = some (some z, n))
    (hf : Instr.fill (pl.toArray[·]?) z.cells parts = some cs) : P.built t parts = some cs := by
  unfold placesOf at hp
  unfold Program.built
  cases hi : P.info? t with
  | none => rw [hi] at hz; cases hz
  | some it =>
    rw [hi] at hz
    simp only [Option.map_some] at hz
    injection hz with hz
    injection hz with hz _
    cases hu : P.underlying t with
    | none => rw [hu] at hp; cases hp
    | some d =>
      rw [hu] at hp
      cases d <;> simp_all
theorem fill_one {pl : Nat → Option (Nat × Nat)} {cs : Array Value} {i off n : Nat} {v : Value} {rest : List (Nat × Value)} (hp : pl i = some (off, n)) (hv : v.cells.size = n) (ho : off + n ≤ cs.size) :
    Instr.fill pl cs ((i, v) :: rest) = Instr.fill pl (splice cs.toList off v.cells.toList).toArray rest := by
  rw [Instr.fill, hp]
  simp only
  rw [if_neg (by simp [hv]; omega)]
  congr 1
  have := fold_splice off v.cells.toList cs (by simp [hv]; omega)
  rw [← this]
theorem built_write (i : Int) (b : List UInt8) (hb : b.length = 128) : Try.prog.built 69 [(0, .int .i64 i), (1, .agg (cellsOf b).toArray)] = some (Value.int .i64 i :: cellsOf b).toArray := by
  refine built_struct (pl := [(0, 1), (1, 128)]) (by kernel_rfl) zeroW_info ?_
  rw [fill_one (off := 0) (n := 1) rfl rfl (by simp [zeroW, Value.cells]), fill_one (off := 1) (n := 128) rfl (by simp [Value.cells, cellsOf_length, hb]) (by simp [splice, zeroW, Value.cells])]
  rw [Instr.fill]
  congr 2
  have e : (Value.agg (cellsOf b).toArray).cells.toList = cellsOf b := by simp [Value.cells]
  rw [e]
  have e2 : splice (Value.agg zeroW).cells.toList 0 (Value.int IntKind.i64 i).cells.toList = Value.int .i64 i :: List.replicate 128 (.int .u8 0) := by
    simp [splice, zeroW, Value.cells]
  rw [e2]
  unfold splice
  rw [List.drop_of_length_le (by simp [cellsOf_length, hb]), List.append_nil]
  rfl
theorem run_slice_one (w : World) (cs : List Value) (hc : cs.length = 129) : (Instr.buildSlice 54 1 #[(0, .agg cs.toArray)]).run Try.prog w = .ok (.slice (some ⟨w.heap.size, 0, none⟩) 1 1) (w.alloc (.cells cs.toArray 69)) := by
  obtain ⟨ie, hie⟩ : ∃ ie, Try.prog.info? 69 = some ie := by
    have := zeroW_info
    cases h : Try.prog.info? 69 with
    | none => rw [h] at this; cases this
    | some ie => exact ⟨ie, rfl⟩
  have h := zeroW_info
  rw [hie] at h
  simp only [Option.map_some] at h
  injection h with h
  injection h with hz hs
  refine run_buildSlice w _ _ 1 _ _ ie _ Try.underlying54 hie hz (by rw [hs]; decide) (by rw [hs]; decide) ?_
  rw [hs, fill_one (off := 0) (n := 129) rfl (by simp [Value.cells, hc]) (by simp)]
  rw [Instr.fill]
  congr 2
  rw [splice_whole _ _ (by simp [Value.cells, hc])]
  simp [Value.cells]
end Go.Proofs.Ytpdhnkmihlgdjaa
