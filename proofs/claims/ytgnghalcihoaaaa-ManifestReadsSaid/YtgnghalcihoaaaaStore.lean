/- A struct stored into a block of its own: the world behind it is a letter of which the block is known. -/
import Derived.Test.YtgnghalcihoaaaaFoot
import Derived.Test.YtgnghalcihoaaaaTail
import Derived.Laws.IdiomStrings
namespace Go.Proofs.Ytgnghalcihoaaaa
open Go.RowKit

section
variable {P : Program}
theorem run_store_blk {w : World} {b : Nat} {old : List Value} {ty : TypeId} {vs : Array Value} (hb : Blk w b old) (hl : old.length = vs.size) (hi : (P.info? ty).map (·.size) = some vs.size) (h1 : vs.all (·.oneCell') = true) :
    ∃ w', (storeVar ty ⟨b, 0, none⟩ (.agg vs)).run P w = .ok () w' ∧ Blk w' b vs.toList ∧ Out (fun k => k = b) w w' := by
  refine ⟨_, run_storeVar_mid w b 0 ty vs (hb.there (by omega)) hi h1, ?_, Out.setCells b _ _ (Out.refl _ _) (.inl rfl)⟩
  have := hb.sets (o := 0) (vs := vs.toList) (by simp [hl])
  have e : splice old 0 vs.toList = vs.toList := by
    unfold splice
    rw [List.take_zero, List.nil_append, Nat.zero_add, List.drop_of_length_le (by simp [hl]), List.append_nil]
  rwa [e] at this
theorem wpList_store_blk {ops : Array Oper} {rest : List Oper} {op : Oper} {a : Act} {w : World} {Q : Exit → Act → World → Prop} (hgd : op.guard = none) (ty : TypeId) (x y : Operand) (ho : op.op = .store ty x y)
    (b : Nat) (old : List Value) (vs : Array Value) (hx : a.eval x = .pointer (some ⟨b, 0, none⟩)) (hy : a.eval y = .agg vs) (hb : Blk w b old) (hl : old.length = vs.size) (hi : (P.info? ty).map (·.size) = some vs.size) (h1 : vs.all (·.oneCell') = true)
    (h : ∀ w', Blk w' b vs.toList → Out (fun k => k = b) w w' → wpList P ops Q rest (a.put op.dst undef) w') : wpList P ops Q (op :: rest) a w := by
  refine wpList_plain hgd fun K hK => ?_
  obtain ⟨w', hrun, h2, h3⟩ := run_store_blk (P := P) hb hl hi h1
  unfold Oper.wp execOp
  simp only [ho, hx, hy, Instr.storeAt, Instr.sureAddr, Sem.run_bind, Sem.run_pure, Result.andThen_ok, hrun]
  exact hK _ _ (h w' h2 h3)
/-- .. as an operation of a region's tail. -/
theorem wp_store_blk {op : Oper} {a : Act} {w : World} {K : Act → World → Prop} {Q : Exit → Act → World → Prop} (ty : TypeId) (x y : Operand) (ho : op.op = .store ty x y)
    (b : Nat) (old : List Value) (vs : Array Value) (hx : a.eval x = .pointer (some ⟨b, 0, none⟩)) (hy : a.eval y = .agg vs) (hb : Blk w b old) (hl : old.length = vs.size) (hi : (P.info? ty).map (·.size) = some vs.size) (h1 : vs.all (·.oneCell') = true)
    (h : ∀ w', Blk w' b vs.toList → Out (fun k => k = b) w w' → K (a.put op.dst undef) w') : Oper.wp P op a w K Q := by
  obtain ⟨w', hrun, h2, h3⟩ := run_store_blk (P := P) hb hl hi h1
  unfold Oper.wp execOp
  simp only [ho, hx, hy, Instr.storeAt, Instr.sureAddr, Sem.run_bind, Sem.run_pure, Result.andThen_ok, hrun]
  exact h w' h2 h3
/-- An append whose run is known. -/
theorem wpList_append_run {ops : Array Oper} {rest : List Oper} {op : Oper} {a : Act} {w w' : World} {Q : Exit → Act → World → Prop} (hgd : op.guard = none) (s x : Operand) (t : TypeId)
    (ho : op.op = .call { callee := .builtin .append, args := #[s, x], argTypes := #[t, t] }) (v u r : Value) (hs : a.eval s = v) (hx : a.eval x = u)
    (hr : (Builtin.append_ #[t, t] op.type #[v, u]).run P w = .ok r w') (h : wpList P ops Q rest (a.put op.dst r) w') : wpList P ops Q (op :: rest) a w := by
  refine wpList_plain hgd fun K hK => ?_
  unfold Oper.wp execOp
  simp only [ho, resolve, invoke, builtin, Sem.run_bind, Sem.run_pure, Result.andThen_ok, List.map_toArray, List.map_cons, List.map_nil, hs, hx, hr]
  exact hK _ _ h
/-- A conversion whose run is known. -/
theorem wpList_convert_run {ops : Array Oper} {rest : List Oper} {op : Oper} {a : Act} {w w' : World} {Q : Exit → Act → World → Prop} (hgd : op.guard = none) (src dst : TypeId) (x : Operand)
    (ho : op.op = .convert src dst x) (v r : Value) (hx : a.eval x = v)
    (hr : (convert src dst v).run P w = .ok r w') (h : wpList P ops Q rest (a.put op.dst r) w') : wpList P ops Q (op :: rest) a w := by
  refine wpList_plain hgd fun K hK => ?_
  unfold Oper.wp execOp
  simp only [ho, hx, hr, Sem.run_bind, Sem.run_pure, Result.andThen_ok]
  exact hK _ _ h
/-- A string's bytes, new memory. -/
theorem run_conv {P : Program} (src dst e : TypeId) (hs : P.underlying src = some .string) (hd : P.underlying dst = some (.slice e)) (he : P.underlying e = some (.int .u8)) (w : World) (l : List UInt8) :
    ∃ w' c, (convert src dst (.string ⟨l.toArray⟩)).run P w = .ok (.slice (some ⟨w.heap.size, 0, none⟩) l.length c) w' ∧ Below w.heap.size w w' ∧ w.heap.size < w'.heap.size ∧
      (∀ j u, l[j]? = some u → w'.cell? ⟨w.heap.size, j, none⟩ = some (.int .u8 (u.toNat : Int))) ∧ (∀ j, j < l.length → w'.frozen? ⟨w.heap.size, j, none⟩ = false) := by
  have hrun := run_bytes_of_string (P := P) w src dst e ⟨l.toArray⟩ hs hd he
  have hsz : (⟨l.toArray⟩ : ByteArray).size = l.length := by simp [ByteArray.size]
  rw [hsz] at hrun
  refine ⟨_, _, hrun, ?_, by simp, fun j u hu => ?_, fun j hj => ?_⟩
  · exact ((Below.refl w.heap.size w).drew).alloc (Nat.le_refl _) _
  · have hh := heap_alloc_new w.drew (.cells (bytesRow ⟨l.toArray⟩ (grownCap w l.length 0 e)) e ((bytesRow ⟨l.toArray⟩ (grownCap w l.length 0 e)).size, (bytesRow ⟨l.toArray⟩ (grownCap w l.length 0 e)).size + 1))
    have hd' : w.drew.heap.size = w.heap.size := rfl
    rw [hd'] at hh
    rw [cell_of_row _ _ _ _ _ _ hh]
    have hj := (List.getElem?_eq_some_iff.1 hu).1
    unfold bytesRow
    rw [Array.getElem?_append_left (by simpa using hj)]
    simp [hu]
  · have hh := heap_alloc_new w.drew (.cells (bytesRow ⟨l.toArray⟩ (grownCap w l.length 0 e)) e ((bytesRow ⟨l.toArray⟩ (grownCap w l.length 0 e)).size, (bytesRow ⟨l.toArray⟩ (grownCap w l.length 0 e)).size + 1))
    have hd' : w.drew.heap.size = w.heap.size := rfl
    rw [hd'] at hh
    unfold World.frozen?
    rw [hh]
    have : j < (bytesRow ⟨l.toArray⟩ (grownCap w l.length 0 e)).size := by unfold bytesRow; simp; omega
    simp
    omega
/-- A goal that nobody reckons: what is asked of a region's tail. -/
structure Tl (p : Prop) : Prop where
  out : p
theorem tl_nil {a : Act} {w : World} {Q : Exit → Act → World → Prop} (h : Q .normal a w) : Tl (Gw.seqTail P Q [] a w) := ⟨h⟩
theorem tl_store {op : Oper} {rest : List Oper} {a : Act} {w : World} {Q : Exit → Act → World → Prop} (ty : TypeId) (x y : Operand) (ho : op.op = .store ty x y)
    (b : Nat) (old : List Value) (vs : Array Value) (hx : a.eval x = .pointer (some ⟨b, 0, none⟩)) (hy : a.eval y = .agg vs) (hb : Blk w b old) (hl : old.length = vs.size) (hi : (P.info? ty).map (·.size) = some vs.size) (h1 : vs.all (·.oneCell') = true)
    (h : ∀ w', Blk w' b vs.toList → Out (fun k => k = b) w w' → Tl (Gw.seqTail P Q rest (a.put op.dst undef) w')) : Tl (Gw.seqTail P Q (op :: rest) a w) :=
  ⟨wp_store_blk ty x y ho b old vs hx hy hb hl hi h1 fun w' h2 h3 => (h w' h2 h3).out⟩
/-- XTail's law, its tail behind a name. -/
theorem wp_region_tl {id : Nat} {Q : Exit → Act → World → Prop} {a0 : Act} {w : World} {l tail : List Oper} (n : Nat) (G : Gw.Fact) (dsts : List Tmp) (ms : List (List Tmp × Option (Tmp × Bool))) (size : Nat) (hm : P.follows .mixedOrders = true)
    (hB : (Gw.flowB l.toArray size && Gw.tailB l.toArray n && decide (n ≤ l.length) && (ms == (Gw.metaOf l.toArray).take n) && ((l.take n).filterMap (·.dst) == dsts)) = true) (hsz : a0.tmps.size = size)
    (h0 : ∀ t W, t ∉ dsts → Gw.Grows w W → G t (a0.eval (.tmp t)) W) (hreq : Gw.Req P G w (l.take n) ms)
    (htail : l.drop n = tail)
    (hend : ∀ (x : Tmp → Value) (w' : World), Gw.Grows w w' → (∀ d ∈ dsts, Gw.Holds G d (x d) w') → Tl (Gw.seqTail P Q tail (Gw.putAll x dsts a0) w')) : (Code.region id l.toArray true).wp P Q a0 w :=
  Gw.wp_region_tail n G dsts ms size hm hB hsz h0 hreq htail fun x w' hg hx => (hend x w' hg hx).out
end
end Go.Proofs.Ytgnghalcihoaaaa
