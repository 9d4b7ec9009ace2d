/- A disk's pending writes are settled. -/
import Derived.Test.YtpdhnkmihlgdjaaDskS
import Derived.Deep.WholeRow
namespace Go.Proofs.Ytpdhnkmihlgdjaa
open Go.RowKit Me Rw Ds

def zeroW : Array Value := #[.int .i64 0] ++ Array.replicate 128 (.int .u8 0)
theorem zeroW_info : (Try.prog.info? 69).map (fun i => (i.zero, i.size)) = some (some (.agg zeroW), 129) := by kernel_rfl
theorem block_info : (Try.prog.info? 64).map (fun i => (i.zero, i.size)) = some (some (.agg (Array.replicate 128 (.int .u8 0))), 128) := by kernel_rfl
theorem wr_size : (Try.prog.info? 69).map (·.size) = some 129 := (zero_of_info zeroW_info).2
theorem block_size : (Try.prog.info? 64).map (·.size) = some 128 := (zero_of_info block_info).2
theorem byte_size : (Try.prog.info? 5).map (·.size) = some 1 := by kernel_rfl
theorem wrCells_length {x : WD} (h : x.b.length = 128) : (wrCells x).length = 129 := by simp [wrCells, cellsOf_length, h]
theorem wrCells_one (x : WD) : ∀ v ∈ wrCells x, v.oneCell' = true := by
  intro v hv
  rcases List.mem_cons.1 hv with rfl | hv
  · rfl
  · exact cellsOf_one _ v hv
theorem splice_whole (cs vs : List Value) (h : cs.length = vs.length) : splice cs 0 vs = vs := by
  unfold splice
  rw [List.take_zero, List.nil_append, Nat.zero_add, List.drop_of_length_le (by omega), List.append_nil]
section
variable {w w' : World} {B D g : Nat} {Pv : Value} {S : Dsk} {own T : Nat → Prop}
/-- A pending write, as it lies in memory. -/
theorem Laid.pendAt (h : Laid w B D g Pv S own) {k : Nat} {x : WD} (hx : S.pend[k]? = some x) :
    ∃ p c, Pv = .slice (some ⟨p, 0, none⟩) S.pend.length c ∧ own p ∧ k < S.pend.length ∧ x.b.length = 128 ∧ x.i < S.stored.length ∧ w.rangeAt p (k * 129) (wrCells x) := by
  have hk := (List.getElem?_eq_some_iff.1 hx).1
  obtain ⟨p, c, rfl, -, -⟩ := h.pend.form (by omega)
  obtain ⟨h1, h2⟩ := h.good.2.1 x (List.mem_of_getElem? hx)
  refine ⟨p, c, rfl, (h.own _).2 (.inr (.inr rfl)), hk, h1, h2, fun j v hv => ?_⟩
  have hall : ∀ y ∈ S.pend, (wrCells y).length = 129 := fun y hy => wrCells_length (h.good.2.1 y hy).1
  have hj : j < 129 := by have := (List.getElem?_eq_some_iff.1 hv).1; rwa [wrCells_length h1] at this
  have := rows_get hall hx hj
  rw [hv] at this
  rw [h.pend.cellAt (k * 129 + j) (by have := (List.getElem?_eq_some_iff.1 this).1; rw [rows_length hall] at this; exact this)]
  exact this
theorem Laid.restored (h : Laid w B D g Pv S own) {k o : Nat} {b vs : List UInt8} (hk : k < S.stored.length) (hb : b.length = 128) (ho : b = vs ++ (S.stored.getD k []).drop vs.length) (hoo : o = k * 128) :
    Laid (w.setCells g o (cellsOf vs)) B D g Pv { S with stored := S.stored.set k b } own ∧ Out own w (w.setCells g o (cellsOf vs)) := by
  subst hoo
  have hown : own g := (h.own _).2 (.inr (.inl rfl))
  have hout : Out (fun j => j = g) w (w.setCells g (k * 128) (cellsOf vs)) := Out.setCells g _ _ (Out.refl _ _) (.inl rfl)
  have hall : ∀ y ∈ S.stored, (cellsOf y).length = 128 := fun y hy => by rw [cellsOf_length]; exact h.good.1 y hy
  have hv : vs.length ≤ 128 := by have := congrArg List.length ho; rw [hb, List.length_append] at this; omega
  have hlen : (Rw.rows cellsOf S.stored).length = S.stored.length * 128 := rows_length hall
  refine ⟨⟨?_, ?_, own_out h.pend hout fun j hj e => h.pg (by rw [hj, e]), h.dg, h.pd, h.pg, h.ld, h.lg, h.own, ⟨?_, ?_, ?_⟩⟩, hout.more fun j _ e => by rw [e]; exact hown⟩
  · have := h.blk.out hout (fun e => h.dg e)
    simpa using this
  · have h1 := h.rows.sets (o := k * 128) (vs := cellsOf vs) (by rw [hlen, cellsOf_length]; omega)
    have e : splice (Rw.rows cellsOf S.stored) (k * 128) (cellsOf vs) = Rw.rows cellsOf (S.stored.set k b) := by
      rw [rows_set hall (by rw [cellsOf_length]; exact hb) hk, ho, cellsOf_append]
      have hx : S.stored[k]? = some (S.stored.getD k []) := by rw [List.getD_eq_getElem?_getD, List.getElem?_eq_getElem hk]; rfl
      have hp := rows_part hall hx
      generalize S.stored.getD k [] = y at *
      have hy : y.length = 128 := by
        have := hall y (List.mem_of_getElem? hx)
        rwa [cellsOf_length] at this
      have e1 : cellsOf (y.drop vs.length) = ((Rw.rows cellsOf S.stored).drop (k * 128 + vs.length)).take (128 - vs.length) := by
        rw [← List.drop_drop, ← List.drop_take, hp]
        simp [cellsOf]
      unfold splice
      rw [List.append_assoc, List.length_append, cellsOf_length, cellsOf_length, e1]
      congr 2
      have e2 : (Rw.rows cellsOf S.stored).drop (k * 128 + vs.length) = ((Rw.rows cellsOf S.stored).drop (k * 128 + vs.length)).take (128 - vs.length) ++ ((Rw.rows cellsOf S.stored).drop (k * 128 + vs.length)).drop (128 - vs.length) := (List.take_append_drop _ _).symm
      rw [e2]
      congr 1
      · rw [List.take_append_drop]
      · rw [List.drop_drop]
        congr 1
        rw [List.length_drop]
        omega
    rw [e] at h1
    exact h1
  · intro y hy
    rcases List.mem_or_eq_of_mem_set hy with hy | rfl
    · exact h.good.1 y hy
    · exact hb
  · intro y hy
    rw [List.length_set]
    exact h.good.2.1 y hy
  · rw [List.length_set]
    exact h.good.2.2
end
end Go.Proofs.Ytpdhnkmihlgdjaa
