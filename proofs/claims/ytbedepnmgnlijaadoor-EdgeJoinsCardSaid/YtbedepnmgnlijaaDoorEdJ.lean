/- Bytes appended to a row of one's own, of which the elder slice is read again. -/
import Derived.Test.YtbedepnmgnlijaaDoorByts
import Derived.Maps.AppendAt
namespace Go.Proofs.YtbedepnmgnlijaaDoor
open Go.RowKit Me

section
variable {P : Program}
theorem run_app_keep (w : World) (base : Nat) (t ty e : TypeId) (i : TypeInfo) (z : Value) (ht : P.underlying t = some (.slice e)) (hi : P.info? e = some i) (hz : i.zero = some z) (hsize : i.size = 1) (hby : i.bytes = 1) (hzs : z.cells.size = 1)
    (V : Option Addr) (n cv : Nat) (l : List UInt8) (hown : w.ownsRow base e 1 (.slice V n cv) n (cellsOf l)) (B : Nat) (A : Option Addr) (k c : Nat) (m : List UInt8) (hm : m.length = k) (hr : Rd w B A m) (hbytes : n + k ≤ 140737488355328) (hbase : base ≤ w.heap.size) :
    ∃ v' w', (Builtin.append_ #[t, t] ty #[.slice V n cv, .slice A k c]).run P w = .ok v' w' ∧ w'.ownsRow base e 1 v' (n + k) (cellsOf (l ++ m)) ∧ w.grownBy w' (Value.slice V n cv).ownBlock ∧ Rd w' w'.heap.size V l := by
  obtain ⟨v', w', hrun, h2, h3, h5⟩ := run_app w base t ty e i z ht hi hz hsize hby hzs (.slice V n cv) n l hown B A k c m hm hr hbytes hbase
  refine ⟨v', w', hrun, h2, h3, fun hl => ?_⟩
  have hn := hown.1
  rw [cellsOf_length, Nat.mul_one] at hn
  rcases hown.2 with ⟨e1, h0⟩ | ⟨g, cap, cur, e1, hbg, hg, hnc, hcm, hcs, htake⟩
  · omega
  · injection e1 with e1 e2 e3
    subst e1
    subst e3
    have hgl : g < w.heap.size := (Array.getElem?_eq_some_iff.1 hg).1
    refine ⟨⟨g, 0, none⟩, rfl, Nat.lt_of_lt_of_le hgl h3.size, fun j u hu => ?_⟩
    have hc0 := hown.cells (g := g) rfl j _ (cellsOf_get hu)
    have hjl := (List.getElem?_eq_some_iff.1 hu).1
    rcases h5 with h5 | h5
    · refine h2.cells (g := g) h5 j _ ?_
      rw [cellsOf_append, List.getElem?_append_left (by rw [cellsOf_length]; exact hjl)]
      exact cellsOf_get hu
    · cases A with
      | none =>
        have h0 : m = [] := by
          rcases Nat.eq_zero_or_pos m.length with h0 | h0
          · exact List.eq_nil_of_length_eq_zero h0
          · obtain ⟨a, e, _⟩ := hr h0
            cases e
        subst h0
        subst hm
        have hr0 : (Builtin.append_ #[t, t] ty #[.slice (some ⟨g, 0, none⟩) n cv, .slice none ([] : List UInt8).length c]).run P w = .ok (.slice (some ⟨g, 0, none⟩) n cv) w := by
          simp [Builtin.append_, run_underlying ht, sizeOf, typeInfo, hi, Builtin.lenOf, Builtin.firstCells, hnc, storeCells]
        have := hrun.symm.trans hr0
        injection this with e4 e5
        rw [e5]; exact hc0
      | some a =>
        have hcells : ∀ j u, (cellsOf m)[j]? = some u → w.cell? (a.add j) = some u := fun j u hu => by
          simp only [cellsOf, List.getElem?_map] at hu
          cases hj : m[j]? with
          | none => simp [hj] at hu
          | some x =>
            simp [hj] at hu
            subst hu
            have hlt : j < m.length := (List.getElem?_eq_some_iff.1 hj).1
            obtain ⟨a', e, _, hc⟩ := hr (by omega)
            cases e
            exact hc j x hj
        by_cases hroom : n + k ≤ cv
        · have hfit : n * i.size + (cellsOf m).length ≤ cur.size := by rw [cellsOf_length, hcs, hm, hsize]; omega
          have hr1 := run_append_room (P := P) w t ty e i ht hi g n cv cur hg a k c (cellsOf m) (by rw [cellsOf_length, hsize]; omega) hcells (cellsOf_one m) hroom hfit
          have := hrun.symm.trans hr1
          injection this with e4 e5
          rw [e4] at h5
          simp [Value.ownBlock] at h5
          omega
        · have hr1 := run_append_grow (P := P) w t ty e i z ht hi hz ⟨g, 0, none⟩ n cv (cellsOf l) (by rw [hsize]; exact hown.1) (hown.cells (g := g) rfl) a k c (cellsOf m) (by rw [cellsOf_length, hsize]; omega) hcells (by omega) (by omega) (growslice_fits (by omega) (by rw [hby]; omega))
          have := hrun.symm.trans hr1
          injection this with e4 e5
          rw [e5]
          exact (World.cell?_alloc_lt w.drew _ _ (by rw [block_add]; exact hgl)).trans hc0
theorem wpList_app_keep {w : World} {ops : Array Oper} {rest : List Oper} {o : Oper} {a : Act} {Q : Exit → Act → World → Prop} (hgd : o.guard = none) (s x : Operand) (t : TypeId)
    (ho : o.op = .call { callee := .builtin .append, args := #[s, x], argTypes := #[t, t] })
    (base : Nat) (e : TypeId) (i : TypeInfo) (z : Value) (ht : P.underlying t = some (.slice e)) (hi : P.info? e = some i) (hz : i.zero = some z) (hsize : i.size = 1) (hby : i.bytes = 1) (hzs : z.cells.size = 1)
    (V : Option Addr) (n cv : Nat) (l : List UInt8) (hs : a.eval s = .slice V n cv) (hown : w.ownsRow base e 1 (.slice V n cv) n (cellsOf l)) (B : Nat) (A : Option Addr) (k c : Nat) (m : List UInt8) (hx : a.eval x = .slice A k c) (hm : m.length = k) (hr : Rd w B A m)
    (hbytes : n + k ≤ 140737488355328) (hbase : base ≤ w.heap.size)
    (h : ∀ v' w', w'.ownsRow base e 1 v' (n + k) (cellsOf (l ++ m)) → w.grownBy w' (Value.slice V n cv).ownBlock → Rd w' w'.heap.size V l → wpList P ops Q rest (a.put o.dst v') w') : wpList P ops Q (o :: rest) a w := by
  refine wpList_plain hgd fun K hK => ?_
  obtain ⟨v', w', hrun, h2, h3, h4⟩ := run_app_keep (P := P) w base t o.type e i z ht hi hz hsize hby hzs V n cv l hown B A k c m hm hr hbytes hbase
  unfold Oper.wp execOp
  simp only [ho, resolve, invoke, builtin, Sem.run_bind, Sem.run_pure, Result.andThen_ok, List.map_toArray, List.map_cons, List.map_nil, hs, hx, hrun]
  exact hK _ _ (h v' w' h2 h3 h4)
end
end Go.Proofs.YtbedepnmgnlijaaDoor
