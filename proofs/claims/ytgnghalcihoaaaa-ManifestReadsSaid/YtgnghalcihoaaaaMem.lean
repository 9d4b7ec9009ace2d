/- Bytes in memory: a slice that reads as a list of bytes, nil and empty ones too. -/
import Derived.Below
import Derived.Laws.OwnMore
import Derived.Deep.AppendLies
import Derived.Deep.Draws
import Derived.Maps.AppendAt
import Derived.RegionTactic
import Derived.OwnWalk
import Derived.Laws.BytesArg
namespace Go.Proofs.Ytgnghalcihoaaaa.Me
open Go.RowKit

theorem block_add (a : Addr) (n : Nat) : (a.add n).block = a.block := by unfold Addr.add; split <;> rfl
theorem add_add (a : Addr) (i j : Nat) : (a.add i).add j = a.add (i + j) := by
  unfold Addr.add
  by_cases hi : i = 0 <;> by_cases hj : j = 0 <;> simp [hi, hj, Nat.add_assoc]

/-- The cells of bytes. -/
def cellsOf (l : List UInt8) : List Value := l.map fun u => Value.int .u8 (u.toNat : Int)
theorem cellsOf_length (l : List UInt8) : (cellsOf l).length = l.length := by simp [cellsOf]
theorem cellsOf_append (l m : List UInt8) : cellsOf (l ++ m) = cellsOf l ++ cellsOf m := by simp [cellsOf]
theorem cellsOf_get {l : List UInt8} {i : Nat} {u : UInt8} (h : l[i]? = some u) : (cellsOf l)[i]? = some (.int .u8 (u.toNat : Int)) := by simp [cellsOf, h]
theorem cellsOf_one (l : List UInt8) : ∀ v ∈ cellsOf l, v.oneCell' = true := by
  intro v hv
  simp only [cellsOf, List.mem_map] at hv
  obtain ⟨u, -, rfl⟩ := hv
  rfl

/-- The slice at A of so many bytes reads as l, in blocks below B. -/
def Rd (w : World) (B : Nat) (A : Option Addr) (l : List UInt8) : Prop :=
  0 < l.length → ∃ a, A = some a ∧ a.block < B ∧ ∀ i u, l[i]? = some u → w.cell? (a.add i) = some (.int .u8 (u.toNat : Int))

section
variable {w w' : World} {B B' : Nat} {A : Option Addr} {l : List UInt8}
theorem Rd.empty : Rd w B A [] := fun h => by simp at h
theorem take_snoc {l : List UInt8} {k : Nat} {u : UInt8} (h : l[k]? = some u) : l.take (k + 1) = l.take k ++ [u] := by
  rw [List.take_add_one, h]; rfl
theorem Rd.at {k : Nat} (h : Rd w B A l) (hk : k < l.length) : ∃ a u, A = some a ∧ a.block < B ∧ l[k]? = some u ∧ w.cell? (a.add k) = some (.int .u8 (u.toNat : Int)) := by
  obtain ⟨a, e, hb, hc⟩ := h (by omega)
  exact ⟨a, l[k], e, hb, List.getElem?_eq_getElem hk, hc k _ (List.getElem?_eq_getElem hk)⟩
theorem Rd.keep (h : Rd w B A l) (hk : ∀ p : Addr, p.block < B → w'.cell? p = w.cell? p) : Rd w' B A l := fun hn => by
  obtain ⟨a, e, hb, hc⟩ := h hn
  exact ⟨a, e, hb, fun j u hu => (hk _ (by rw [block_add]; exact hb)).trans (hc j u hu)⟩
theorem Rd.more (h : Rd w B A l) (hB : B ≤ B') : Rd w B' A l := fun hn => by
  obtain ⟨a, e, hb, hc⟩ := h hn
  exact ⟨a, e, by omega, hc⟩
theorem Rd.below (h : Rd w B A l) (hb : Below B w w') : Rd w' B A l := h.keep fun _ hp => hb.cell hp
theorem Rd.drew (h : Rd w B A l) : Rd w.drew B A l := h
theorem Rd.drewN (h : Rd w B A l) (k : Nat) : Rd (w.drewN k) B A l := h
theorem Rd.alloc (h : Rd w B A l) (hB : B ≤ w.heap.size) (o : Obj) : Rd (w.alloc o) B A l := h.keep fun p hp => World.cell?_alloc_lt w o p (by omega)
theorem Rd.setCell (h : Rd w B A l) {p : Addr} (hB : B ≤ p.block) (u : Value) : Rd (w.setCell p u) B A l :=
  h.keep fun q hq => World.cell?_setCell_other w p q u (fun e => by subst e; omega)
theorem Rd.grown (h : Rd w B A l) {row : Option Nat} (hg : w.grownBy w' row) (hB : B ≤ w.heap.size) (hr : ∀ g, row = some g → B ≤ g) : Rd w' B A l :=
  h.keep fun p hp => World.cell?_of_block (hg.block p.block (by omega) (fun e => by have := hr _ e.symm; omega))
theorem Rd.take (h : Rd w B A l) (k : Nat) : Rd w B A (l.take k) := fun hn => by
  obtain ⟨a, e, hb, hc⟩ := h (by simp at hn; omega)
  refine ⟨a, e, hb, fun i u hu => hc i u ?_⟩
  rw [List.getElem?_take] at hu
  split at hu
  · exact hu
  · cases hu
theorem Rd.drop (h : Rd w B A l) {k cap : Nat} (hc : l.length ≤ cap) : Rd w B (if cap = k then A else A.map (·.add k)) (l.drop k) := fun hn => by
  obtain ⟨a, rfl, hb, hcell⟩ := h (by simp at hn; omega)
  rw [if_neg (by simp at hn; omega)]
  refine ⟨a.add k, rfl, by rw [block_add]; exact hb, fun j u hu => ?_⟩
  rw [add_add]
  exact hcell _ u (by rw [← hu, List.getElem?_drop])
theorem Rd.of_own {base : Nat} {e : TypeId} {c : Nat} {n : Nat} (h : w.ownsRow base e 1 (.slice A n c) n (cellsOf l)) : Rd w w.heap.size A l := fun hn => by
  have hl := h.1
  rw [cellsOf_length] at hl
  obtain ⟨g, cap, hv, _, hlt⟩ := h.form (by omega)
  have hA : A = some ⟨g, 0, none⟩ := by injection hv
  subst hA
  exact ⟨_, rfl, hlt, fun i u hu => h.cells (g := g) rfl i _ (cellsOf_get hu)⟩
theorem Rd.of_block {g : Nat} {cur : Array Value} {t : TypeId} {fr : Nat × Nat} (hh : w.heap[g]? = some (.cells cur t fr)) (hc : ∀ (i : Nat) (u : UInt8), l[i]? = some u → cur[i]? = some (Value.int .u8 (u.toNat : Int))) : Rd w w.heap.size (some ⟨g, 0, none⟩) l := fun _ => by
  refine ⟨_, rfl, (Array.getElem?_eq_some_iff.1 hh).1, fun i u hu => ?_⟩
  have e : (⟨g, 0, none⟩ : Addr).add i = ⟨g, i, none⟩ := by unfold Addr.add; split <;> simp_all
  rw [e]
  simp only [World.cell?, hh]
  simpa using hc i u hu
end

section
variable {P : Program}
/-- Bytes read as a string. -/
theorem run_str (src e dst : TypeId) (hs : P.underlying src = some (.slice e)) (he : P.underlying e = some (.int .u8)) (hd : P.underlying dst = some .string) (w : World) (B : Nat) (A : Option Addr) (l : List UInt8) (n c : Nat)
    (hn : l.length = n) (h : Rd w B A l) : (convert src dst (.slice A n c)).run P w = .ok (.string ⟨l.toArray⟩) w := by
  rw [run_convert_bytes_string w src dst e A n c hs he hd]
  subst hn
  cases A with
  | none =>
    have h0 : l = [] := by
      rcases Nat.eq_zero_or_pos l.length with h0 | h0
      · exact List.eq_nil_of_length_eq_zero h0
      · obtain ⟨a, e, _⟩ := h h0
        cases e
    subst h0
    have := run_convert_bytes_string (P := P) w src dst e none 0 c hs he hd
    simp [Conv.bytesToString]
    rfl
  | some a =>
    have hload : (loadCells a l.length).run P w = .ok ((l.map fun u => (u.toNat : Int)).map (Value.int .u8)).toArray w := by
      have := run_loadCells_list (P := P) w a (cellsOf l) (fun j v hv => by
        simp only [cellsOf, List.getElem?_map] at hv
        cases hj : l[j]? with
        | none => simp [hj] at hv
        | some u =>
          simp [hj] at hv
          subst hv
          have hlt : j < l.length := (List.getElem?_eq_some_iff.1 hj).1
          obtain ⟨a', e, _, hc⟩ := h (by omega)
          cases e
          exact hc j u hj)
      rw [cellsOf_length] at this
      rw [this]
      simp [cellsOf, Function.comp_def]
    rw [run_bytesToString w a l.length c _ hload, foldl_push_bytes]
    congr 2
    simp [Function.comp_def]
end

section
variable {P : Program}
/-- Bytes appended to a row of one's own, whatever the source. -/
theorem run_app (w : World) (base : Nat) (t ty e : TypeId) (i : TypeInfo) (z : Value) (ht : P.underlying t = some (.slice e)) (hi : P.info? e = some i) (hz : i.zero = some z) (hsize : i.size = 1) (hby : i.bytes = 1) (hzs : z.cells.size = 1)
    (v : Value) (n : Nat) (l : List UInt8) (hown : w.ownsRow base e 1 v n (cellsOf l)) (B : Nat) (A : Option Addr) (k c : Nat) (m : List UInt8) (hm : m.length = k) (hr : Rd w B A m) (hbytes : n + k ≤ 140737488355328) (hbase : base ≤ w.heap.size) :
    ∃ v' w', (Builtin.append_ #[t, t] ty #[v, .slice A k c]).run P w = .ok v' w' ∧ w'.ownsRow base e 1 v' (n + k) (cellsOf (l ++ m)) ∧ w.grownBy w' v.ownBlock ∧ (v'.ownBlock = v.ownBlock ∨ v'.ownBlock = some w.heap.size) := by
  cases A with
  | none =>
    have h0 : m = [] := by
      rcases Nat.eq_zero_or_pos m.length with h0 | h0
      · exact List.eq_nil_of_length_eq_zero h0
      · obtain ⟨a, e, _⟩ := hr h0
        cases e
    subst h0
    subst hm
    refine ⟨v, w, ?_, by simpa using hown, World.grownBy.refl w _, .inl rfl⟩
    rcases hown.2 with ⟨rfl, rfl⟩ | ⟨g, cap, cur, rfl, _, _, hnc, _⟩
    · simp [Builtin.append_, run_underlying ht, sizeOf, typeInfo, hi, Builtin.lenOf, Builtin.firstCells]
    · simp [Builtin.append_, run_underlying ht, sizeOf, typeInfo, hi, Builtin.lenOf, Builtin.firstCells, hnc, storeCells]
  | some a =>
    have hcells : ∀ j u, (cellsOf m)[j]? = some u → w.cell? (a.add j) = some u := fun j u hu => by
      simp only [cellsOf, List.getElem?_map] at hu
      cases hj : m[j]? with
      | none => simp [hj] at hu
      | some x =>
        simp [hj] at hu
        subst hu
        have hlt : j < m.length := (List.getElem?_eq_some_iff.1 hj).1
        obtain ⟨a', e, _, hc⟩ := hr (by omega)
        cases e
        exact hc j x hj
    obtain ⟨v', w', hrun, h2, h3, _, h5⟩ := run_append_own_at (P := P) w base t ty e i z 1 1 ht hi hz hsize hby hzs (by omega) v n (cellsOf l) hown a k c (cellsOf m) (by rw [cellsOf_length]; omega) hcells (cellsOf_one m) (by unfold maxLen; omega) (by omega) hbase
    rw [← cellsOf_append] at h2
    exact ⟨v', w', hrun, h2, h3, h5⟩
theorem wpList_app {w : World} {ops : Array Oper} {rest : List Oper} {o : Oper} {a : Act} {Q : Exit → Act → World → Prop} (hgd : o.guard = none) (s x : Operand) (t : TypeId)
    (ho : o.op = .call { callee := .builtin .append, args := #[s, x], argTypes := #[t, t] })
    (base : Nat) (e : TypeId) (i : TypeInfo) (z : Value) (ht : P.underlying t = some (.slice e)) (hi : P.info? e = some i) (hz : i.zero = some z) (hsize : i.size = 1) (hby : i.bytes = 1) (hzs : z.cells.size = 1)
    (v : Value) (n : Nat) (l : List UInt8) (hs : a.eval s = v) (hown : w.ownsRow base e 1 v n (cellsOf l)) (B : Nat) (A : Option Addr) (k c : Nat) (m : List UInt8) (hx : a.eval x = .slice A k c) (hm : m.length = k) (hr : Rd w B A m)
    (hbytes : n + k ≤ 140737488355328) (hbase : base ≤ w.heap.size)
    (h : ∀ v' w', w'.ownsRow base e 1 v' (n + k) (cellsOf (l ++ m)) → w.grownBy w' v.ownBlock → (v'.ownBlock = v.ownBlock ∨ v'.ownBlock = some w.heap.size) → wpList P ops Q rest (a.put o.dst v') w') : wpList P ops Q (o :: rest) a w := by
  refine wpList_plain hgd fun K hK => ?_
  obtain ⟨v', w', hrun, h2, h3, h4⟩ := run_app (P := P) w base t o.type e i z ht hi hz hsize hby hzs v n l hown B A k c m hm hr hbytes hbase
  unfold Oper.wp execOp
  simp only [ho, resolve, invoke, builtin, Sem.run_bind, Sem.run_pure, Result.andThen_ok, List.map_toArray, List.map_cons, List.map_nil, hs, hx, hrun]
  exact hK _ _ (h v' w' h2 h3 h4)
/-- An empty row of one's own: []byte{}. -/
theorem own_empty (w : World) (base : Nat) (e : TypeId) (hb : base ≤ w.heap.size) : (w.alloc (.cells #[] e)).ownsRow base e 1 (.slice (some ⟨w.heap.size, 0, none⟩) 0 0) 0 (cellsOf []) :=
  World.ownsRow_lit w #[] 0 hb (by unfold maxLen; omega) rfl
/-- A row of bytes that was just written out. -/
theorem Rd.lit (w : World) (cs : Array Value) (t : TypeId) (l : List UInt8) (hc : cs.toList = cellsOf l) : Rd (w.alloc (.cells cs t)) (w.heap.size + 1) (some ⟨w.heap.size, 0, none⟩) l := by
  have hh := heap_alloc_new w (.cells cs t)
  have := Rd.of_block (l := l) hh (fun i u hu => by
    have := cellsOf_get hu
    rw [← hc] at this
    simpa using this)
  rwa [World.size_alloc] at this
theorem own_more {w : World} {base base' : Nat} {e : TypeId} {size : Nat} {v : Value} {n : Nat} {xs : List Value} (h : w.ownsRow base' e size v n xs) (hb : base ≤ base') : w.ownsRow base e size v n xs := by
  refine ⟨h.1, ?_⟩
  rcases h.2 with h0 | ⟨g, cap, cur, h1, h2, h3⟩
  · exact .inl h0
  · exact .inr ⟨g, cap, cur, h1, by omega, h3⟩
/-- What is owned is a slice. -/
theorem own_slice {w : World} {base : Nat} {e : TypeId} {v : Value} {n : Nat} {xs : List Value} (h : w.ownsRow base e 1 v n xs) : ∃ A c, v = .slice A n c := by
  rcases h.2 with ⟨rfl, rfl⟩ | ⟨g, cap, cur, rfl, _⟩
  · exact ⟨_, _, rfl⟩
  · exact ⟨_, _, rfl⟩
theorem own_cap {w : World} {base : Nat} {e : TypeId} {A : Option Addr} {n c : Nat} {xs : List Value} (h : w.ownsRow base e 1 (.slice A n c) n xs) (hn : 0 < n) : n ≤ c := by
  rcases h.2 with ⟨_, h0⟩ | ⟨g, cap, cur, h1, _, _, h2, _⟩
  · omega
  · injection h1 with _ _ h3; omega
/-- A row of one's own, behind what only makes memory. -/
theorem own_below {w w' : World} {base : Nat} {e : TypeId} {v : Value} {n : Nat} {xs : List Value} (h : w.ownsRow base e 1 v n xs) (hb : Below w.heap.size w w') : w'.ownsRow base e 1 v n xs :=
  h.kept (row := none) ⟨hb.os, hb.tape, hb.output, hb.size, fun k hk _ => hb.block k hk⟩ (by
    rcases h.2 with ⟨rfl, _⟩ | ⟨g, cap, cur, rfl, _⟩
    · exact .inl rfl
    · exact .inr (by simp [Value.ownBlock]))
/-- What is kept behind an append to a row of one's own. -/
theorem below_app {B : Nat} {a w w' : World} {v : Value} {base n : Nat} {e : TypeId} {xs : List Value} (h : Below B a w) (hown : w.ownsRow base e 1 v n xs) (hB : B ≤ base) (hs : B ≤ w.heap.size) (hg : w.grownBy w' v.ownBlock) : Below B a w' :=
  h.grown hg hs fun k hk => by have := (hown.lt k hk).1; omega
end
end Go.Proofs.Ytgnghalcihoaaaa.Me
