/- Texts put together, for a law: Gen, Tx, EdP, MgP, MkP, EdQ, GwT, AppRow, MsP, RnP, HpP, MwP, MyP, RcP, EdW. -/
import Derived.Test.YteaibgnelnblnaaRows
import Derived.WalkKit
import Derived.ProofKit
import Derived.Lib.SmallJoins
import Derived.Below
import Derived.Laws.OwnMore
import Derived.Deep.AppendLies
import Derived.Deep.Draws
import Derived.Maps.AppendAt
import Derived.RegionTactic
import Derived.OwnWalk
import Derived.Laws.BytesArg
import Derived.WalkSpells
import Derived.Lib.Hide
import Derived.Lib.SliceRun
import Derived.WalkLawsBesides
import Derived.Deep.Slices
import Derived.Deep.Fields
import Derived.ChangeSame
import Derived.Laws.BitsAllLaws
import Derived.Orders
import Derived.BigFrame
import Derived.Deep.MidRow
import Derived.Laws.CopyOwn
import Derived.Laws.MakeOwn
import Derived.Laws.IdiomStrings
section
/-! Closed facts of this program that every law asks. -/
namespace Go.Proofs.Yteaibgnelnblnaa
open Go.RowKit

theorem ret_int {k : IntKind} {a b : Int} (h : a = b) : Ending.returned (.int k a) = .returned (.int k b) := by rw [h]
theorem own : ownKnob Try.prog.godebug = none := by kernel_rfl
theorem laidOut : laidOutB Try.prog = true := by kernel_rfl
end Go.Proofs.Yteaibgnelnblnaa

/-! Bytes in memory: a slice that reads as a list of bytes, nil and empty ones too. -/
namespace Go.Proofs.Yteaibgnelnblnaa.Me
open Go.RowKit

theorem block_add (a : Addr) (n : Nat) : (a.add n).block = a.block := by unfold Addr.add; split <;> rfl
theorem add_add (a : Addr) (i j : Nat) : (a.add i).add j = a.add (i + j) := by
  unfold Addr.add
  by_cases hi : i = 0 <;> by_cases hj : j = 0 <;> simp [hi, hj, Nat.add_assoc]

/-- The cells of bytes. -/
def cellsOf (l : List UInt8) : List Value := l.map fun u => Value.int .u8 (u.toNat : Int)
theorem cellsOf_length (l : List UInt8) : (cellsOf l).length = l.length := by simp [cellsOf]
theorem cellsOf_append (l m : List UInt8) : cellsOf (l ++ m) = cellsOf l ++ cellsOf m := by simp [cellsOf]
theorem cellsOf_get {l : List UInt8} {i : Nat} {u : UInt8} (h : l[i]? = some u) : (cellsOf l)[i]? = some (.int .u8 (u.toNat : Int)) := by simp [cellsOf, h]
theorem cellsOf_one (l : List UInt8) : ∀ v ∈ cellsOf l, v.oneCell' = true := by
  intro v hv
  simp only [cellsOf, List.mem_map] at hv
  obtain ⟨u, -, rfl⟩ := hv
  rfl

/-- The slice at A of so many bytes reads as l, in blocks below B. -/
def Rd (w : World) (B : Nat) (A : Option Addr) (l : List UInt8) : Prop :=
  0 < l.length → ∃ a, A = some a ∧ a.block < B ∧ ∀ i u, l[i]? = some u → w.cell? (a.add i) = some (.int .u8 (u.toNat : Int))

section
variable {w w' : World} {B B' : Nat} {A : Option Addr} {l : List UInt8}
theorem Rd.empty : Rd w B A [] := fun h => by simp at h
theorem take_snoc {l : List UInt8} {k : Nat} {u : UInt8} (h : l[k]? = some u) : l.take (k + 1) = l.take k ++ [u] := by
  rw [List.take_add_one, h]; rfl
theorem Rd.at {k : Nat} (h : Rd w B A l) (hk : k < l.length) : ∃ a u, A = some a ∧ a.block < B ∧ l[k]? = some u ∧ w.cell? (a.add k) = some (.int .u8 (u.toNat : Int)) := by
  obtain ⟨a, e, hb, hc⟩ := h (by omega)
  exact ⟨a, l[k], e, hb, List.getElem?_eq_getElem hk, hc k _ (List.getElem?_eq_getElem hk)⟩
theorem Rd.keep (h : Rd w B A l) (hk : ∀ p : Addr, p.block < B → w'.cell? p = w.cell? p) : Rd w' B A l := fun hn => by
  obtain ⟨a, e, hb, hc⟩ := h hn
  exact ⟨a, e, hb, fun j u hu => (hk _ (by rw [block_add]; exact hb)).trans (hc j u hu)⟩
theorem Rd.more (h : Rd w B A l) (hB : B ≤ B') : Rd w B' A l := fun hn => by
  obtain ⟨a, e, hb, hc⟩ := h hn
  exact ⟨a, e, by omega, hc⟩
theorem Rd.below (h : Rd w B A l) (hb : Below B w w') : Rd w' B A l := h.keep fun _ hp => hb.cell hp
theorem Rd.drew (h : Rd w B A l) : Rd w.drew B A l := h
theorem Rd.drewN (h : Rd w B A l) (k : Nat) : Rd (w.drewN k) B A l := h
theorem Rd.alloc (h : Rd w B A l) (hB : B ≤ w.heap.size) (o : Obj) : Rd (w.alloc o) B A l := h.keep fun p hp => World.cell?_alloc_lt w o p (by omega)
theorem Rd.setCell (h : Rd w B A l) {p : Addr} (hB : B ≤ p.block) (u : Value) : Rd (w.setCell p u) B A l :=
  h.keep fun q hq => World.cell?_setCell_other w p q u (fun e => by subst e; omega)
theorem Rd.grown (h : Rd w B A l) {row : Option Nat} (hg : w.grownBy w' row) (hB : B ≤ w.heap.size) (hr : ∀ g, row = some g → B ≤ g) : Rd w' B A l :=
  h.keep fun p hp => World.cell?_of_block (hg.block p.block (by omega) (fun e => by have := hr _ e.symm; omega))
theorem Rd.take (h : Rd w B A l) (k : Nat) : Rd w B A (l.take k) := fun hn => by
  obtain ⟨a, e, hb, hc⟩ := h (by simp at hn; omega)
  refine ⟨a, e, hb, fun i u hu => hc i u ?_⟩
  rw [List.getElem?_take] at hu
  split at hu
  · exact hu
  · cases hu
theorem Rd.drop (h : Rd w B A l) {k cap : Nat} (hc : l.length ≤ cap) : Rd w B (if cap = k then A else A.map (·.add k)) (l.drop k) := fun hn => by
  obtain ⟨a, rfl, hb, hcell⟩ := h (by simp at hn; omega)
  rw [if_neg (by simp at hn; omega)]
  refine ⟨a.add k, rfl, by rw [block_add]; exact hb, fun j u hu => ?_⟩
  rw [add_add]
  exact hcell _ u (by rw [← hu, List.getElem?_drop])
theorem Rd.of_own {base : Nat} {e : TypeId} {c : Nat} {n : Nat} (h : w.ownsRow base e 1 (.slice A n c) n (cellsOf l)) : Rd w w.heap.size A l := fun hn => by
  have hl := h.1
  rw [cellsOf_length] at hl
  obtain ⟨g, cap, hv, _, hlt⟩ := h.form (by omega)
  have hA : A = some ⟨g, 0, none⟩ := by injection hv
  subst hA
  exact ⟨_, rfl, hlt, fun i u hu => h.cells (g := g) rfl i _ (cellsOf_get hu)⟩
theorem Rd.of_block {g : Nat} {cur : Array Value} {t : TypeId} {fr : Nat × Nat} (hh : w.heap[g]? = some (.cells cur t fr)) (hc : ∀ (i : Nat) (u : UInt8), l[i]? = some u → cur[i]? = some (Value.int .u8 (u.toNat : Int))) : Rd w w.heap.size (some ⟨g, 0, none⟩) l := fun _ => by
  refine ⟨_, rfl, (Array.getElem?_eq_some_iff.1 hh).1, fun i u hu => ?_⟩
  have e : (⟨g, 0, none⟩ : Addr).add i = ⟨g, i, none⟩ := by unfold Addr.add; split <;> simp_all
  rw [e]
  simp only [World.cell?, hh]
  simpa using hc i u hu
end

section
variable {P : Program}
end

section
variable {P : Program}
/-- Bytes appended to a row of one's own, whatever the source. -/
theorem run_app (w : World) (base : Nat) (t ty e : TypeId) (i : TypeInfo) (z : Value) (ht : P.underlying t = some (.slice e)) (hi : P.info? e = some i) (hz : i.zero = some z) (hsize : i.size = 1) (hby : i.bytes = 1) (hzs : z.cells.size = 1)
    (v : Value) (n : Nat) (l : List UInt8) (hown : w.ownsRow base e 1 v n (cellsOf l)) (B : Nat) (A : Option Addr) (k c : Nat) (m : List UInt8) (hm : m.length = k) (hr : Rd w B A m) (hbytes : n + k ≤ 140737488355328) (hbase : base ≤ w.heap.size) :
    ∃ v' w', (Builtin.append_ #[t, t] ty #[v, .slice A k c]).run P w = .ok v' w' ∧ w'.ownsRow base e 1 v' (n + k) (cellsOf (l ++ m)) ∧ w.grownBy w' v.ownBlock ∧ (v'.ownBlock = v.ownBlock ∨ v'.ownBlock = some w.heap.size) := by
  cases A with
  | none =>
    have h0 : m = [] := by
      rcases Nat.eq_zero_or_pos m.length with h0 | h0
      · exact List.eq_nil_of_length_eq_zero h0
      · obtain ⟨a, e, _⟩ := hr h0
        cases e
    subst h0
    subst hm
    refine ⟨v, w, ?_, by simpa using hown, World.grownBy.refl w _, .inl rfl⟩
    rcases hown.2 with ⟨rfl, rfl⟩ | ⟨g, cap, cur, rfl, _, _, hnc, _⟩
    · simp [Builtin.append_, run_underlying ht, sizeOf, typeInfo, hi, Builtin.lenOf, Builtin.firstCells]
    · simp [Builtin.append_, run_underlying ht, sizeOf, typeInfo, hi, Builtin.lenOf, Builtin.firstCells, hnc, storeCells]
  | some a =>
    have hcells : ∀ j u, (cellsOf m)[j]? = some u → w.cell? (a.add j) = some u := fun j u hu => by
      simp only [cellsOf, List.getElem?_map] at hu
      cases hj : m[j]? with
      | none => simp [hj] at hu
      | some x =>
        simp [hj] at hu
        subst hu
        have hlt : j < m.length := (List.getElem?_eq_some_iff.1 hj).1
        obtain ⟨a', e, _, hc⟩ := hr (by omega)
        cases e
        exact hc j x hj
    obtain ⟨v', w', hrun, h2, h3, _, h5⟩ := run_append_own_at (P := P) w base t ty e i z 1 1 ht hi hz hsize hby hzs (by omega) v n (cellsOf l) hown a k c (cellsOf m) (by rw [cellsOf_length]; omega) hcells (cellsOf_one m) (by unfold maxLen; omega) (by omega) hbase
    rw [← cellsOf_append] at h2
    exact ⟨v', w', hrun, h2, h3, h5⟩
theorem wpList_app {w : World} {ops : Array Oper} {rest : List Oper} {o : Oper} {a : Act} {Q : Exit → Act → World → Prop} (hgd : o.guard = none) (s x : Operand) (t : TypeId)
    (ho : o.op = .call { callee := .builtin .append, args := #[s, x], argTypes := #[t, t] })
    (base : Nat) (e : TypeId) (i : TypeInfo) (z : Value) (ht : P.underlying t = some (.slice e)) (hi : P.info? e = some i) (hz : i.zero = some z) (hsize : i.size = 1) (hby : i.bytes = 1) (hzs : z.cells.size = 1)
    (v : Value) (n : Nat) (l : List UInt8) (hs : a.eval s = v) (hown : w.ownsRow base e 1 v n (cellsOf l)) (B : Nat) (A : Option Addr) (k c : Nat) (m : List UInt8) (hx : a.eval x = .slice A k c) (hm : m.length = k) (hr : Rd w B A m)
    (hbytes : n + k ≤ 140737488355328) (hbase : base ≤ w.heap.size)
    (h : ∀ v' w', w'.ownsRow base e 1 v' (n + k) (cellsOf (l ++ m)) → w.grownBy w' v.ownBlock → (v'.ownBlock = v.ownBlock ∨ v'.ownBlock = some w.heap.size) → wpList P ops Q rest (a.put o.dst v') w') : wpList P ops Q (o :: rest) a w := by
  refine wpList_plain hgd fun K hK => ?_
  obtain ⟨v', w', hrun, h2, h3, h4⟩ := run_app (P := P) w base t o.type e i z ht hi hz hsize hby hzs v n l hown B A k c m hm hr hbytes hbase
  unfold Oper.wp execOp
  simp only [ho, resolve, invoke, builtin, Sem.run_bind, Sem.run_pure, Result.andThen_ok, List.map_toArray, List.map_cons, List.map_nil, hs, hx, hrun]
  exact hK _ _ (h v' w' h2 h3 h4)
/-- An empty row of one's own: []byte{}. -/
theorem own_empty (w : World) (base : Nat) (e : TypeId) (hb : base ≤ w.heap.size) : (w.alloc (.cells #[] e)).ownsRow base e 1 (.slice (some ⟨w.heap.size, 0, none⟩) 0 0) 0 (cellsOf []) :=
  World.ownsRow_lit w #[] 0 hb (by unfold maxLen; omega) rfl
/-- A row of bytes that was just written out. -/
theorem Rd.lit (w : World) (cs : Array Value) (t : TypeId) (l : List UInt8) (hc : cs.toList = cellsOf l) : Rd (w.alloc (.cells cs t)) (w.heap.size + 1) (some ⟨w.heap.size, 0, none⟩) l := by
  have hh := heap_alloc_new w (.cells cs t)
  have := Rd.of_block (l := l) hh (fun i u hu => by
    have := cellsOf_get hu
    rw [← hc] at this
    simpa using this)
  rwa [World.size_alloc] at this
theorem own_more {w : World} {base base' : Nat} {e : TypeId} {size : Nat} {v : Value} {n : Nat} {xs : List Value} (h : w.ownsRow base' e size v n xs) (hb : base ≤ base') : w.ownsRow base e size v n xs := by
  refine ⟨h.1, ?_⟩
  rcases h.2 with h0 | ⟨g, cap, cur, h1, h2, h3⟩
  · exact .inl h0
  · exact .inr ⟨g, cap, cur, h1, by omega, h3⟩
/-- What is owned is a slice. -/
theorem own_slice {w : World} {base : Nat} {e : TypeId} {v : Value} {n : Nat} {xs : List Value} (h : w.ownsRow base e 1 v n xs) : ∃ A c, v = .slice A n c := by
  rcases h.2 with ⟨rfl, rfl⟩ | ⟨g, cap, cur, rfl, _⟩
  · exact ⟨_, _, rfl⟩
  · exact ⟨_, _, rfl⟩
theorem own_cap {w : World} {base : Nat} {e : TypeId} {A : Option Addr} {n c : Nat} {xs : List Value} (h : w.ownsRow base e 1 (.slice A n c) n xs) (hn : 0 < n) : n ≤ c := by
  rcases h.2 with ⟨_, h0⟩ | ⟨g, cap, cur, h1, _, _, h2, _⟩
  · omega
  · injection h1 with _ _ h3; omega
/-- A row of one's own, behind what only makes memory. -/
theorem own_below {w w' : World} {base : Nat} {e : TypeId} {v : Value} {n : Nat} {xs : List Value} (h : w.ownsRow base e 1 v n xs) (hb : Below w.heap.size w w') : w'.ownsRow base e 1 v n xs :=
  h.kept (row := none) ⟨hb.os, hb.tape, hb.output, hb.size, fun k hk _ => hb.block k hk⟩ (by
    rcases h.2 with ⟨rfl, _⟩ | ⟨g, cap, cur, rfl, _⟩
    · exact .inl rfl
    · exact .inr (by simp [Value.ownBlock]))
/-- What is kept behind an append to a row of one's own. -/
theorem below_app {B : Nat} {a w w' : World} {v : Value} {base n : Nat} {e : TypeId} {xs : List Value} (h : Below B a w) (hown : w.ownsRow base e 1 v n xs) (hB : B ≤ base) (hs : B ≤ w.heap.size) (hg : w.grownBy w' v.ownBlock) : Below B a w' :=
  h.grown hg hs fun k hk => by have := (hown.lt k hk).1; omega
end
end Go.Proofs.Yteaibgnelnblnaa.Me

/-! From a walk that returns true and leaves all memory that was there as it was, to the law's row. -/
namespace Go.Proofs.Yteaibgnelnblnaa.Lw
open Go.ChangeShapes Go.WideShapes Go.ChangeAt Go.RowKit

section
variable {H : Type} {enc : TypeId × Value → H} {P : Program}
/-- Arguments read behind the call as they read before. -/
theorem trodAll_below (hl : laidOutB P = true) {W W' : World} (hb : Below W.heap.size W W') :
    ∀ {ts : List TypeId} {vs : List Value} {ds : List (DataW H)} {p : List MemPlace},
      (∀ t ∈ ts, P.readableRec t = true ∧ t < P.types.size) → (∀ x ∈ p, x.block < W.heap.size) →
      DataW.TrodAll enc P W 0 (fun _ => true) true ts vs ds p → DataW.TrodAll enc P W' 0 (fun b => decide (b < W.heap.size)) true ts vs ds p
  | [], _, _, _, _, _, h => by
    obtain ⟨rfl, rfl, rfl⟩ := trodAll_nil h
    exact trodAll_mk0
  | t :: ts, _, _, _, hr, hlt, h => by
    obtain ⟨v, vs1, d, ds1, a, b, rfl, rfl, rfl, h1, h2⟩ := trodAll_cons h
    exact trodAll_cons_mk (Below.trod hl (hr t (by simp)).1 (hr t (by simp)).2 h1 hb (fun x hx => hlt x (by simp [hx])))
      (trodAll_below hl hb (fun t' ht' => hr t' (by simp [ht'])) (fun x hx => hlt x (by simp [hx])) h2)

/-- The parameters' types can be read. -/
def readsB (P : Program) (f : Func) : Bool := f.params.toList.all fun t => P.readableRec t && decide (t < P.types.size)

/-- What a law's row asks, out of a walk that returns true and writes nothing that was there. -/
theorem post_true {f : Func} {s : ChangeSpec} {fresh handsOn : Bool} {W W' : World} {args : Array Value} {ds gs : List (DataW H)} {before : List MemPlace} {bt : TypeId}
    (hl : laidOutB P = true) (hr : readsB P f = true) (hs : s.vars = []) (hf : (s.fn H ds).results = [.lit (.bool true)]) (ha : (s.fn H ds).args = ds) (hv : (s.fn H ds).vars = [])
    (hrt : f.resultTypes = #[bt]) (hbt : P.underlying bt = some .bool)
    (hW : DataW.Whole enc P f.params.toList s.vars false W args.toList ds gs before) (hb : Below W.heap.size W W') :
    s.post enc P f false fresh handsOn false W args (.bool true) W' := by
  have hlt : ∀ p ∈ before, p.block < W.heap.size := fun p hp => hW.lt p hp
  have hW' := hW
  obtain ⟨p, q, hA, hV, hpq, _, _⟩ := hW
  rw [hs] at hV
  obtain ⟨rfl, rfl⟩ := trodVars_none hV
  simp only [List.append_nil] at hpq
  subst hpq
  have hrr : ∀ t ∈ f.params.toList, P.readableRec t = true ∧ t < P.types.size := fun t ht => by
    have := List.all_eq_true.1 hr t ht
    simpa using this
  refine ⟨ds, [], before, [], before, [], hW', ?_, ?_, ?_, World.keptBut_mono (fun p hp => ⟨hp, ?_⟩) (hb.frame (· ∈ before)), fun h => by cases h⟩
  · rw [List.append_nil, hf, hrt]
    exact trodAll_mk1 (shut_bool hbt true)
  · rw [List.append_nil, ha]
    exact trodAll_below hl hb hrr hlt hA
  · rw [List.append_nil, hv, hs]
    exact rfl
  · exact Or.inr (Or.inl hp)
end
end Go.Proofs.Yteaibgnelnblnaa.Lw

/-! Cells in memory, of whatever type: rows, blocks of two cells, what is one's own; through calls that make memory, and through writes elsewhere. -/
namespace Go.Proofs.Yteaibgnelnblnaa
open Go.RowKit Me

/-- Cells in a row, at A, in a block below B. -/
def Cs (w : World) (B : Nat) (A : Option Addr) (vs : List Value) : Prop :=
  0 < vs.length → ∃ a, A = some a ∧ a.block < B ∧ ∀ i v, vs[i]? = some v → w.cell? (a.add i) = some v
section
variable {w w' : World} {B B' : Nat} {A : Option Addr} {vs : List Value}
theorem Cs.empty : Cs w B A [] := fun h => by simp at h
theorem Cs.keep (h : Cs w B A vs) (hk : ∀ p : Addr, p.block < B → w'.cell? p = w.cell? p) : Cs w' B A vs := fun hn => by
  obtain ⟨a, e, hb, hc⟩ := h hn
  exact ⟨a, e, hb, fun j u hu => (hk _ (by rw [block_add]; exact hb)).trans (hc j u hu)⟩
theorem Cs.more (h : Cs w B A vs) (hB : B ≤ B') : Cs w B' A vs := fun hn => by
  obtain ⟨a, e, hb, hc⟩ := h hn
  exact ⟨a, e, by omega, hc⟩
theorem Cs.below (h : Cs w B A vs) (hb : Below B w w') : Cs w' B A vs := h.keep fun _ hp => hb.cell hp
theorem Cs.of_own {base : Nat} {e : TypeId} {size c : Nat} {n : Nat} (h : w.ownsRow base e size (.slice A n c) n vs) : Cs w w.heap.size A vs := fun hn => by
  have hl := h.1
  have hn0 : 0 < n := by
    rcases Nat.eq_zero_or_pos n with e | e
    · subst e; simp at hl; subst hl; simp at hn
    · exact e
  obtain ⟨g, cap, hv, _, hlt⟩ := h.form hn0
  have hA : A = some ⟨g, 0, none⟩ := by injection hv
  subst hA
  exact ⟨_, rfl, hlt, fun i u hu => h.cells (g := g) rfl i _ hu⟩
end

theorem add_field (a : Addr) (j i : Nat) : a.add (j + (i + 1)) = ⟨(a.add j).block, (a.add j).off + (i + 1), none⟩ := by
  rw [← add_add]
  generalize a.add j = b
  unfold Addr.add
  rw [if_neg (by omega)]
theorem Cs.lit (w : World) (cs : Array Value) (t : TypeId) : Cs (w.alloc (.cells cs t)) (w.heap.size + 1) (some ⟨w.heap.size, 0, none⟩) cs.toList := fun _ => by
  have hh := heap_alloc_new w (.cells cs t)
  refine ⟨_, rfl, Nat.lt_succ_self _, fun i u hu => ?_⟩
  have e : (⟨w.heap.size, 0, none⟩ : Addr).add i = ⟨w.heap.size, i, none⟩ := by unfold Addr.add; split <;> simp_all
  rw [e]
  simp only [World.cell?, hh]
  simpa using hu
theorem grownBy_set (w : World) (p : Addr) (u : Value) : w.grownBy (w.setCell p u) (some p.block) :=
  ⟨rfl, rfl, rfl, by simp [World.setCell], fun k _ hne => Below.heap_setCell _ _ _ _ (fun e => hne (by rw [e]))⟩
/-- A block of two cells. -/
theorem block_two {w : World} {b : Nat} {v v' : Value} {t : TypeId} (hh : w.heap[b]? = some (.cells #[v, v'] t)) :
    w.cell? ⟨b, 0, none⟩ = some v ∧ w.cell? ⟨b, 1, none⟩ = some v' ∧ w.frozen? ⟨b, 0, none⟩ = false ∧ w.frozen? ⟨b, 1, none⟩ = false := by
  refine ⟨?_, ?_, ?_, ?_⟩
  · simp only [World.cell?, hh]; rfl
  · simp only [World.cell?, hh]; rfl
  · unfold World.frozen?; rw [hh]; simp
  · unfold World.frozen?; rw [hh]; simp
/-- Both cells laid anew. -/
theorem cells_set {h : Nat} {w1 : World} {v v' a a' : Value} (q0 : w1.cell? ⟨h, 0, none⟩ = some a) (q1 : w1.cell? ⟨h, 1, none⟩ = some a') :
    ((w1.setCell ⟨h, 0, none⟩ v).setCell ⟨h, 1, none⟩ v').cell? ⟨h, 0, none⟩ = some v ∧ ((w1.setCell ⟨h, 0, none⟩ v).setCell ⟨h, 1, none⟩ v').cell? ⟨h, 1, none⟩ = some v' := by
  have hne : (⟨h, 0, none⟩ : Addr) ≠ ⟨h, 1, none⟩ := by simp
  have hne' : (⟨h, 1, none⟩ : Addr) ≠ ⟨h, 0, none⟩ := by simp
  have e1 : (w1.setCell ⟨h, 0, none⟩ v).cell? ⟨h, 1, none⟩ = some a' := by rw [World.cell?_setCell_other _ _ _ _ hne]; exact q1
  refine ⟨?_, World.cell?_setCell_same _ _ _ e1⟩
  rw [World.cell?_setCell_other _ _ _ _ hne', World.cell?_setCell_same _ _ _ q0]
/-- What is owned is a slice, of whatever size the elements are. -/
theorem own_slice' {w : World} {base size : Nat} {e : TypeId} {v : Value} {n : Nat} {xs : List Value} (h : w.ownsRow base e size v n xs) : ∃ A c, v = .slice A n c ∧ n ≤ c := by
  rcases h.2 with ⟨rfl, rfl⟩ | ⟨g, cap, cur, rfl, -, -, hc, -⟩
  · exact ⟨_, _, rfl, Nat.le_refl _⟩
  · exact ⟨_, _, rfl, hc⟩
theorem own_below' {w w' : World} {base size : Nat} {e : TypeId} {v : Value} {n : Nat} {xs : List Value} (h : w.ownsRow base e size v n xs) (hb : Below w.heap.size w w') : w'.ownsRow base e size v n xs :=
  h.kept (row := none) ⟨hb.os, hb.tape, hb.output, hb.size, fun k hk _ => hb.block k hk⟩ (by
    rcases h.2 with ⟨rfl, _⟩ | ⟨g, cap, cur, rfl, _⟩
    · exact .inl rfl
    · exact .inr (by simp [Value.ownBlock]))
/-- Both cells of a block. -/
def Two (w : World) (b : Nat) (v v' : Value) : Prop :=
  w.cell? ⟨b, 0, none⟩ = some v ∧ w.cell? ⟨b, 1, none⟩ = some v' ∧ w.frozen? ⟨b, 0, none⟩ = false ∧ w.frozen? ⟨b, 1, none⟩ = false
section
variable {w w' : World} {b B : Nat} {v v' a a' : Value}
theorem Two.here (h : Two w b v v') : b < w.heap.size := block_lt_of_cell h.1
theorem Two.below (h : Two w b v v') (hb : Below B w w') (hlt : b < B) : Two w' b v v' :=
  ⟨(hb.cell (p := ⟨b, 0, none⟩) hlt).trans h.1, (hb.cell (p := ⟨b, 1, none⟩) hlt).trans h.2.1, (hb.frozen (p := ⟨b, 0, none⟩) hlt).trans h.2.2.1, (hb.frozen (p := ⟨b, 1, none⟩) hlt).trans h.2.2.2⟩
theorem Two.past (h : Two w b v v') (hb : Below w.heap.size w w') : Two w' b v v' := h.below hb h.here
theorem Two.grown {row : Option Nat} (h : Two w b v v') (hg : w.grownBy w' row) (hne : row ≠ some b) : Two w' b v v' :=
  have k := hg.block b h.here (fun e => hne e.symm)
  ⟨(World.cell?_of_block (a := ⟨b, 0, none⟩) k).trans h.1, (World.cell?_of_block (a := ⟨b, 1, none⟩) k).trans h.2.1, (World.frozen?_of_block (a := ⟨b, 0, none⟩) k).trans h.2.2.1, (World.frozen?_of_block (a := ⟨b, 1, none⟩) k).trans h.2.2.2⟩
theorem Two.alloc (h : Two w b v v') (o : Obj) : Two (w.alloc o) b v v' := h.past ((Below.refl _ _).alloc (Nat.le_refl _) o)
theorem Two.drew (h : Two w b v v') : Two w.drew b v v' := h.past (Below.refl _ _).drew
theorem Two.set (h : Two w b a a') (v v' : Value) : Two ((w.setCell ⟨b, 0, none⟩ v).setCell ⟨b, 1, none⟩ v') b v v' := by
  obtain ⟨g0, g1⟩ := cells_set (v := v) (v' := v') h.1 h.2.1
  exact ⟨g0, g1, by simpa using h.2.2.1, by simpa using h.2.2.2⟩
theorem Two.new (w : World) (v v' : Value) (t : TypeId) : Two (w.alloc (.cells #[v, v'] t)) w.heap.size v v' := block_two (heap_alloc_new w _)
theorem Two.new' {H : Nat} (w : World) (v v' : Value) (t : TypeId) (hH : w.heap.size = H) : Two (w.alloc (.cells #[v, v'] t)) H v v' := by subst hH; exact Two.new w v v' t
end
/-! A row of bytes of one's own that is written into. -/
theorem own_bounds {w : World} {base size : Nat} {e : TypeId} {A : Option Addr} {n c : Nat} {xs : List Value} (h : w.ownsRow base e size (.slice A n c) n xs) : n ≤ c ∧ c ≤ 9223372036854775807 := by
  rcases h.2 with ⟨e, e2⟩ | ⟨g, cap, cur, e, -, -, h1, h2, -⟩
  · injection e with e1 e2 e3; omega
  · injection e with e1 e2 e3
    subst e3
    unfold maxLen at h2
    omega
def sliceLen : Value → Nat
  | .slice _ n _ => n
  | _ => 0
theorem two_lit {w : World} {u v : Value} {T : TypeId} {H : Nat} (hH : w.heap.size = H) : ∀ (j : Nat) (x : Value), ([u, v] : List Value)[j]? = some x → (w.alloc (.cells #[u, v] T)).cell? ((⟨H, 0, none⟩ : Addr).add j) = some x := by
  intro j x hj
  subst hH
  obtain ⟨a, e, -, hc⟩ := Cs.lit w #[u, v] T (by simp)
  injection e with e
  subst e
  exact hc j x hj
end Go.Proofs.Yteaibgnelnblnaa

/-! A region that draws its order, whose operations make memory at most: what is known of each operation's value, given what is known of those it looks at, is known behind the region, whatever the order. -/
namespace Go.Proofs.Yteaibgnelnblnaa.Gw
open Go.RowKit

/-- Memory that was there is as it was. -/
def Grows (w w' : World) : Prop := Below w.heap.size w w'
theorem Grows.refl (w : World) : Grows w w := Below.refl _ _
theorem Grows.trans {a b c : World} (h : Grows a b) (k : Grows b c) : Grows a c := Below.trans h (Below.mono k h.size)

/-- What is known of a slot's value: a slot, the value, the world. -/
abbrev Fact := Tmp → Value → World → Prop
/-- Known from here on. -/
def Holds (G : Fact) (t : Tmp) (v : Value) (w : World) : Prop := ∀ W, Grows w W → G t v W
theorem Holds.grow {G : Fact} {t : Tmp} {v : Value} {w w' : World} (h : Holds G t v w) (hg : Grows w w') : Holds G t v w' := fun W hW => h W (hg.trans hW)
theorem Holds.now {G : Fact} {t : Tmp} {v : Value} {w : World} (h : Holds G t v w) : G t v w := h w (Grows.refl w)

/-- What is known of some slots. -/
def Knows (G : Fact) (a : Act) (w : World) : List Tmp → Prop
  | [] => True
  | t :: l => G t (a.tmps[t]?.getD undef) w ∧ Knows G a w l
/-- What is asked of an operation that is carried out: a value of which this is known, in a world that has grown. -/
def Ok (P : Program) (o : Oper) (a : Act) (w : World) (p : Value → World → Prop) : Prop :=
  match (execOp a.eval o).run P w with
  | .ok (.value v) w' => Grows w w' ∧ p v w'
  | .ok .skip w' => Grows w w' ∧ p undef w'
  | .ok (.enter f args) w' => Grows w w' ∧ Calls P f args w' fun e w'' => ∃ v, e = .returned v ∧ Grows w' w'' ∧ p v w''
  | _ => False
/-- What is to be known of an operation's own slot. -/
def Post (G : Fact) (dst : Option Tmp) (v : Value) (w : World) : Prop :=
  match dst with
  | some d => Holds G d v w
  | none => True
theorem Post.grow {G : Fact} {d : Option Tmp} {v : Value} {w w' : World} (h : Post G d v w) (hg : Grows w w') : Post G d v w' := by
  cases d with
  | none => trivial
  | some d => exact Holds.grow h hg
/-- An operation, its guard's slot. -/
def OpReq (P : Program) (G : Fact) (o : Oper) (g : Option (Tmp × Bool)) (a : Act) (w : World) : Prop :=
  match g with
  | none => Ok P o a w (Post G o.dst)
  | some (d, b) => (a.tmps[d]?.getD undef = .bool b ∧ Ok P o a w (Post G o.dst)) ∨ (a.tmps[d]?.getD undef = .bool (!b) ∧ Post G o.dst undef w)
/-- All operations, one behind the other; each with the slots that it looks at. -/
def Req (P : Program) (G : Fact) (w0 : World) : List Oper → List (List Tmp × Option (Tmp × Bool)) → Prop
  | [], [] => True
  | o :: os, m :: ms => (∀ a w, Grows w0 w → Knows G a w m.1 → OpReq P G o m.2 a w) ∧ Req P G w0 os ms
  | _, _ => False

/-- The slot of an operation's guard. -/
def guardOf (ops : Array Oper) (o : Oper) : Option (Tmp × Bool) :=
  match o.guard with
  | some (g, b) => ((ops[g]?).bind (·.dst)).map fun d => (d, b)
  | none => none
def metaOf (ops : Array Oper) : List (List Tmp × Option (Tmp × Bool)) := ops.toList.map fun o => (o.looksAt ops, guardOf ops o)
/-- The slots that the operations write. -/
def dstsOf (ops : Array Oper) : List Tmp := ops.toList.filterMap (·.dst)
/-- Each slot is written once, and whoever looks at it waits for that; an operation waits for those ahead of it alone; each guard has a slot. -/
def flowB (ops : Array Oper) (n : Nat) : Bool :=
  (List.range ops.size).all fun i =>
    match ops[i]? with
    | none => true
    | some o =>
      (o.after.all fun e => !Region.binds .any e || decide (e.on < i)) &&
      (match o.guard with | some (g, _) => ((ops[g]?).bind (·.dst)).isSome | none => true) &&
      (match o.dst with | some d => decide (d < n) | none => true) &&
      (List.range ops.size).all fun j =>
        match ops[j]? with
        | none => true
        | some q =>
          match q.dst with
          | none => true
          | some d => (!(o.looksAt ops).contains d || o.after.any fun e => Region.binds .any e && e.on == j) && (i == j || o.dst != some d)

section
variable {P : Program} {ops : Array Oper} {n : Nat}
theorem flow_at (h : flowB ops n = true) {i : Nat} {o : Oper} (hi : ops[i]? = some o) :
    (∀ e ∈ o.after, Region.binds .any e = true → e.on < i) ∧ (∀ g b, o.guard = some (g, b) → ∃ q d, ops[g]? = some q ∧ q.dst = some d) ∧ (∀ d, o.dst = some d → d < n) ∧
    (∀ (j : Nat) (q : Oper) (d : Tmp), ops[j]? = some q → q.dst = some d → (d ∈ o.looksAt ops → ∃ e ∈ o.after, Region.binds .any e = true ∧ e.on = j) ∧ (i ≠ j → o.dst ≠ some d)) := by
  have hlt : i < ops.size := (Array.getElem?_eq_some_iff.1 hi).1
  have h1 := List.all_eq_true.1 h i (List.mem_range.2 hlt)
  simp only [hi, Bool.and_eq_true] at h1
  obtain ⟨⟨⟨ha, hg⟩, hd⟩, hq⟩ := h1
  refine ⟨fun e he hb => ?_, fun g b hgb => ?_, fun d hdd => ?_, fun j q d hj hqd => ?_⟩
  · have := Array.all_eq_true_iff_forall_mem.1 ha e he
    simpa [hb] using this
  · rw [hgb] at hg
    simp only at hg
    cases hgo : ops[g]? with
    | none => simp [hgo] at hg
    | some q =>
      simp only [hgo, Option.bind_some] at hg
      cases hqd : q.dst with
      | none => simp [hqd] at hg
      | some d => exact ⟨q, d, rfl, hqd⟩
  · rw [hdd] at hd
    simpa using hd
  · have hjlt : j < ops.size := (Array.getElem?_eq_some_iff.1 hj).1
    have h2 := List.all_eq_true.1 hq j (List.mem_range.2 hjlt)
    simp only [hj, hqd, Bool.and_eq_true] at h2
    refine ⟨fun hm => ?_, fun hne he => ?_⟩
    · have h3 := h2.1
      have hc : (o.looksAt ops).contains d = true := by simpa using hm
      rw [hc] at h3
      rw [Bool.not_true, Bool.false_or, Array.any_eq_true] at h3
      obtain ⟨x, hx, h3⟩ := h3
      simp only [Bool.and_eq_true, beq_iff_eq] at h3
      exact ⟨o.after[x], Array.getElem_mem hx, h3.1, h3.2⟩
    · have h3 := h2.2
      simp [hne, he] at h3

theorem req_at {G : Fact} {w0 : World} : ∀ (os : List Oper) (ms : List (List Tmp × Option (Tmp × Bool))), Req P G w0 os ms → ∀ (i : Nat) (o : Oper), os[i]? = some o → ∃ m : List Tmp × Option (Tmp × Bool), ms[i]? = some m ∧ ∀ a w, Grows w0 w → Knows G a w m.1 → OpReq P G o m.2 a w
  | [], _, _, i, o, h => by simp at h
  | o :: os, [], hr, _, _, _ => hr.elim
  | o :: os, m :: ms, hr, 0, _, h => ⟨m, rfl, by simp at h; subst h; exact hr.1⟩
  | o :: os, m :: ms, hr, i + 1, o', h => by
    obtain ⟨m', h1, h2⟩ := req_at os ms hr.2 i o' (by simpa using h)
    exact ⟨m', by simpa using h1, h2⟩
theorem eval_slot (a : Act) (t : Tmp) : a.eval (.tmp t) = a.tmps[t]?.getD undef := Array.getD_eq_getD_getElem? ..
theorem knows_of {G : Fact} {a : Act} {w : World} : ∀ (l : List Tmp), (∀ t ∈ l, G t (a.eval (.tmp t)) w) → Knows G a w l
  | [], _ => trivial
  | t :: l, h => ⟨by rw [← eval_slot]; exact h t (by simp), knows_of l fun t' ht' => h t' (by simp [ht'])⟩

theorem eval_put_same {a : Act} {d : Tmp} {v : Value} (hd : d < a.tmps.size) : (a.put (some d) v).eval (.tmp d) = v := by
  simp [Act.eval, Act.put, hd]
theorem eval_put_other {a : Act} {d : Option Tmp} {t : Tmp} {v : Value} (hd : d ≠ some t) : (a.put d v).eval (.tmp t) = a.eval (.tmp t) :=
  Act.eval_put (fun d' hd' he => hd (by cases he; exact hd'))
theorem size_put (a : Act) (d : Option Tmp) (v : Value) : (a.put d v).tmps.size = a.tmps.size := by cases d <;> simp [Act.put]
theorem defers_put (a : Act) (d : Option Tmp) (v : Value) : (a.put d v).defers = a.defers := by cases d <;> rfl

theorem wanted_of {o : Oper} {a : Act} {d : Tmp} {b c : Bool} {g : Nat} (hg : o.guard = some (g, b)) (hd : (ops[g]?).bind (·.dst) = some d) (he : a.eval (.tmp d) = .bool c) : Region.wanted o (yielded ops a.tmps) = (c == b) := by
  unfold Region.wanted
  rw [hg]
  simp only
  unfold yielded
  rw [hd]
  have : a.tmps[d]? = some (.bool c) := by
    have h : a.tmps.getD d undef = .bool c := he
    rw [Array.getD_eq_getD_getElem?] at h
    cases hx : a.tmps[d]? with
    | none => rw [hx] at h; simp [undef] at h
    | some x => rw [hx] at h; simp at h; rw [h]
  simp only [Option.bind_some, this]
  cases c <;> cases b <;> rfl

/-- What holds while the operations come up. -/
structure Inv (ops : Array Oper) (G : Fact) (a0 : Act) (w0 : World) (listed : Array Bool) (a : Act) (w : World) : Prop where
  grows : Grows w0 w
  defers : a.defers = a0.defers
  size : a.tmps.size = a0.tmps.size
  facts : ∀ t, (∀ (j : Nat) (o : Oper), ops[j]? = some o → o.dst = some t → listed.getD j true = true) → Holds G t (a.eval (.tmp t)) w
  others : ∀ t, (∀ (j : Nat) (o : Oper), ops[j]? = some o → o.dst ≠ some t) → a.eval (.tmp t) = a0.eval (.tmp t)
  listedSize : listed.size = ops.size

theorem wp_of_ok {o : Oper} {a : Act} {w : World} {K : Act → World → Prop} {Q : Exit → Act → World → Prop} {p : Value → World → Prop} (h : Ok P o a w p) (hK : ∀ v w', Grows w w' → p v w' → K (a.put o.dst v) w') : o.wp P a w K Q := by
  unfold Ok at h
  unfold Oper.wp
  generalize (execOp a.eval o).run P w = r at *
  cases r with
  | ok nx w' =>
    cases nx with
    | value v => exact hK _ _ h.1 h.2
    | skip => exact hK _ _ h.1 h.2
    | enter f args => exact h.2.mono fun e w'' ⟨v, he, hg, hp⟩ => by subst he; exact hK _ _ (h.1.trans hg) hp
    | _ => exact h.elim
  | halt x w' => exact h.elim

theorem inv_put {G : Fact} {a0 : Act} {w0 : World} {listed : Array Bool} {a : Act} {w w' : World} {i : Nat} {o : Oper} {v : Value} (hB : flowB ops a0.tmps.size = true) (hi : ops[i]? = some o)
    (h : Inv ops G a0 w0 listed a w) (hg : Grows w w') (hp : Post G o.dst v w') : Inv ops G a0 w0 (listed.setIfInBounds i true) (a.put o.dst v) w' := by
  obtain ⟨-, -, hlt, hone⟩ := flow_at hB hi
  refine ⟨h.grows.trans hg, by rw [defers_put, h.defers], by rw [size_put, h.size], fun t ht => ?_, fun t ht => ?_, by simpa using h.listedSize⟩
  · by_cases hd : o.dst = some t
    · rw [hd] at hp ⊢
      rw [eval_put_same (by rw [h.size]; exact hlt t hd)]
      exact hp
    · rw [eval_put_other hd]
      refine (h.facts t fun j q hj hq => ?_).grow hg
      have hne : i ≠ j := fun e => by
        subst e
        rw [hi] at hj
        injection hj with hj
        subst hj
        exact hd hq
      have := ht j q hj hq
      rwa [getD_set_ne true hne] at this
  · rw [eval_put_other (ht i o hi)]
    exact h.others t ht

theorem count_set : ∀ (l : List Bool) (i : Nat), l[i]? = some false → (l.set i true).count false + 1 = l.count false
  | [], i, h => by simp at h
  | b :: l, 0, h => by simp at h; subst h; simp
  | b :: l, i + 1, h => by
    have := count_set l i (by simpa using h)
    simp only [List.set_cons_succ, List.count_cons]
    omega

theorem any_of_inv {G : Fact} {a0 : Act} {w0 : World} {Q : Exit → Act → World → Prop} (hB : flowB ops a0.tmps.size = true) (hreq : Req P G w0 ops.toList (metaOf ops))
    (hend : ∀ a w, (∀ listed : Array Bool, (∀ j, j < ops.size → listed.getD j true = true) → Inv ops G a0 w0 listed a w → Q .normal a w) ) :
    ∀ (fuel : Nat) (listed : Array Bool) (a : Act) (w : World), listed.toList.count false ≤ fuel → Inv ops G a0 w0 listed a w → wpAny P .any ops Q fuel listed a w := by
  have fin : ∀ (listed : Array Bool) (a : Act) (w : World), Inv ops G a0 w0 listed a w → Region.ready .any ops listed = [] → ∀ j, j < ops.size → listed.getD j true = true := fun listed a w h hr => by
    intro j
    induction j using Nat.strongRecOn with
    | _ j ih =>
      intro hj
      cases hl : listed.getD j true with
      | true => rfl
      | false =>
        exfalso
        have hjo : ops[j]? = some ops[j] := Array.getElem?_eq_getElem hj
        have : j ∈ Region.ready .any ops listed := mem_ready.2 ⟨hl, ops[j], hjo, fun e he hb => by
          have hlt := (flow_at hB hjo).1 e he hb
          have h1 := ih e.on hlt (by omega)
          have hb : e.on < listed.size := by rw [h.listedSize]; omega
          simpa [hb] using h1⟩
        rw [hr] at this
        cases this
  intro fuel
  induction fuel with
  | zero =>
    intro listed a w hc h
    have h0 : ∀ j, j < ops.size → listed.getD j true = true := fun j hj => by
      cases hl : listed.getD j true with
      | true => rfl
      | false =>
        exfalso
        have hb : j < listed.size := by rw [h.listedSize]; exact hj
        have : (false : Bool) ∈ listed.toList := by
          have e : listed[j] = false := by simpa [hb] using hl
          rw [← e]
          exact Array.getElem_mem_toList hb
        have := List.count_pos_iff.2 this
        omega
    refine ⟨?_, hend a w listed h0 h⟩
    cases hr : Region.ready .any ops listed with
    | nil => rfl
    | cons i r =>
      exfalso
      have hm : i ∈ Region.ready .any ops listed := by rw [hr]; simp
      obtain ⟨hu, o, ho, -⟩ := mem_ready.1 hm
      rw [h0 i (Array.getElem?_eq_some_iff.1 ho).1] at hu
      cases hu
  | succ fuel ih =>
    intro listed a w hc h
    refine ⟨fun hr => hend a w listed (fin listed a w h hr) h, fun i hm => ?_⟩
    obtain ⟨hu, o, ho, hall⟩ := mem_ready.1 hm
    have hlt : i < listed.size := by rw [h.listedSize]; exact (Array.getElem?_eq_some_iff.1 ho).1
    have hcount : (listed.setIfInBounds i true).toList.count false ≤ fuel := by
      have e : listed.toList[i]? = some false := by
        have : listed[i] = false := by simpa [hlt] using hu
        simp [hlt, this]
      have := count_set listed.toList i e
      simp only [Array.toList_setIfInBounds]
      omega
    obtain ⟨hacyc, hguard, hdlt, hflow⟩ := flow_at hB ho
    obtain ⟨m, hm1, hm2⟩ := req_at ops.toList (metaOf ops) hreq i o (by simpa using ho)
    have hme : m = (o.looksAt ops, guardOf ops o) := by
      unfold metaOf at hm1
      rw [List.getElem?_map] at hm1
      have : ops.toList[i]? = some o := by simpa using ho
      rw [this] at hm1
      simpa using hm1.symm
    subst hme
    have hk : Knows G a w (o.looksAt ops) := knows_of _ fun t ht => (h.facts t fun j q hj hq => by
      obtain ⟨e, he, hb, rfl⟩ := (hflow j q t hj hq).1 ht
      have h1 := hall e he hb
      have hjl : e.on < listed.size := by rw [h.listedSize]; exact (Array.getElem?_eq_some_iff.1 hj).1
      simpa [hjl] using h1).now
    have hreq' := hm2 a w h.grows hk
    unfold wpOp
    simp only [ho]
    have go : ∀ v w', Grows w w' → Post G o.dst v w' → wpAny P .any ops Q fuel (listed.setIfInBounds i true) (a.put o.dst v) w' := fun v w' hg hp =>
      ih _ _ _ hcount (inv_put hB ho h hg hp)
    unfold OpReq guardOf at hreq'
    cases hgd : o.guard with
    | none =>
      rw [hgd] at hreq'
      have hw : Region.wanted o (yielded ops a.tmps) = true := by unfold Region.wanted; rw [hgd]
      rw [if_pos hw]
      exact .inl (wp_of_ok hreq' go)
    | some gb =>
      obtain ⟨g, b⟩ := gb
      obtain ⟨q, d, hq, hqd⟩ := hguard g b hgd
      rw [hgd] at hreq'
      have hbind : (ops[g]?).bind (·.dst) = some d := by rw [hq]; exact hqd
      simp only [hbind, Option.map_some] at hreq'
      rw [← eval_slot] at hreq'
      rcases hreq' with ⟨he, hok⟩ | ⟨he, hp⟩
      · have hw := wanted_of (ops := ops) hgd hbind he
        rw [if_pos (by rw [hw]; simp)]
        exact .inl (wp_of_ok hok go)
      · have hw := wanted_of (ops := ops) hgd hbind he
        rw [if_neg (by rw [hw]; cases b <;> simp)]
        exact go _ _ (Grows.refl w) hp

theorem act_ext {a b : Act} (h1 : a.tmps = b.tmps) (h2 : a.defers = b.defers) : a = b := by
  cases a; cases b
  simp at h1 h2
  rw [h1, h2]
/-- The frame with these slots laid anew. -/
def putAll (x : Tmp → Value) : List Tmp → Act → Act
  | [], a => a
  | d :: l, a => putAll x l (a.put (some d) (x d))
theorem putAll_size (x : Tmp → Value) : ∀ (l : List Tmp) (a : Act), (putAll x l a).tmps.size = a.tmps.size
  | [], _ => rfl
  | d :: l, a => by rw [putAll, putAll_size x l, size_put]
theorem putAll_defers (x : Tmp → Value) : ∀ (l : List Tmp) (a : Act), (putAll x l a).defers = a.defers
  | [], _ => rfl
  | d :: l, a => by rw [putAll, putAll_defers x l, defers_put]
theorem putAll_get (x : Tmp → Value) : ∀ (l : List Tmp) (a : Act) (t : Tmp), t < a.tmps.size → (putAll x l a).tmps[t]? = if t ∈ l then some (x t) else a.tmps[t]?
  | [], a, t, _ => by simp [putAll]
  | d :: l, a, t, ht => by
    rw [putAll, putAll_get x l _ t (by rw [size_put]; exact ht)]
    by_cases h : t ∈ l
    · simp [h]
    · by_cases hd : t = d
      · subst hd; simp [h, Act.put, ht]
      · simp [h, hd, Act.put, Array.getElem?_setIfInBounds_ne (Ne.symm hd)]

/-- **The law**: behind the region, whatever the order, of each operation's slot is known what was to be shown. -/
theorem wp_region_grow {id : Nat} {Q : Exit → Act → World → Prop} {a0 : Act} {w : World} {l : List Oper} (G : Fact) (dsts : List Tmp) (ms : List (List Tmp × Option (Tmp × Bool))) (size : Nat) (hm : P.follows .mixedOrders = true)
    (hB : (flowB l.toArray size && (metaOf l.toArray == ms) && (dstsOf l.toArray == dsts)) = true) (hsz : a0.tmps.size = size)
    (h0 : ∀ t W, t ∉ dsts → Grows w W → G t (a0.eval (.tmp t)) W) (hreq : Req P G w l ms)
    (hend : ∀ (x : Tmp → Value) (w' : World), Grows w w' → (∀ d ∈ dsts, Holds G d (x d) w') → Q .normal (putAll x dsts a0) w') : (Code.region id l.toArray true).wp P Q a0 w := by
  simp only [Bool.and_eq_true, beq_iff_eq] at hB
  obtain ⟨⟨hf, hme⟩, hde⟩ := hB
  subst hsz
  have hmem : ∀ t : Tmp, t ∈ dsts ↔ ∃ (j : Nat) (o : Oper), l.toArray[j]? = some o ∧ o.dst = some t := fun t => by
    rw [← hde]
    unfold dstsOf
    simp only [List.mem_filterMap]
    constructor
    · rintro ⟨o, ho, hd⟩
      obtain ⟨j, hj⟩ := List.mem_iff_getElem?.1 ho
      exact ⟨j, o, by simpa using hj, hd⟩
    · rintro ⟨j, o, hj, hd⟩
      exact ⟨o, List.mem_iff_getElem?.2 ⟨j, by simpa using hj⟩, hd⟩
  refine wp_region_any hm (any_of_inv (G := G) (a0 := a0) (w0 := w) hf (by rw [hme]; exact hreq) ?_ _ _ _ _ ?_ ?_)
  · intro a w' listed hall hinv
    have e : a = putAll (fun t => a.eval (.tmp t)) dsts a0 := by
      have hsz := hinv.size
      have hdf := hinv.defers
      have ht : a.tmps = (putAll (fun t => a.eval (.tmp t)) dsts a0).tmps := by
        apply Array.ext_getElem?
        intro t
        by_cases hlt : t < a0.tmps.size
        · rw [putAll_get _ _ _ _ hlt]
          have hat : a.tmps[t]? = some (a.eval (.tmp t)) := by
            have : t < a.tmps.size := by rw [hsz]; exact hlt
            simp [Act.eval, this]
          by_cases hd : t ∈ dsts
          · rw [if_pos hd, hat]
          · rw [if_neg hd, hat, hinv.others t (fun j o hj hq => hd ((hmem t).2 ⟨j, o, hj, hq⟩))]
            simp [Act.eval, hlt]
        · rw [Array.getElem?_eq_none (by rw [hsz]; omega), Array.getElem?_eq_none (by rw [putAll_size]; omega)]
      have hdd : a.defers = (putAll (fun t => a.eval (.tmp t)) dsts a0).defers := by rw [putAll_defers, hdf]
      exact act_ext ht hdd
    rw [e]
    refine hend _ _ hinv.grows fun d hd => ?_
    exact hinv.facts d fun j o hj _ => hall j (Array.getElem?_eq_some_iff.1 hj).1
  · simp
  · refine ⟨⟨rfl, rfl, rfl, Nat.le_refl _, fun _ _ => rfl⟩, rfl, rfl, fun t ht => ?_, fun _ _ => rfl, by simp⟩
    have hnd : t ∉ dsts := fun hd => by
      obtain ⟨j, o, hj, hq⟩ := (hmem t).1 hd
      have := ht j o hj hq
      have hlt := (Array.getElem?_eq_some_iff.1 hj).1
      simp at hlt
      simp [hlt] at this
    exact fun W hW => h0 t W hnd ⟨hW.os, hW.tape, hW.output, hW.size, hW.block⟩
end
end Go.Proofs.Yteaibgnelnblnaa.Gw

/-! A region that draws its order, whose last operations wait for all that stand ahead of them (an append, then an assignment): the others by XGrow's way, then these, one behind the other, whatever they do to memory. -/
namespace Go.Proofs.Yteaibgnelnblnaa.Gw
open Go.RowKit

/-- Operation i waits, through others, for operation j. -/
def waitsB (ops : Array Oper) : Nat → Nat → Nat → Bool
  | 0, _, _ => false
  | f + 1, i, j => match ops[i]? with
    | none => false
    | some o => o.after.any fun e => Region.binds .any e && (e.on == j || waitsB ops f e.on j)
def tailB (ops : Array Oper) (n : Nat) : Bool :=
  (List.range ops.size).all fun i => decide (i < n) || ((match ops[i]? with | some o => o.guard.isNone | none => true) && (List.range i).all fun j => waitsB ops ops.size i j)
/-- Operations, one behind the other. -/
def seqTail (P : Program) (Q : Exit → Act → World → Prop) : List Oper → Act → World → Prop
  | [], a, w => Q .normal a w
  | o :: os, a, w => o.wp P a w (seqTail P Q os) Q
def Closed (ops : Array Oper) (listed : Array Bool) : Prop :=
  ∀ (k : Nat) (o : Oper), ops[k]? = some o → listed.getD k false = true → ∀ e ∈ o.after, Region.binds .any e = true → listed.getD e.on false = true

section
variable {P : Program} {ops : Array Oper} {n size : Nat}
theorem waits_listed {listed : Array Bool} (hc : Closed ops listed) : ∀ (f i j : Nat) (o : Oper), ops[i]? = some o → (∀ e ∈ o.after, Region.binds .any e = true → listed.getD e.on false = true) → waitsB ops f i j = true → listed.getD j false = true
  | 0, _, _, _, _, _, h => by simp [waitsB] at h
  | f + 1, i, j, o, ho, hd, h => by
    unfold waitsB at h
    rw [ho] at h
    simp only [Array.any_eq_true] at h
    obtain ⟨x, hx, h⟩ := h
    simp only [Bool.and_eq_true, Bool.or_eq_true, beq_iff_eq] at h
    have h1 := hd o.after[x] (Array.getElem_mem hx) h.1
    rcases h.2 with h2 | h2
    · rw [← h2]; exact h1
    · cases hk : ops[(o.after[x]).on]? with
      | none => cases f <;> simp [waitsB, hk] at h2
      | some o' => exact waits_listed hc f _ j o' hk (hc _ o' hk h1) h2
theorem tail_at (h : tailB ops n = true) {i : Nat} {o : Oper} (hi : ops[i]? = some o) (hn : n ≤ i) : o.guard = none ∧ ∀ j, j < i → waitsB ops ops.size i j = true := by
  have hlt : i < ops.size := (Array.getElem?_eq_some_iff.1 hi).1
  have h1 := List.all_eq_true.1 h i (List.mem_range.2 hlt)
  have h2 : ¬ i < n := by omega
  simp only [hi, decide_eq_false h2, Bool.false_or, Bool.and_eq_true] at h1
  refine ⟨by simpa using h1.1, fun j hj => ?_⟩
  exact List.all_eq_true.1 h1.2 j (List.mem_range.2 hj)
theorem listed_two {listed : Array Bool} {i : Nat} (hs : i < listed.size) : listed.getD i true = listed.getD i false := by simp [hs]
theorem ready_at {listed : Array Bool} (hs : listed.size = ops.size) {i : Nat} (hm : i ∈ Region.ready .any ops listed) :
    listed.getD i false = false ∧ ∃ o, ops[i]? = some o ∧ ∀ e ∈ o.after, Region.binds .any e = true → listed.getD e.on false = true := by
  obtain ⟨hu, o, ho, hall⟩ := mem_ready.1 hm
  have hlt : i < listed.size := by rw [hs]; exact (Array.getElem?_eq_some_iff.1 ho).1
  exact ⟨by rw [← listed_two hlt]; exact hu, o, ho, hall⟩
theorem tail_seq {Q : Exit → Act → World → Prop} (hF : flowB ops size = true) (hT : tailB ops n = true) : ∀ (fuel m : Nat) (listed : Array Bool) (a : Act) (w : World), n ≤ m → m ≤ ops.size → listed.size = ops.size →
    (∀ k, k < ops.size → (listed.getD k false = true ↔ k < m)) → ops.size - m ≤ fuel → seqTail P Q (ops.toList.drop m) a w → wpAny P .any ops Q fuel listed a w := by
  intro fuel
  induction fuel with
  | zero =>
    intro m listed a w hn hm hs hl hf h
    have e : m = ops.size := by omega
    subst e
    rw [List.drop_of_length_le (by simp)] at h
    refine ⟨?_, h⟩
    cases hr : Region.ready .any ops listed with
    | nil => rfl
    | cons i r =>
      exfalso
      obtain ⟨hu, o, ho, -⟩ := ready_at hs (show i ∈ Region.ready .any ops listed by rw [hr]; simp)
      have hlt := (Array.getElem?_eq_some_iff.1 ho).1
      rw [(hl i hlt).2 hlt] at hu
      cases hu
  | succ fuel ih =>
    intro m listed a w hn hm hs hl hf h
    have closed : Closed ops listed := fun k o hk hlk e he hb => by
      have hkl := (Array.getElem?_eq_some_iff.1 hk).1
      have h1 := (flow_at hF hk).1 e he hb
      exact (hl e.on (by omega)).2 (by have := (hl k hkl).1 hlk; omega)
    refine ⟨fun hr => ?_, fun i hi => ?_⟩
    · by_cases e : m = ops.size
      · subst e
        rw [List.drop_of_length_le (by simp)] at h
        exact h
      · exfalso
        have hlt : m < ops.size := by omega
        have ho : ops[m]? = some ops[m] := Array.getElem?_eq_getElem hlt
        have : m ∈ Region.ready .any ops listed := mem_ready.2 ⟨by
          rw [listed_two (by omega)]
          cases hx : listed.getD m false with
          | false => rfl
          | true => exact absurd ((hl m hlt).1 hx) (Nat.lt_irrefl _), _, ho, fun e he hb => by
          have h1 := (flow_at hF ho).1 e he hb
          exact (hl e.on (by omega)).2 h1⟩
        rw [hr] at this
        cases this
    · obtain ⟨hu, o, ho, hall⟩ := ready_at hs hi
      have hlt := (Array.getElem?_eq_some_iff.1 ho).1
      have him : m ≤ i := by
        rcases Nat.lt_or_ge i m with h1 | h1
        · rw [(hl i hlt).2 h1] at hu; cases hu
        · exact h1
      obtain ⟨hg, hw⟩ := tail_at hT ho (by omega)
      have hei : i = m := by
        rcases Nat.lt_or_ge m i with h1 | h1
        · have := waits_listed closed _ _ _ o ho hall (hw m h1)
          exact absurd ((hl m (by omega)).1 this) (Nat.lt_irrefl _)
        · omega
      subst hei
      have hd : ops.toList.drop i = o :: ops.toList.drop (i + 1) := by
        rw [List.drop_eq_getElem_cons (by simpa using hlt)]
        congr 1
        have := (Array.getElem?_eq_some_iff.1 ho).2
        simpa using this
      rw [hd] at h
      unfold wpOp
      simp only [ho]
      have hwt : Region.wanted o (yielded ops a.tmps) = true := by unfold Region.wanted; rw [hg]
      rw [if_pos hwt]
      refine .inl (Oper.wp_mono (fun a' w' hK => ?_) h)
      refine ih (i + 1) _ _ _ (by omega) (by omega) (by simpa using hs) (fun k hk => ?_) (by omega) hK
      by_cases hki : i = k
      · subst hki
        have hx : i < listed.size := by omega
        simp [hx]
      · rw [getD_set_ne false hki, hl k hk]
        omega

/-- What holds while the operations ahead of the tail come up. -/
structure InvT (ops : Array Oper) (n : Nat) (G : Fact) (a0 : Act) (w0 : World) (listed : Array Bool) (a : Act) (w : World) : Prop where
  grows : Grows w0 w
  defers : a.defers = a0.defers
  size : a.tmps.size = a0.tmps.size
  facts : ∀ t, (∀ (j : Nat) (o : Oper), j < n → ops[j]? = some o → o.dst = some t → listed.getD j false = true) → Holds G t (a.eval (.tmp t)) w
  others : ∀ t, (∀ (j : Nat) (o : Oper), j < n → ops[j]? = some o → o.dst ≠ some t) → a.eval (.tmp t) = a0.eval (.tmp t)
  listedSize : listed.size = ops.size
  closed : Closed ops listed
  none : ∀ k, n ≤ k → listed.getD k false = false
theorem invT_put {G : Fact} {a0 : Act} {w0 : World} {listed : Array Bool} {a : Act} {w w' : World} {i : Nat} {o : Oper} {v : Value} (hB : flowB ops a0.tmps.size = true) (hin : i < n) (hi : ops[i]? = some o)
    (hall : ∀ e ∈ o.after, Region.binds .any e = true → listed.getD e.on false = true)
    (h : InvT ops n G a0 w0 listed a w) (hg : Grows w w') (hp : Post G o.dst v w') : InvT ops n G a0 w0 (listed.setIfInBounds i true) (a.put o.dst v) w' := by
  obtain ⟨hac, -, hlt, hone⟩ := flow_at hB hi
  have hil : i < listed.size := by rw [h.listedSize]; exact (Array.getElem?_eq_some_iff.1 hi).1
  refine ⟨h.grows.trans hg, by rw [defers_put, h.defers], by rw [size_put, h.size], fun t ht => ?_, fun t ht => ?_, by simpa using h.listedSize, fun k q hk hlk e he hb => ?_, fun k hk => ?_⟩
  · by_cases hd : o.dst = some t
    · rw [hd] at hp ⊢
      rw [eval_put_same (by rw [h.size]; exact hlt t hd)]
      exact hp
    · rw [eval_put_other hd]
      refine (h.facts t fun j q hjn hj hq => ?_).grow hg
      have hne : i ≠ j := fun e => by
        subst e
        rw [hi] at hj
        injection hj with hj
        subst hj
        exact hd hq
      have := ht j q hjn hj hq
      rwa [getD_set_ne false hne] at this
  · rw [eval_put_other (ht i o hin hi)]
    exact h.others t ht
  · have hold : listed.getD e.on false = true → (listed.setIfInBounds i true).getD e.on false = true := getD_set_true
    by_cases hki : i = k
    · subst hki
      rw [hi] at hk
      injection hk with hk
      subst hk
      exact hold (hall e he hb)
    · rw [getD_set_ne false hki] at hlk
      exact hold (h.closed k q hk hlk e he hb)
  · rw [getD_set_ne false (by omega)]
    exact h.none k hk
theorem count_rest : ∀ (l : List Bool) (n : Nat), (∀ k, n ≤ k → l.getD k false = false) → l.length - n ≤ l.count false
  | [], n, _ => by simp
  | b :: l, 0, h => by
    have hb := h 0 (Nat.le_refl _)
    have := count_rest l 0 (fun k _ => by have := h (k + 1) (Nat.zero_le _); simpa using this)
    simp at hb
    subst hb
    simp at this ⊢
    omega
  | b :: l, n + 1, h => by
    have := count_rest l n (fun k hk => by have := h (k + 1) (by omega); simpa using this)
    simp only [List.length_cons, List.count_cons]
    omega
theorem any_of_invT {G : Fact} {a0 : Act} {w0 : World} {Q : Exit → Act → World → Prop} {ms : List (List Tmp × Option (Tmp × Bool))} (hB : flowB ops a0.tmps.size = true) (hT : tailB ops n = true) (hn : n ≤ ops.size) (hms : ms = (metaOf ops).take n) (hreq : Req P G w0 (ops.toList.take n) ms)
    (hend : ∀ a w, (∀ listed : Array Bool, (∀ j, j < n → listed.getD j false = true) → InvT ops n G a0 w0 listed a w → seqTail P Q (ops.toList.drop n) a w) ) :
    ∀ (fuel : Nat) (listed : Array Bool) (a : Act) (w : World), listed.toList.count false ≤ fuel → InvT ops n G a0 w0 listed a w → wpAny P .any ops Q fuel listed a w := by
  intro fuel
  induction fuel with
  | zero =>
    intro listed a w hc h
    have hcnt := count_rest listed.toList n (fun k hk => by have := h.none k hk; simpa using this)
    rw [Array.length_toList, h.listedSize] at hcnt
    have hall : ∀ j, j < n → listed.getD j false = true := fun j hj => by
      cases hl : listed.getD j false with
      | true => rfl
      | false =>
        exfalso
        have hb : j < listed.size := by rw [h.listedSize]; omega
        have : (false : Bool) ∈ listed.toList := by
          have e : listed[j] = false := by simpa [hb] using hl
          rw [← e]
          exact Array.getElem_mem_toList hb
        have := List.count_pos_iff.2 this
        omega
    exact tail_seq hB hT 0 n listed a w (Nat.le_refl _) hn h.listedSize (fun k _ => ⟨fun hk => Nat.lt_of_not_le fun h1 => (by rw [h.none k h1] at hk; cases hk), hall k⟩) (by omega) (hend a w listed hall h)
  | succ fuel ih =>
    intro listed a w hc h
    have hcnt := count_rest listed.toList n (fun k hk => by have := h.none k hk; simpa using this)
    rw [Array.length_toList, h.listedSize] at hcnt
    by_cases hall : ∀ j, j < n → listed.getD j false = true
    · exact tail_seq hB hT _ n listed a w (Nat.le_refl _) hn h.listedSize (fun k _ => ⟨fun hk => Nat.lt_of_not_le fun h1 => (by rw [h.none k h1] at hk; cases hk), hall k⟩) (by omega) (hend a w listed hall h)
    · have hready : Region.ready .any ops listed ≠ [] := fun hr => hall fun j => by
        induction j using Nat.strongRecOn with
        | _ j ihj =>
          intro hj
          cases hl : listed.getD j false with
          | true => rfl
          | false =>
            exfalso
            have hjo : ops[j]? = some ops[j] := Array.getElem?_eq_getElem (by omega)
            have : j ∈ Region.ready .any ops listed := mem_ready.2 ⟨by rw [listed_two (by rw [h.listedSize]; omega)]; exact hl, ops[j], hjo, fun e he hb => by
              have hlt := (flow_at hB hjo).1 e he hb
              exact ihj e.on hlt (by omega)⟩
            rw [hr] at this
            cases this
      refine ⟨fun hr => absurd hr hready, fun i hm => ?_⟩
      obtain ⟨hu, o, ho, hal⟩ := ready_at h.listedSize hm
      have hil : i < ops.size := (Array.getElem?_eq_some_iff.1 ho).1
      have hin : i < n := by
        rcases Nat.lt_or_ge i n with h1 | h1
        · exact h1
        · exact absurd (fun j hj => waits_listed h.closed _ _ _ o ho hal ((tail_at hT ho h1).2 j (by omega))) hall
      have hlt : i < listed.size := by rw [h.listedSize]; exact hil
      have hcount : (listed.setIfInBounds i true).toList.count false ≤ fuel := by
        have e : listed.toList[i]? = some false := by
          have : listed[i] = false := by simpa [hlt] using hu
          simp [hlt, this]
        have := count_set listed.toList i e
        simp only [Array.toList_setIfInBounds]
        omega
      obtain ⟨hacyc, hguard, hdlt, hflow⟩ := flow_at hB ho
      obtain ⟨m, hm1, hm2⟩ := req_at (ops.toList.take n) ms hreq i o (by rw [List.getElem?_take, if_pos hin]; simpa using ho)
      have hme : m = (o.looksAt ops, guardOf ops o) := by
        rw [hms, List.getElem?_take, if_pos hin] at hm1
        unfold metaOf at hm1
        rw [List.getElem?_map] at hm1
        have : ops.toList[i]? = some o := by simpa using ho
        rw [this] at hm1
        simpa using hm1.symm
      subst hme
      have hk : Knows G a w (o.looksAt ops) := knows_of _ fun t ht => (h.facts t fun j q _ hj hq => by
        obtain ⟨e, he, hb, rfl⟩ := (hflow j q t hj hq).1 ht
        exact hal e he hb).now
      have hreq' := hm2 a w h.grows hk
      unfold wpOp
      simp only [ho]
      have go : ∀ v w', Grows w w' → Post G o.dst v w' → wpAny P .any ops Q fuel (listed.setIfInBounds i true) (a.put o.dst v) w' := fun v w' hg hp =>
        ih _ _ _ hcount (invT_put hB hin ho hal h hg hp)
      unfold OpReq guardOf at hreq'
      cases hgd : o.guard with
      | none =>
        rw [hgd] at hreq'
        have hw : Region.wanted o (yielded ops a.tmps) = true := by unfold Region.wanted; rw [hgd]
        rw [if_pos hw]
        exact .inl (wp_of_ok hreq' go)
      | some gb =>
        obtain ⟨g, b⟩ := gb
        obtain ⟨q, d, hq, hqd⟩ := hguard g b hgd
        rw [hgd] at hreq'
        have hbind : (ops[g]?).bind (·.dst) = some d := by rw [hq]; exact hqd
        simp only [hbind, Option.map_some] at hreq'
        rw [← eval_slot] at hreq'
        rcases hreq' with ⟨he, hok⟩ | ⟨he, hp⟩
        · have hw := wanted_of (ops := ops) hgd hbind he
          rw [if_pos (by rw [hw]; simp)]
          exact .inl (wp_of_ok hok go)
        · have hw := wanted_of (ops := ops) hgd hbind he
          rw [if_neg (by rw [hw]; cases b <;> simp)]
          exact go _ _ (Grows.refl w) hp

/-- **The law**: of each operation's slot ahead of the tail is known what was to be shown, whatever the order; then the tail. -/
theorem wp_region_tail {id : Nat} {Q : Exit → Act → World → Prop} {a0 : Act} {w : World} {l tail : List Oper} (n : Nat) (G : Fact) (dsts : List Tmp) (ms : List (List Tmp × Option (Tmp × Bool))) (size : Nat) (hm : P.follows .mixedOrders = true)
    (hB : (flowB l.toArray size && tailB l.toArray n && decide (n ≤ l.length) && (ms == (metaOf l.toArray).take n) && ((l.take n).filterMap (·.dst) == dsts)) = true) (hsz : a0.tmps.size = size)
    (h0 : ∀ t W, t ∉ dsts → Grows w W → G t (a0.eval (.tmp t)) W) (hreq : Req P G w (l.take n) ms)
    (htail : l.drop n = tail)
    (hend : ∀ (x : Tmp → Value) (w' : World), Grows w w' → (∀ d ∈ dsts, Holds G d (x d) w') → seqTail P Q tail (putAll x dsts a0) w') : (Code.region id l.toArray true).wp P Q a0 w := by
  simp only [Bool.and_eq_true, beq_iff_eq, decide_eq_true_eq] at hB
  obtain ⟨⟨⟨⟨hf, hT⟩, hn⟩, hme⟩, hde⟩ := hB
  subst hsz htail
  have hmem : ∀ t : Tmp, t ∈ dsts ↔ ∃ (j : Nat) (o : Oper), j < n ∧ l.toArray[j]? = some o ∧ o.dst = some t := fun t => by
    rw [← hde]
    simp only [List.mem_filterMap]
    constructor
    · rintro ⟨o, ho, hd⟩
      obtain ⟨j, hj⟩ := List.mem_iff_getElem?.1 ho
      rw [List.getElem?_take] at hj
      split at hj
      · rename_i hjn
        exact ⟨j, o, hjn, by simpa using hj, hd⟩
      · cases hj
    · rintro ⟨j, o, hjn, hj, hd⟩
      exact ⟨o, List.mem_iff_getElem?.2 ⟨j, by rw [List.getElem?_take, if_pos hjn]; simpa using hj⟩, hd⟩
  refine wp_region_any hm (any_of_invT (n := n) (ms := ms) (G := G) (a0 := a0) (w0 := w) hf hT (by simpa using hn) hme (by simpa using hreq) ?_ _ _ _ _ ?_ ?_)
  · intro a w' listed hall hinv
    have e : a = putAll (fun t => a.eval (.tmp t)) dsts a0 := by
      have hsz := hinv.size
      have hdf := hinv.defers
      have ht : a.tmps = (putAll (fun t => a.eval (.tmp t)) dsts a0).tmps := by
        apply Array.ext_getElem?
        intro t
        by_cases hlt : t < a0.tmps.size
        · rw [putAll_get _ _ _ _ hlt]
          have hat : a.tmps[t]? = some (a.eval (.tmp t)) := by
            have : t < a.tmps.size := by rw [hsz]; exact hlt
            simp [Act.eval, this]
          by_cases hd : t ∈ dsts
          · rw [if_pos hd, hat]
          · rw [if_neg hd, hat, hinv.others t (fun j o hjn hj hq => hd ((hmem t).2 ⟨j, o, hjn, hj, hq⟩))]
            simp [Act.eval, hlt]
        · rw [Array.getElem?_eq_none (by rw [hsz]; omega), Array.getElem?_eq_none (by rw [putAll_size]; omega)]
      have hdd : a.defers = (putAll (fun t => a.eval (.tmp t)) dsts a0).defers := by rw [putAll_defers, hdf]
      exact act_ext ht hdd
    rw [e]
    have := hend (fun t => a.eval (.tmp t)) w' hinv.grows fun d hd => hinv.facts d fun j o hjn _ _ => hall j hjn
    simpa using this
  · simp
  · refine ⟨⟨rfl, rfl, rfl, Nat.le_refl _, fun _ _ => rfl⟩, rfl, rfl, fun t ht => ?_, fun _ _ => rfl, by simp, fun k o hk hl => ?_, fun k _ => ?_⟩
    · have hnd : t ∉ dsts := fun hd => by
        obtain ⟨j, o, hjn, hj, hq⟩ := (hmem t).1 hd
        have := ht j o hjn hj hq
        have hlt := (Array.getElem?_eq_some_iff.1 hj).1
        simp at hlt
        simp [hlt] at this
      exact fun W hW => h0 t W hnd ⟨hW.os, hW.tape, hW.output, hW.size, hW.block⟩
    · have hlt := (Array.getElem?_eq_some_iff.1 hk).1
      simp at hlt
      simp [hlt] at hl
    · by_cases hlt : k < l.length
      · simp [hlt]
      · simp [hlt]
/-- An assignment, as an operation of the tail. -/
theorem wp_assign {w : World} {o : Oper} {a : Act} {K : Act → World → Prop} {Q : Exit → Act → World → Prop} (x : Operand) (v : Value) (ho : o.op = .assign x) (hv : a.eval x = v) (h : K (a.put o.dst v) w) : Oper.wp P o a w K Q := by
  subst hv
  unfold Oper.wp execOp
  simp only [ho, Sem.run_pure]
  exact h
end
end Go.Proofs.Yteaibgnelnblnaa.Gw

/-! A region that draws its order and writes memory: its writers come one behind the other; whatever else there is comes ahead of them, between or behind them, as its edges let it. -/
namespace Go.Proofs.Yteaibgnelnblnaa.Gw
open Go.RowKit

/-- May operation i be carried out when so many writers have been? -/
def mayB (ops : Array Oper) (wrs : List Nat) (i p : Nat) : Bool :=
  (List.range wrs.length).all fun k => match wrs[k]? with
    | none => true
    | some j => (!waitsB ops ops.size i j || decide (k < p)) && (!decide (k < p) || (!waitsB ops ops.size j i && j != i))
def phasesOf (ops : Array Oper) (wrs : List Nat) (i : Nat) : List Nat := (List.range (wrs.length + 1)).filter (mayB ops wrs i)
/-- What is laid down of an operation: the slots that it looks at, its guard, when it may come, whether it writes. -/
abbrev Row := List Tmp × Option (Tmp × Bool) × List Nat × Bool
def rowOf (ops : Array Oper) (wrs : List Nat) (i : Nat) : Row :=
  match ops[i]? with
  | none => ([], none, [], false)
  | some o => (o.looksAt ops, guardOf ops o, phasesOf ops wrs i, wrs.contains i)
def rowsOf (ops : Array Oper) (wrs : List Nat) : List Row := (List.range ops.size).map (rowOf ops wrs)
/-- Each writer has a phase of its own. -/
def ownB (ops : Array Oper) (wrs : List Nat) : Bool := (List.range wrs.length).all fun k => match wrs[k]? with
  | none => true
  | some i => (phasesOf ops wrs i == [k]) && decide (i < ops.size)

/-- Known from here on, as far as R leads. -/
def HoldsR (R : World → World → Prop) (G : Fact) (t : Tmp) (v : Value) (w : World) : Prop := ∀ W, R w W → G t v W
/-- What is asked of an operation that is carried out. -/
def OkP (P : Program) (o : Oper) (a : Act) (w : World) (p : Value → World → Prop) : Prop :=
  match (execOp a.eval o).run P w with
  | .ok (.value v) w' => p v w'
  | .ok .skip w' => p undef w'
  | .ok (.enter f args) w' => Calls P f args w' fun e w'' => ∃ v, e = .returned v ∧ p v w''
  | _ => False
/-- What holds behind an operation. -/
def PPost (R : World → World → Prop) (I : Nat → World → Prop) (G : Fact) (p : Nat) (dst : Option Tmp) (w : World) (v : Value) (w' : World) : Prop :=
  R w w' ∧ I p w' ∧ match dst with
    | some d => HoldsR R G d v w'
    | none => True
def POpReq (P : Program) (R : World → World → Prop) (I : Nat → World → Prop) (G : Fact) (o : Oper) (g : Option (Tmp × Bool)) (p : Nat) (a : Act) (w : World) : Prop :=
  match g with
  | none => OkP P o a w (PPost R I G p o.dst w)
  | some (d, b) => (a.tmps[d]?.getD undef = .bool b ∧ OkP P o a w (PPost R I G p o.dst w)) ∨ (a.tmps[d]?.getD undef = .bool (!b) ∧ PPost R I G p o.dst w undef w)
def AllIn : List Nat → (Nat → Prop) → Prop
  | [], _ => True
  | p :: l, f => f p ∧ AllIn l f
theorem AllIn.at {f : Nat → Prop} : ∀ {l : List Nat} {p : Nat}, AllIn l f → p ∈ l → f p
  | _ :: _, p, h, hm => by
    rcases List.mem_cons.1 hm with rfl | hm
    · exact h.1
    · exact h.2.at hm
def PReq (P : Program) (R : World → World → Prop) (I : Nat → World → Prop) (G : Fact) (w0 : World) : List Oper → List Row → Prop
  | [], [] => True
  | o :: os, (ts, g, ph, wr) :: ms => AllIn ph (fun p => ∀ a w, R w0 w → I p w → Knows G a w ts → POpReq P R I G o g (bif wr then p + 1 else p) a w) ∧ PReq P R I G w0 os ms
  | _, _ => False

section
variable {P : Program} {ops : Array Oper} {wrs : List Nat} {R : World → World → Prop} {I : Nat → World → Prop} {G : Fact}
theorem HoldsR.reach (hRt : ∀ a b c, R a b → R b c → R a c) {t : Tmp} {v : Value} {w w' : World} (h : HoldsR R G t v w) (hg : R w w') : HoldsR R G t v w' := fun W hW => h W (hRt _ _ _ hg hW)
/-- What holds while the operations come up. -/
structure InvP (ops : Array Oper) (wrs : List Nat) (R : World → World → Prop) (I : Nat → World → Prop) (G : Fact) (a0 : Act) (w0 : World) (p : Nat) (listed : Array Bool) (a : Act) (w : World) : Prop where
  reach : R w0 w
  inv : I p w
  defers : a.defers = a0.defers
  size : a.tmps.size = a0.tmps.size
  facts : ∀ t, (∀ (j : Nat) (o : Oper), ops[j]? = some o → o.dst = some t → listed.getD j false = true) → HoldsR R G t (a.eval (.tmp t)) w
  others : ∀ t, (∀ (j : Nat) (o : Oper), ops[j]? = some o → o.dst ≠ some t) → a.eval (.tmp t) = a0.eval (.tmp t)
  listedSize : listed.size = ops.size
  closed : Closed ops listed
  here : ∀ (k i : Nat), wrs[k]? = some i → (listed.getD i false = true ↔ k < p)

end
end Go.Proofs.Yteaibgnelnblnaa.Gw

/-! What is written lies in some blocks alone; blocks whose cells are known. -/
namespace Go.Proofs.Yteaibgnelnblnaa
open Go.RowKit Me

/-- Outside S all that was there is as it was. -/
structure Out (S : Nat → Prop) (w w' : World) : Prop where
  os : w'.os = w.os
  tape : w'.tape = w.tape
  output : w'.output = w.output
  size : w.heap.size ≤ w'.heap.size
  block : ∀ k, k < w.heap.size → ¬ S k → w'.heap[k]? = w.heap[k]?
section
variable {S S' : Nat → Prop} {w w' a b c : World}
theorem Out.refl (S : Nat → Prop) (w : World) : Out S w w := ⟨rfl, rfl, rfl, Nat.le_refl _, fun _ _ _ => rfl⟩
theorem Out.more (h : Out S w w') (hs : ∀ k, k < w.heap.size → S k → S' k) : Out S' w w' := ⟨h.os, h.tape, h.output, h.size, fun k hk hn => h.block k hk fun hS => hn (hs k hk hS)⟩
theorem Out.trans' (h : Out S a b) (k : Out S' b c) (hs : ∀ j, S' j → S j ∨ a.heap.size ≤ j) : Out S a c :=
  ⟨k.os.trans h.os, k.tape.trans h.tape, k.output.trans h.output, Nat.le_trans h.size k.size, fun i hi hn =>
    (k.block i (Nat.lt_of_lt_of_le hi h.size) fun hS => (hs i hS).elim hn (fun h1 => by omega)).trans (h.block i hi hn)⟩
theorem Out.trans (h : Out S a b) (k : Out S b c) : Out S a c := h.trans' k fun _ hj => .inl hj
theorem Out.of_grown {row : Option Nat} (h : w.grownBy w' row) (hr : ∀ k, row = some k → k < w.heap.size → S k) : Out S w w' :=
  ⟨h.os, h.tape, h.output, h.size, fun k hk hn => h.block k hk fun e => hn (hr k e.symm hk)⟩
theorem Out.of_below (h : Below w.heap.size w w') : Out S w w' := ⟨h.os, h.tape, h.output, h.size, fun k hk _ => h.block k hk⟩
theorem Out.alloc (h : Out S w w') (o : Obj) : Out S w (w'.alloc o) := h.trans (.of_below ((Below.refl _ _).alloc (Nat.le_refl _) o))
theorem Out.setCell (h : Out S w w') {p : Addr} (hp : S p.block ∨ w.heap.size ≤ p.block) (u : Value) : Out S w (w'.setCell p u) :=
  h.trans' (S' := fun k => k = p.block) (.of_grown (grownBy_set w' p u) fun _ e _ => by injection e with e; exact e.symm) fun j hj => by subst hj; exact hp
theorem Out.below {B : Nat} (h : Out S w w') (hS : ∀ k, k < w.heap.size → S k → B ≤ k) (hB : B ≤ w.heap.size) : Below B w w' :=
  ⟨h.os, h.tape, h.output, h.size, fun k hk => h.block k (by omega) fun hs => by have := hS k (by omega) hs; omega⟩
theorem Out.cell (h : Out S w w') {p : Addr} (hp : p.block < w.heap.size) (hn : ¬ S p.block) : w'.cell? p = w.cell? p := World.cell?_of_block (h.block _ hp hn)
theorem Out.frozen (h : Out S w w') {p : Addr} (hp : p.block < w.heap.size) (hn : ¬ S p.block) : w'.frozen? p = w.frozen? p := World.frozen?_of_block (h.block _ hp hn)
theorem Out.setCells (b : Nat) : ∀ (vs : List Value) (o : Nat) {w w' : World}, Out S w w' → (S b ∨ w.heap.size ≤ b) → Out S w (w'.setCells b o vs)
  | [], _, _, _, h, _ => h
  | _ :: vs, o, _, _, h, hb => Out.setCells b vs (o + 1) (h.setCell (p := ⟨b, o, none⟩) hb _) hb
theorem Out.grown {row : Option Nat} (h : Out S w a) (hg : a.grownBy b row) (hr : ∀ k, row = some k → S k ∨ w.heap.size ≤ k) : Out S w b :=
  h.trans' (S' := fun k => row = some k) (.of_grown hg fun _ e _ => e) fun j hj => hr j hj
theorem out_drew (S : Nat → Prop) (w : World) : Out S w w.drew := ⟨rfl, rfl, rfl, Nat.le_refl _, fun _ _ _ => rfl⟩
end
/-- What holds, and goes on to hold whatever is written in T and in new memory. -/
def Kk (T : Nat → Prop) (p : World → Prop) (w : World) : Prop := ∀ w', Out T w w' → p w'
section
variable {T T' : Nat → Prop} {p q : World → Prop} {w w' : World}
theorem Kk.out (h : Kk T p w) (ho : Out T w w') : Kk T p w' := fun w2 h2 => h w2 (ho.trans h2)
theorem Kk.past (h : Kk T p w) (hb : Below w.heap.size w w') : Kk T p w' := h.out (.of_below hb)
theorem Kk.now (h : Kk T p w) : p w := h w (.refl _ _)
theorem Kk.next (h : Kk T p w) (ho : Out T w w') (hs : ∀ j, T' j → T j ∨ w.heap.size ≤ j) : Kk T' p w' := fun w2 h2 => h w2 (ho.trans' h2 hs)
theorem Kk.less (h : Kk T p w) (hs : ∀ k, k < w.heap.size → T' k → T k) : Kk T' p w := fun w2 h2 => h w2 (h2.more hs)
theorem Kk.imp (h : Kk T p w) (hs : ∀ W, Out T w W → p W → q W) : Kk T q w := fun w2 h2 => hs w2 h2 (h w2 h2)
end

/-- The cells of a block are these; it may be written. -/
def Blk (w : World) (b : Nat) (cs : List Value) : Prop := ∃ t, w.heap[b]? = some (.cells cs.toArray t (0, 0))
section
variable {S : Nat → Prop} {w w' : World} {b : Nat} {cs : List Value}
theorem Blk.lt (h : Blk w b cs) : b < w.heap.size := by obtain ⟨t, h⟩ := h; exact (Array.getElem?_eq_some_iff.1 h).1
theorem Blk.keep (h : Blk w b cs) (hk : w'.heap[b]? = w.heap[b]?) : Blk w' b cs := by obtain ⟨t, h⟩ := h; exact ⟨t, hk.trans h⟩
theorem Blk.out (h : Blk w b cs) (ho : Out S w w') (hn : ¬ S b) : Blk w' b cs := h.keep (ho.block b h.lt hn)
theorem Blk.past (h : Blk w b cs) (hb : Below w.heap.size w w') : Blk w' b cs := h.keep (hb.block b h.lt)
theorem Blk.grown {row : Option Nat} (h : Blk w b cs) (hg : w.grownBy w' row) (hne : row ≠ some b) : Blk w' b cs := h.keep (hg.block b h.lt fun e => hne e.symm)
theorem Blk.alloc (h : Blk w b cs) (o : Obj) : Blk (w.alloc o) b cs := h.keep (Below.heap_alloc w o b h.lt)
theorem Blk.drew (h : Blk w b cs) : Blk w.drew b cs := h
theorem Blk.new (w : World) (cs : List Value) (t : TypeId) : Blk (w.alloc (.cells cs.toArray t)) w.heap.size cs := ⟨t, heap_alloc_new w _⟩
theorem Blk.new' (w : World) (cs : List Value) (t : TypeId) {H : Nat} (hH : w.heap.size = H) : Blk (w.alloc (.cells cs.toArray t)) H cs := by subst hH; exact Blk.new w cs t
theorem Blk.cell (h : Blk w b cs) {i : Nat} {v : Value} (hi : cs[i]? = some v) : w.cell? ⟨b, i, none⟩ = some v := by
  obtain ⟨t, h⟩ := h
  rw [cell_of_row w b i _ t _ h]
  simpa using hi
theorem Blk.frozen (h : Blk w b cs) (i : Nat) : w.frozen? ⟨b, i, none⟩ = false := by
  obtain ⟨t, h⟩ := h
  exact frozen_of_row w b i _ t h
theorem Blk.set (h : Blk w b cs) (i : Nat) (v : Value) : Blk (w.setCell ⟨b, i, none⟩ v) b (cs.set i v) := by
  obtain ⟨t, h⟩ := h
  refine ⟨t, ?_⟩
  rw [heap_setCell_same w b i _ t v h]
  simp
theorem Blk.other (h : Blk w b cs) {p : Addr} (hp : p.block ≠ b) (v : Value) : Blk (w.setCell p v) b cs := h.keep (Below.heap_setCell _ _ _ _ (Ne.symm hp))
theorem Blk.range (h : Blk w b cs) (o n : Nat) : w.rangeAt b o ((cs.drop o).take n) := fun j v hv => by
  refine h.cell ?_
  rw [List.getElem?_take] at hv
  split at hv
  · rw [List.getElem?_drop] at hv; exact hv
  · cases hv
theorem Blk.there (h : Blk w b cs) {o n : Nat} (hn : o + n ≤ cs.length) : w.there b o n := fun j hj =>
  ⟨by rw [h.cell (List.getElem?_eq_getElem (show o + j < cs.length by omega))]; rfl, h.frozen _⟩
theorem Blk.sets {vs : List Value} {o : Nat} (h : Blk w b cs) (hn : o + vs.length ≤ cs.length) : Blk (w.setCells b o vs) b (splice cs o vs) := by
  induction vs generalizing w cs o with
  | nil =>
    have e : splice cs o [] = cs := by simp [splice]
    rw [e]
    exact h
  | cons v vs ih =>
    have := ih (h.set o v) (o := o + 1) (by simp at hn ⊢; omega)
    have e : splice (cs.set o v) (o + 1) vs = splice cs o (v :: vs) := by
      simp only [List.length_cons] at hn
      have e1 : (cs.set o v).take (o + 1) = cs.take o ++ [v] := by
        rw [List.take_add_one, List.getElem?_set_self (by omega), List.take_set_of_le (Nat.le_refl _)]
        rfl
      have e2 : (cs.set o v).drop (o + 1 + vs.length) = cs.drop (o + (vs.length + 1)) := by
        rw [List.drop_set_of_lt (by omega)]
        congr 1
        omega
      unfold splice
      rw [e1, e2]
      simp
    rw [e] at this
    exact this
theorem Blk.four {a0 a1 a2 a3 : Value} (h : Blk w b [a0, a1, a2, a3]) :
    w.cell? ⟨b, 0, none⟩ = some a0 ∧ w.cell? ⟨b, 1, none⟩ = some a1 ∧ w.cell? ⟨b, 2, none⟩ = some a2 ∧ w.cell? ⟨b, 3, none⟩ = some a3 :=
  ⟨h.cell rfl, h.cell rfl, h.cell rfl, h.cell rfl⟩
end
/-- A row of one's own, behind writes elsewhere. -/
theorem own_out {S : Nat → Prop} {w w' : World} {base size n : Nat} {e : TypeId} {v : Value} {xs : List Value} (h : w.ownsRow base e size v n xs) (ho : Out S w w') (hn : ∀ k, v.ownBlock = some k → ¬ S k) : w'.ownsRow base e size v n xs := by
  refine ⟨h.1, ?_⟩
  rcases h.2 with hn' | ⟨g, cap, cur, rfl, hb, hgg, rest⟩
  · exact .inl hn'
  · refine .inr ⟨g, cap, cur, rfl, hb, ?_, rest⟩
    rw [ho.block g (Array.getElem?_eq_some_iff.1 hgg).1 (hn g rfl)]
    exact hgg
/-- Cells somewhere outside S. -/
def Cz (w : World) (S : Nat → Prop) (A : Option Addr) (vs : List Value) : Prop :=
  0 < vs.length → ∃ a, A = some a ∧ a.block < w.heap.size ∧ ¬ S a.block ∧ ∀ i v, vs[i]? = some v → w.cell? (a.add i) = some v
section
variable {S S' : Nat → Prop} {w w' : World} {A : Option Addr} {vs : List Value}
theorem Cz.cs (h : Cz w S A vs) : Cs w w.heap.size A vs := fun hn => by obtain ⟨a, e, hb, -, hc⟩ := h hn; exact ⟨a, e, hb, hc⟩
theorem Cz.empty : Cz w S A [] := fun h => by simp at h
theorem Cz.out (h : Cz w S A vs) (ho : Out S w w') : Cz w' S A vs := fun hn => by
  obtain ⟨a, e, hb, hs, hc⟩ := h hn
  exact ⟨a, e, Nat.lt_of_lt_of_le hb ho.size, hs, fun j u hu => (ho.cell (p := a.add j) (by rw [block_add]; exact hb) (by rw [block_add]; exact hs)).trans (hc j u hu)⟩
theorem Cz.past (h : Cz w S A vs) (hb : Below w.heap.size w w') : Cz w' S A vs := h.out (.of_below hb)
theorem Cz.less (h : Cz w S A vs) (hs : ∀ k, k < w.heap.size → S' k → S k) : Cz w S' A vs := fun hn => by
  obtain ⟨a, e, hb, hn', hc⟩ := h hn
  exact ⟨a, e, hb, fun hS => hn' (hs _ hb hS), hc⟩
theorem Cz.of_own {base size n c : Nat} {e : TypeId} (h : w.ownsRow base e size (.slice A n c) n vs) (hs : ∀ k, base ≤ k → k < w.heap.size → ¬ S k) : Cz w S A vs := fun hn => by
  obtain ⟨a, e', hb, hc⟩ := Cs.of_own h hn
  refine ⟨a, e', hb, hs _ ?_ hb, hc⟩
  subst e'
  exact (h.lt _ rfl).1
end
end Go.Proofs.Yteaibgnelnblnaa

/-! A struct stored into a block of its own: the world behind it is a letter of which the block is known. -/
namespace Go.Proofs.Yteaibgnelnblnaa
open Go.RowKit

section
variable {P : Program}
theorem run_store_blk {w : World} {b : Nat} {old : List Value} {ty : TypeId} {vs : Array Value} (hb : Blk w b old) (hl : old.length = vs.size) (hi : (P.info? ty).map (·.size) = some vs.size) (h1 : vs.all (·.oneCell') = true) :
    ∃ w', (storeVar ty ⟨b, 0, none⟩ (.agg vs)).run P w = .ok () w' ∧ Blk w' b vs.toList ∧ Out (fun k => k = b) w w' := by
  refine ⟨_, run_storeVar_mid w b 0 ty vs (hb.there (by omega)) hi h1, ?_, Out.setCells b _ _ (Out.refl _ _) (.inl rfl)⟩
  have := hb.sets (o := 0) (vs := vs.toList) (by simp [hl])
  have e : splice old 0 vs.toList = vs.toList := by
    unfold splice
    rw [List.take_zero, List.nil_append, Nat.zero_add, List.drop_of_length_le (by simp [hl]), List.append_nil]
  rwa [e] at this
theorem wpList_store_blk {ops : Array Oper} {rest : List Oper} {op : Oper} {a : Act} {w : World} {Q : Exit → Act → World → Prop} (hgd : op.guard = none) (ty : TypeId) (x y : Operand) (ho : op.op = .store ty x y)
    (b : Nat) (old : List Value) (vs : Array Value) (hx : a.eval x = .pointer (some ⟨b, 0, none⟩)) (hy : a.eval y = .agg vs) (hb : Blk w b old) (hl : old.length = vs.size) (hi : (P.info? ty).map (·.size) = some vs.size) (h1 : vs.all (·.oneCell') = true)
    (h : ∀ w', Blk w' b vs.toList → Out (fun k => k = b) w w' → wpList P ops Q rest (a.put op.dst undef) w') : wpList P ops Q (op :: rest) a w := by
  refine wpList_plain hgd fun K hK => ?_
  obtain ⟨w', hrun, h2, h3⟩ := run_store_blk (P := P) hb hl hi h1
  unfold Oper.wp execOp
  simp only [ho, hx, hy, Instr.storeAt, Instr.sureAddr, Sem.run_bind, Sem.run_pure, Result.andThen_ok, hrun]
  exact hK _ _ (h w' h2 h3)
/-- .. as an operation of a region's tail. -/
theorem wp_store_blk {op : Oper} {a : Act} {w : World} {K : Act → World → Prop} {Q : Exit → Act → World → Prop} (ty : TypeId) (x y : Operand) (ho : op.op = .store ty x y)
    (b : Nat) (old : List Value) (vs : Array Value) (hx : a.eval x = .pointer (some ⟨b, 0, none⟩)) (hy : a.eval y = .agg vs) (hb : Blk w b old) (hl : old.length = vs.size) (hi : (P.info? ty).map (·.size) = some vs.size) (h1 : vs.all (·.oneCell') = true)
    (h : ∀ w', Blk w' b vs.toList → Out (fun k => k = b) w w' → K (a.put op.dst undef) w') : Oper.wp P op a w K Q := by
  obtain ⟨w', hrun, h2, h3⟩ := run_store_blk (P := P) hb hl hi h1
  unfold Oper.wp execOp
  simp only [ho, hx, hy, Instr.storeAt, Instr.sureAddr, Sem.run_bind, Sem.run_pure, Result.andThen_ok, hrun]
  exact h w' h2 h3
/-- A goal that nobody reckons: what is asked of a region's tail. -/
structure Tl (p : Prop) : Prop where
  out : p
theorem tl_nil {a : Act} {w : World} {Q : Exit → Act → World → Prop} (h : Q .normal a w) : Tl (Gw.seqTail P Q [] a w) := ⟨h⟩
theorem tl_store {op : Oper} {rest : List Oper} {a : Act} {w : World} {Q : Exit → Act → World → Prop} (ty : TypeId) (x y : Operand) (ho : op.op = .store ty x y)
    (b : Nat) (old : List Value) (vs : Array Value) (hx : a.eval x = .pointer (some ⟨b, 0, none⟩)) (hy : a.eval y = .agg vs) (hb : Blk w b old) (hl : old.length = vs.size) (hi : (P.info? ty).map (·.size) = some vs.size) (h1 : vs.all (·.oneCell') = true)
    (h : ∀ w', Blk w' b vs.toList → Out (fun k => k = b) w w' → Tl (Gw.seqTail P Q rest (a.put op.dst undef) w')) : Tl (Gw.seqTail P Q (op :: rest) a w) :=
  ⟨wp_store_blk ty x y ho b old vs hx hy hb hl hi h1 fun w' h2 h3 => (h w' h2 h3).out⟩
/-- XTail's law, its tail behind a name. -/
theorem wp_region_tl {id : Nat} {Q : Exit → Act → World → Prop} {a0 : Act} {w : World} {l tail : List Oper} (n : Nat) (G : Gw.Fact) (dsts : List Tmp) (ms : List (List Tmp × Option (Tmp × Bool))) (size : Nat) (hm : P.follows .mixedOrders = true)
    (hB : (Gw.flowB l.toArray size && Gw.tailB l.toArray n && decide (n ≤ l.length) && (ms == (Gw.metaOf l.toArray).take n) && ((l.take n).filterMap (·.dst) == dsts)) = true) (hsz : a0.tmps.size = size)
    (h0 : ∀ t W, t ∉ dsts → Gw.Grows w W → G t (a0.eval (.tmp t)) W) (hreq : Gw.Req P G w (l.take n) ms)
    (htail : l.drop n = tail)
    (hend : ∀ (x : Tmp → Value) (w' : World), Gw.Grows w w' → (∀ d ∈ dsts, Gw.Holds G d (x d) w') → Tl (Gw.seqTail P Q tail (Gw.putAll x dsts a0) w')) : (Code.region id l.toArray true).wp P Q a0 w :=
  Gw.wp_region_tail n G dsts ms size hm hB hsz h0 hreq htail fun x w' hg hx => (hend x w' hg hx).out
end
end Go.Proofs.Yteaibgnelnblnaa

/-! Rows of elements of some cells each: plain mathematics. -/
namespace Go.Proofs.Yteaibgnelnblnaa.Rw

/-- The cells of a row. -/
def rows {α : Type} (f : α → List Value) (l : List α) : List Value := l.flatMap f
section
variable {α : Type} {f : α → List Value} {s : Nat}
end
end Go.Proofs.Yteaibgnelnblnaa.Rw
end
section
namespace Go.Proofs.Yteaibgnelnblnaa.Tx

/-- The lines of what is left of a text, behind what the line has already. -/
def linesG : List UInt8 → List UInt8 → List (List UInt8)
  | c, [] => if c = [] then [] else [c]
  | c, u :: l => if u = 10 then c :: linesG [] l else linesG (c ++ [u]) l
/-- Those without a line feed. -/
def Plain (l : List UInt8) : Prop := ∀ u ∈ l, u ≠ 10
/-- Lines, one behind the other, with a line feed behind each. -/
def joinL : List (List UInt8) → List UInt8
  | [] => []
  | l :: ls => l ++ 10 :: joinL ls
/-- A blank. -/
def blankB (u : UInt8) : Bool := u == 32 || u == 9
/-- The words of what is left of a line, behind what the word has already. -/
def wordsG : List UInt8 → List UInt8 → List (List UInt8)
  | c, [] => if c = [] then [] else [c]
  | c, u :: l => if blankB u then (if c = [] then wordsG [] l else c :: wordsG [] l) else wordsG (c ++ [u]) l
def NoBlank (l : List UInt8) : Prop := ∀ u ∈ l, blankB u = false
/-- A digit. -/
def dig (u : UInt8) : Bool := decide (48 ≤ u.toNat) && decide (u.toNat ≤ 57)
/-- The number of digits, behind a. -/
def val (a : Nat) (l : List UInt8) : Nat := l.foldl (fun a u => 10 * a + (u.toNat - 48)) a
/-- A number. -/
def isNum (l : List UInt8) : Bool := !l.isEmpty && !(decide (1 < l.length) && l.headD 0 == 48) && l.all dig
/-- A word's number, up to another one; or the error. -/
def numS (l : List UInt8) (most : Nat) : Nat × Int :=
  if isNum l then (if val 0 l ≤ most then (val 0 l, 0) else (0, 9)) else (0, 3)
/-- The greatest number of 64 bits. -/
def topD : List UInt8 := [49, 56, 52, 52, 54, 55, 52, 52, 48, 55, 51, 55, 48, 57, 53, 53, 49, 54, 49, 53]
/-- What the document asks of the digits: too long, or above the greatest one. -/
def overB (l : List UInt8) : Bool := decide (20 < l.length) || (decide (l.length = 20) && Op.bytesLess topD l)
/-- The digits of a number. -/
def putN (n : Nat) : List UInt8 := if n < 10 then [UInt8.ofNat (48 + n)] else putN (n / 10) ++ [UInt8.ofNat (48 + n % 10)]
end Go.Proofs.Yteaibgnelnblnaa.Tx
end
section
namespace Go.Proofs.Yteaibgnelnblnaa.Ed
open Tx

/-- An edge. -/
structure EdD where
  src : Nat
  dst : Nat
  wgt : Nat
deriving DecidableEq
def noEd : EdD := ⟨0, 0, 0⟩
/-- The weight of a line's words behind the first two, if any: the weight, or the error. -/
def wgtS : List (List UInt8) → Nat × Int
  | [] => (1, 0)
  | w :: _ => if (numS w 2147483647).2 ≠ 0 then (0, (numS w 2147483647).2) else if (numS w 2147483647).1 = 0 then (0, 9) else ((numS w 2147483647).1, 0)
/-- The edge of a line's words; whether there is one; the error. -/
def wordsS (ws : List (List UInt8)) : EdD × Bool × Int :=
  match ws with
  | [] => (noEd, false, 0)
  | a :: r => if a.headD 0 = 35 then (noEd, false, 0) else
    match r with
    | [] => (noEd, false, 12)
    | b :: r => if 1 < r.length then (noEd, false, 12)
      else if (numS a 4294967295).2 ≠ 0 then (noEd, false, (numS a 4294967295).2)
      else if (numS b 4294967295).2 ≠ 0 then (noEd, false, (numS b 4294967295).2)
      else if (wgtS r).2 ≠ 0 then (noEd, false, (wgtS r).2)
      else (⟨(numS a 4294967295).1, (numS b 4294967295).1, (wgtS r).1⟩, true, 0)
def oneS (l : List UInt8) : EdD × Bool × Int := wordsS (wordsG [] l)
/-- The edges of lines, behind k lines with the edges acc; or the line and the error. -/
def readG (k : Nat) (acc : List EdD) : List (List UInt8) → List EdD × Nat × Int
  | [] => (acc, 0, 0)
  | l :: ls => if (oneS l).2.2 ≠ 0 then ([], k + 1, (oneS l).2.2) else readG (k + 1) (if (oneS l).2.1 then acc ++ [(oneS l).1] else acc) ls
/-- An edge's line, without its line feed. -/
def lineS (e : EdD) : List UInt8 := putN e.src ++ 32 :: (putN e.dst ++ 32 :: putN e.wgt)
end Go.Proofs.Yteaibgnelnblnaa.Ed
end
section
namespace Go.Proofs.Yteaibgnelnblnaa.Mg
open Ed

/-- An arc, a row. -/
structure ArcR where
  dst : Nat
  wgt : Nat
deriving DecidableEq
structure RowR where
  src : Nat
  arcs : List ArcR
deriving DecidableEq
/-- An edge is below another one. -/
def lowE (a b : EdD) : Bool := decide (a.src < b.src) || (decide (a.src = b.src) && (decide (a.dst < b.dst) || (decide (a.dst = b.dst) && decide (a.wgt < b.wgt))))
theorem lowE_iff {a b : EdD} : lowE a b = true ↔ a.src < b.src ∨ (a.src = b.src ∧ (a.dst < b.dst ∨ (a.dst = b.dst ∧ a.wgt < b.wgt))) := by simp [lowE]
theorem lowE_no {a b : EdD} : lowE a b = false ↔ b.src < a.src ∨ (a.src = b.src ∧ (b.dst < a.dst ∨ (a.dst = b.dst ∧ b.wgt ≤ a.wgt))) := by
  rw [← Bool.not_eq_true, lowE_iff]
  omega
/-- An edge among sorted ones, behind those that are not above it. -/
def insE (x : EdD) : List EdD → List EdD
  | [] => [x]
  | y :: l => if lowE x y then x :: y :: l else y :: insE x l
def sortE (l : List EdD) : List EdD := l.foldl (fun out x => insE x out) []
/-- Each is not below those ahead of it. -/
def Srt (l : List EdD) : Prop := l.Pairwise fun a b => lowE b a = false
theorem mem_insE {x y : EdD} : ∀ {l : List EdD}, y ∈ insE x l ↔ y = x ∨ y ∈ l
  | [] => by simp [insE]
  | z :: l => by
    rw [insE]
    split
    · simp
    · rw [List.mem_cons, List.mem_cons, mem_insE (l := l)]
      constructor
      · rintro (h | h | h) <;> simp [h]
      · rintro (h | h | h) <;> simp [h]
theorem srt_ins {x : EdD} : ∀ {l : List EdD}, Srt l → Srt (insE x l)
  | [], _ => List.pairwise_singleton _ _
  | y :: l, h => by
    have hp := List.pairwise_cons.1 h
    rw [insE]
    cases q : lowE x y with
    | true =>
      rw [if_pos rfl]
      refine List.pairwise_cons.2 ⟨fun z hz => ?_, h⟩
      have h1 := lowE_iff.1 q
      rcases List.mem_cons.1 hz with rfl | hz
      · rw [lowE_no]; omega
      · have h2 := lowE_no.1 (hp.1 z hz)
        rw [lowE_no]; omega
    | false =>
      rw [if_neg (by simp)]
      refine List.pairwise_cons.2 ⟨fun z hz => ?_, srt_ins hp.2⟩
      rcases mem_insE.1 hz with rfl | hz
      · exact q
      · exact hp.1 z hz
theorem srt_sort (l : List EdD) : Srt (sortE l) := by
  have key : ∀ (l acc : List EdD), Srt acc → Srt (l.foldl (fun out x => insE x out) acc) := fun l => by
    induction l with
    | nil => exact fun _ h => h
    | cons x l ih => exact fun acc h => ih _ (srt_ins h)
  exact key l [] List.Pairwise.nil
/-- The weight of a pair of vertices; of a vertex. -/
def wt (f t : Nat) : List EdD → Nat
  | [] => 0
  | x :: l => (if x.src = f ∧ x.dst = t then x.wgt else 0) + wt f t l
def wf (f : Nat) : List EdD → Nat
  | [] => 0
  | x :: l => (if x.src = f then x.wgt else 0) + wf f l
theorem wt_ins (f t : Nat) (x : EdD) : ∀ l : List EdD, wt f t (insE x l) = wt f t (x :: l)
  | [] => rfl
  | y :: l => by
    rw [insE]
    split
    · rfl
    · rw [wt, wt_ins f t x l, wt, wt, wt]; omega
theorem wf_ins (f : Nat) (x : EdD) : ∀ l : List EdD, wf f (insE x l) = wf f (x :: l)
  | [] => rfl
  | y :: l => by
    rw [insE]
    split
    · rfl
    · rw [wf, wf_ins f x l, wf, wf, wf]; omega
theorem wt_append (f t : Nat) : ∀ a b : List EdD, wt f t (a ++ b) = wt f t a + wt f t b
  | [], b => by rw [List.nil_append, wt, Nat.zero_add]
  | x :: a, b => by rw [List.cons_append, wt, wt, wt_append f t a b, Nat.add_assoc]
theorem wf_append (f : Nat) : ∀ a b : List EdD, wf f (a ++ b) = wf f a + wf f b
  | [], b => by rw [List.nil_append, wf, Nat.zero_add]
  | x :: a, b => by rw [List.cons_append, wf, wf, wf_append f a b, Nat.add_assoc]
theorem wt_sort (f t : Nat) (l : List EdD) : wt f t (sortE l) = wt f t l := by
  have key : ∀ (l acc : List EdD), wt f t (l.foldl (fun out x => insE x out) acc) = wt f t acc + wt f t l := fun l => by
    induction l with
    | nil => exact fun acc => rfl
    | cons x l ih =>
      intro acc
      rw [List.foldl_cons, ih, wt_ins, wt, wt]
      omega
  rw [sortE, key l [], wt, Nat.zero_add]
theorem wf_sort (f : Nat) (l : List EdD) : wf f (sortE l) = wf f l := by
  have key : ∀ (l acc : List EdD), wf f (l.foldl (fun out x => insE x out) acc) = wf f acc + wf f l := fun l => by
    induction l with
    | nil => exact fun acc => rfl
    | cons x l ih =>
      intro acc
      rw [List.foldl_cons, ih, wf_ins, wf, wf]
      omega
  rw [sortE, key l [], wf, Nat.zero_add]
theorem mem_sort {y : EdD} (l : List EdD) : y ∈ sortE l ↔ y ∈ l := by
  have key : ∀ (l acc : List EdD), y ∈ l.foldl (fun out x => insE x out) acc ↔ y ∈ acc ∨ y ∈ l := fun l => by
    induction l with
    | nil => exact fun acc => by simp
    | cons x l ih =>
      intro acc
      rw [List.foldl_cons, ih, mem_insE, List.mem_cons]
      constructor
      · rintro ((h | h) | h) <;> simp [h]
      · rintro (h | h | h) <;> simp [h]
  rw [sortE, key l []]
  simp
/-- All of an arcs' list. -/
def sumA (l : List ArcR) : Nat := (l.map ArcR.wgt).sum
/-- Rows with an edge more: they are given the last one first. -/
def addA (x : EdD) : List ArcR → List ArcR
  | [] => [⟨x.dst, x.wgt⟩]
  | a :: l => if a.dst = x.dst then ⟨a.dst, a.wgt + x.wgt⟩ :: l else ⟨x.dst, x.wgt⟩ :: a :: l
def addR (x : EdD) : List RowR → List RowR
  | [] => [⟨x.src, [⟨x.dst, x.wgt⟩]⟩]
  | r :: l => if r.src = x.src then ⟨r.src, addA x r.arcs⟩ :: l else ⟨x.src, [⟨x.dst, x.wgt⟩]⟩ :: r :: l
def hasR (x : EdD) : List RowR → Nat
  | [] => 0
  | r :: _ => if r.src = x.src then sumA r.arcs else 0
/-- The weights that rows tell. -/
def wtA (t : Nat) : List ArcR → Nat
  | [] => 0
  | a :: l => (if a.dst = t then a.wgt else 0) + wtA t l
def wtR (f t : Nat) : List RowR → Nat
  | [] => 0
  | r :: l => (if r.src = f then wtA t r.arcs else 0) + wtR f t l
def wfR (f : Nat) : List RowR → Nat
  | [] => 0
  | r :: l => (if r.src = f then sumA r.arcs else 0) + wfR f l
theorem wtA_add (t : Nat) (x : EdD) : ∀ l : List ArcR, wtA t (addA x l) = wtA t l + if x.dst = t then x.wgt else 0
  | [] => by simp [addA, wtA]
  | a :: l => by
    rw [addA]
    by_cases e : a.dst = x.dst
    · rw [if_pos e, wtA, wtA]
      dsimp only
      rw [e]
      split <;> omega
    · rw [if_neg e, wtA, wtA]
      dsimp only
      omega
theorem sumA_add (x : EdD) : ∀ l : List ArcR, sumA (addA x l) = sumA l + x.wgt
  | [] => by simp [addA, sumA]
  | a :: l => by
    rw [addA]
    split <;> simp [sumA] <;> omega
theorem wtR_add (f t : Nat) (x : EdD) : ∀ l : List RowR, wtR f t (addR x l) = wtR f t l + if x.src = f ∧ x.dst = t then x.wgt else 0
  | [] => by by_cases h1 : x.src = f <;> by_cases h2 : x.dst = t <;> simp [addR, wtR, wtA, h1, h2]
  | r :: l => by
    rw [addR]
    by_cases e : r.src = x.src
    · rw [if_pos e, wtR, wtR, wtA_add, e]
      by_cases h1 : x.src = f <;> by_cases h2 : x.dst = t <;> simp [h1, h2] <;> omega
    · rw [if_neg e, wtR, wtR, wtA, wtA]
      by_cases h1 : x.src = f <;> by_cases h2 : x.dst = t <;> simp [h1, h2] <;> omega
theorem wfR_add (f : Nat) (x : EdD) : ∀ l : List RowR, wfR f (addR x l) = wfR f l + if x.src = f then x.wgt else 0
  | [] => by by_cases h1 : x.src = f <;> simp [addR, wfR, h1, sumA]
  | r :: l => by
    rw [addR]
    by_cases e : r.src = x.src
    · rw [if_pos e, wfR, wfR, sumA_add, e]
      by_cases h1 : x.src = f <;> simp [h1] <;> omega
    · rw [if_neg e, wfR, wfR]
      by_cases h1 : x.src = f <;> simp [h1, sumA] <;> omega
/-- Rows as they must be, the last one first. -/
structure RowsOk (l : List RowR) : Prop where
  srcs : l.Pairwise fun a b => b.src < a.src
  full : ∀ r ∈ l, r.arcs ≠ []
  dsts : ∀ r ∈ l, r.arcs.Pairwise fun a b => b.dst < a.dst
  pos : ∀ r ∈ l, ∀ a ∈ r.arcs, 0 < a.wgt
/-- The edge that came last stands at the front. -/
def Front (l : List RowR) (y : EdD) : Prop := ∃ r L a A, l = r :: L ∧ r.arcs = a :: A ∧ r.src = y.src ∧ a.dst = y.dst
theorem RowsOk.nil : RowsOk [] := ⟨List.Pairwise.nil, fun _ h => (by cases h), fun _ h => (by cases h), fun _ h => (by cases h)⟩
theorem wfR_zero {f : Nat} : ∀ {l : List RowR}, (∀ r ∈ l, r.src ≠ f) → wfR f l = 0
  | [], _ => rfl
  | r :: l, h => by rw [wfR, if_neg (h r (by simp)), wfR_zero (l := l) fun q hq => h q (by simp [hq])]
/-- What a vertex has lies in the front row. -/
theorem RowsOk.has {l : List RowR} (h : RowsOk l) {x : EdD} (hf : ∀ r ∈ l, r.src ≤ x.src) : hasR x l = wfR x.src l := by
  cases l with
  | nil => rfl
  | cons r l =>
    have hp := (List.pairwise_cons.1 h.srcs).1
    have hr := hf r (by simp)
    rw [hasR, wfR, wfR_zero (l := l) fun q hq => by have := hp q hq; omega, Nat.add_zero]
theorem RowsOk.add {l : List RowR} (h : RowsOk l) {x : EdD} (hw : 0 < x.wgt) (hx : l = [] ∨ ∃ y, Front l y ∧ lowE x y = false) : RowsOk (addR x l) ∧ Front (addR x l) x := by
  cases l with
  | nil =>
    rw [addR]
    refine ⟨⟨List.pairwise_singleton _ _, fun r hr => ?_, fun r hr => ?_, fun r hr a ha => ?_⟩, _, _, _, _, rfl, rfl, rfl, rfl⟩
    · rw [List.mem_singleton.1 hr]; simp
    · rw [List.mem_singleton.1 hr]; exact List.pairwise_singleton _ _
    · rw [List.mem_singleton.1 hr] at ha
      rw [List.mem_singleton.1 ha]; exact hw
  | cons r l =>
    rcases hx with q | ⟨y, ⟨r', L, a, A, e, e1, e2, e3⟩, hy⟩
    · cases q
    · injection e with er el
      subst er el
      have hlow := lowE_no.1 hy
      have hp := List.pairwise_cons.1 h.srcs
      rw [addR]
      by_cases es : r.src = x.src
      · rw [if_pos es, e1, addA]
        have hd := h.dsts r (by simp)
        rw [e1] at hd
        have hdp := List.pairwise_cons.1 hd
        have hpo := h.pos r (by simp)
        rw [e1] at hpo
        by_cases ed : a.dst = x.dst
        · rw [if_pos ed]
          refine ⟨⟨List.pairwise_cons.2 ⟨hp.1, hp.2⟩, fun q hq => ?_, fun q hq => ?_, fun q hq b hb => ?_⟩, _, _, _, _, rfl, rfl, es, ed⟩
          · rcases List.mem_cons.1 hq with rfl | hq
            · simp
            · exact h.full q (by simp [hq])
          · rcases List.mem_cons.1 hq with rfl | hq
            · exact List.pairwise_cons.2 ⟨hdp.1, hdp.2⟩
            · exact h.dsts q (by simp [hq])
          · rcases List.mem_cons.1 hq with rfl | hq
            · rcases List.mem_cons.1 hb with rfl | hb
              · have := hpo a (by simp)
                show 0 < a.wgt + x.wgt
                omega
              · exact hpo b (by simp [hb])
            · exact h.pos q (by simp [hq]) b hb
        · rw [if_neg ed]
          have hlt : a.dst < x.dst := by omega
          refine ⟨⟨List.pairwise_cons.2 ⟨hp.1, hp.2⟩, fun q hq => ?_, fun q hq => ?_, fun q hq b hb => ?_⟩, _, _, _, _, rfl, rfl, es, rfl⟩
          · rcases List.mem_cons.1 hq with rfl | hq
            · simp
            · exact h.full q (by simp [hq])
          · rcases List.mem_cons.1 hq with rfl | hq
            · refine List.pairwise_cons.2 ⟨fun b hb => ?_, hd⟩
              rcases List.mem_cons.1 hb with rfl | hb
              · exact hlt
              · have := hdp.1 b hb
                show b.dst < x.dst
                omega
            · exact h.dsts q (by simp [hq])
          · rcases List.mem_cons.1 hq with rfl | hq
            · rcases List.mem_cons.1 hb with rfl | hb
              · exact hw
              · exact hpo b hb
            · exact h.pos q (by simp [hq]) b hb
      · rw [if_neg es]
        have hlt : r.src < x.src := by omega
        refine ⟨⟨List.pairwise_cons.2 ⟨fun q hq => ?_, h.srcs⟩, fun q hq => ?_, fun q hq => ?_, fun q hq b hb => ?_⟩, _, _, _, _, rfl, rfl, rfl, rfl⟩
        · rcases List.mem_cons.1 hq with rfl | hq
          · exact hlt
          · have := hp.1 q hq
            show q.src < x.src
            omega
        · rcases List.mem_cons.1 hq with rfl | hq
          · simp
          · exact h.full q hq
        · rcases List.mem_cons.1 hq with rfl | hq
          · exact List.pairwise_singleton _ _
          · exact h.dsts q hq
        · rcases List.mem_cons.1 hq with rfl | hq
          · rw [List.mem_singleton.1 hb]; exact hw
          · exact h.pos q hq b hb
/-- Rising lists with the same members are the same. -/
theorem rise_one {α : Type} (key : α → Nat) : ∀ {l m : List α}, (l.Pairwise fun a b => key b < key a) → (m.Pairwise fun a b => key b < key a) → (∀ x, x ∈ l ↔ x ∈ m) → l = m
  | [], [], _, _, _ => rfl
  | [], b :: m, _, _, h => by have := (h b).2 (by simp); cases this
  | a :: l, [], _, _, h => by have := (h a).1 (by simp); cases this
  | a :: l, b :: m, hl, hm, h => by
    have pl := List.pairwise_cons.1 hl
    have pm := List.pairwise_cons.1 hm
    have e : a = b := by
      rcases List.mem_cons.1 ((h a).1 (by simp)) with e | h1
      · exact e
      · rcases List.mem_cons.1 ((h b).2 (by simp)) with e | h2
        · exact e.symm
        · have := pm.1 a h1
          have := pl.1 b h2
          omega
    subst e
    rw [rise_one key pl.2 pm.2 fun x => ⟨fun hx => ?_, fun hx => ?_⟩]
    · rcases List.mem_cons.1 ((h x).1 (by simp [hx])) with e | q
      · subst e; have := pl.1 x hx; omega
      · exact q
    · rcases List.mem_cons.1 ((h x).2 (by simp [hx])) with e | q
      · subst e; have := pm.1 x hx; omega
      · exact q
theorem wtA_zero {t : Nat} : ∀ {l : List ArcR}, (∀ a ∈ l, a.dst ≠ t) → wtA t l = 0
  | [], _ => rfl
  | a :: l, h => by rw [wtA, if_neg (h a (by simp)), wtA_zero (l := l) fun q hq => h q (by simp [hq])]
theorem wtA_mem {t : Nat} : ∀ {l : List ArcR}, (l.Pairwise fun a b => b.dst < a.dst) → ∀ {a : ArcR}, a ∈ l → a.dst = t → wtA t l = a.wgt
  | [], _, _, h, _ => by cases h
  | b :: l, hp, a, h, e => by
    have hc := List.pairwise_cons.1 hp
    rcases List.mem_cons.1 h with rfl | h
    · rw [wtA, if_pos e, wtA_zero (l := l) fun q hq => by have := hc.1 q hq; omega, Nat.add_zero]
    · rw [wtA, if_neg (by have := hc.1 a h; omega), wtA_mem hc.2 h e, Nat.zero_add]
theorem wtR_zero {f t : Nat} : ∀ {l : List RowR}, (∀ r ∈ l, r.src ≠ f) → wtR f t l = 0
  | [], _ => rfl
  | r :: l, h => by rw [wtR, if_neg (h r (by simp)), wtR_zero (l := l) fun q hq => h q (by simp [hq])]
theorem wtR_mem {f t : Nat} : ∀ {l : List RowR}, (l.Pairwise fun a b => b.src < a.src) → ∀ {r : RowR}, r ∈ l → r.src = f → wtR f t l = wtA t r.arcs
  | [], _, _, h, _ => by cases h
  | b :: l, hp, r, h, e => by
    have hc := List.pairwise_cons.1 hp
    rcases List.mem_cons.1 h with rfl | h
    · rw [wtR, if_pos e, wtR_zero (l := l) fun q hq => by have := hc.1 q hq; omega, Nat.add_zero]
    · rw [wtR, if_neg (by have := hc.1 r h; omega), wtR_mem hc.2 h e, Nat.zero_add]
/-- An arc is there just with its weight. -/
theorem RowsOk.arc {l : List RowR} (h : RowsOk l) {r : RowR} (hr : r ∈ l) (a : ArcR) : a ∈ r.arcs ↔ 0 < a.wgt ∧ wtR r.src a.dst l = a.wgt := by
  have hd := h.dsts r hr
  rw [wtR_mem h.srcs hr rfl]
  refine ⟨fun ha => ⟨h.pos r hr a ha, wtA_mem hd ha rfl⟩, fun ⟨h1, h2⟩ => ?_⟩
  by_cases q : ∃ b ∈ r.arcs, b.dst = a.dst
  · obtain ⟨b, hb, e⟩ := q
    have := wtA_mem hd hb e
    have : b = a := by
      cases a; cases b
      simp only [ArcR.mk.injEq]
      simp only at *
      omega
    exact this ▸ hb
  · rw [wtA_zero fun b hb e => q ⟨b, hb, e⟩] at h2
    omega
/-- Rows are told by the weights. -/
theorem RowsOk.one {l m : List RowR} (h : RowsOk l) (k : RowsOk m) (hw : ∀ f t, wtR f t l = wtR f t m) : l = m := by
  have key : ∀ {l m : List RowR}, RowsOk l → RowsOk m → (∀ f t, wtR f t l = wtR f t m) → ∀ r, r ∈ l → r ∈ m := fun {l m} h k hw r hr => by
    have hne := h.full r hr
    obtain ⟨a, ha⟩ : ∃ a, a ∈ r.arcs := by
      cases hq : r.arcs with
      | nil => exact absurd hq hne
      | cons a A => exact ⟨a, by simp⟩
    have h1 := (h.arc hr a).1 ha
    obtain ⟨r', hr', e⟩ : ∃ r', r' ∈ m ∧ r'.src = r.src := by
      refine Classical.byContradiction fun hq => ?_
      have := wtR_zero (f := r.src) (t := a.dst) (l := m) fun q hm e => hq ⟨q, hm, e⟩
      rw [hw] at h1
      omega
    have : r.arcs = r'.arcs := rise_one ArcR.dst (h.dsts r hr) (k.dsts r' hr') fun b => by
      rw [h.arc hr b, k.arc hr' b, hw, e]
    have : r = r' := by cases r; cases r'; simp only at *; subst e; subst this; rfl
    exact this ▸ hr'
  exact rise_one RowR.src h.srcs k.srcs fun r => ⟨key h k hw r, key k h (fun f t => (hw f t).symm) r⟩
/-- Is an edge below the one that came last? -/
def under (last : Option EdD) (x : EdD) : Bool :=
  match last with
  | some y => lowE x y
  | none => false
/-- The rows of edges, behind those that are there: the last one first; or the error. -/
def rowsG (rows : List RowR) (last : Option EdD) : List EdD → List RowR × Int
  | [] => (rows, 0)
  | x :: l => if x.wgt = 0 then ([], 3) else if under last x then ([], 13) else if 2147483647 < hasR x rows + x.wgt then ([], 10) else rowsG (addR x rows) (some x) l
theorem wf_mono {f : Nat} (a b : List EdD) : wf f a ≤ wf f (a ++ b) := by rw [wf_append]; exact Nat.le_add_right _ _
/-- The rows of sorted edges with weights; or a vertex has too much. -/
theorem rowsG_sorted : ∀ (l p : List EdD) (rows : List RowR) (last : Option EdD), Srt (p ++ l) → (∀ x ∈ l, 0 < x.wgt) → RowsOk rows → (last = none → p = [] ∧ rows = []) → (∀ y, last = some y → Front rows y ∧ y ∈ p) → (∀ f t, wtR f t rows = wt f t p) → (∀ f, wfR f rows = wf f p) → (∀ f, wf f p ≤ 2147483647) →
    (∃ R, rowsG rows last l = (R, 0) ∧ RowsOk R ∧ (∀ f t, wtR f t R = wt f t (p ++ l)) ∧ (∀ f, wfR f R = wf f (p ++ l)) ∧ ∀ f, wf f (p ++ l) ≤ 2147483647) ∨ (rowsG rows last l = ([], 10) ∧ ∃ f, 2147483647 < wf f (p ++ l))
  | [], p, rows, last, _, _, hR, _, _, h1, h2, h3 => .inl ⟨rows, by rw [rowsG], hR, fun f t => by rw [List.append_nil]; exact h1 f t, fun f => by rw [List.append_nil]; exact h2 f, fun f => by rw [List.append_nil]; exact h3 f⟩
  | x :: l, p, rows, last, hs, hw, hR, hn, hy, h1, h2, h3 => by
    have hx := hw x (by simp)
    have hlow : under last x = false := by
      cases last with
      | none => rfl
      | some y => exact (List.pairwise_append.1 hs).2.2 y (hy y rfl).2 x (by simp)
    have hle : ∀ r ∈ rows, r.src ≤ x.src := fun r hr => by
      cases last with
      | none => rw [(hn rfl).2] at hr; cases hr
      | some y =>
        obtain ⟨⟨r', L, a, A, e, e1, e2, e3⟩, -⟩ := hy y rfl
        have := lowE_no.1 (show lowE x y = false from hlow)
        rw [e] at hr
        have hp := (List.pairwise_cons.1 (e ▸ hR.srcs)).1
        rcases List.mem_cons.1 hr with rfl | hr
        · omega
        · have := hp r hr; omega
    have hhas := hR.has hle
    rw [h2] at hhas
    have happ : p ++ x :: l = (p ++ [x]) ++ l := by simp
    have hwf : ∀ f, wf f (p ++ [x]) = wf f p + if x.src = f then x.wgt else 0 := fun f => by rw [wf_append, wf, wf, Nat.add_zero]
    rw [rowsG, if_neg (by omega), hlow, if_neg (by simp)]
    by_cases ho : 2147483647 < hasR x rows + x.wgt
    · rw [if_pos ho]
      refine .inr ⟨rfl, x.src, ?_⟩
      rw [happ]
      refine Nat.lt_of_lt_of_le ?_ (wf_mono _ _)
      rw [hwf, if_pos rfl]
      omega
    · rw [if_neg ho, happ]
      obtain ⟨k1, k2⟩ := hR.add hx (by
        cases last with
        | none => exact .inl (hn rfl).2
        | some y => exact .inr ⟨y, (hy y rfl).1, hlow⟩)
      refine rowsG_sorted l (p ++ [x]) (addR x rows) (some x) (by rw [← happ]; exact hs) (fun y hy => hw y (by simp [hy])) k1 (fun q => by cases q) (fun y hy => by injection hy with hy; subst hy; exact ⟨k2, by simp⟩) (fun f t => by rw [wtR_add, h1, wt_append, wt, wt, Nat.add_zero]) (fun f => by rw [wfR_add, h2, hwf]) fun f => ?_
      rw [hwf]
      have := h3 f
      split
      · rename_i e; rw [← e]; omega
      · omega
theorem rows_sort (l : List EdD) (hw : ∀ x ∈ l, 0 < x.wgt) : (∃ R, rowsG [] none (sortE l) = (R, 0) ∧ RowsOk R ∧ (∀ f t, wtR f t R = wt f t l) ∧ (∀ f, wfR f R = wf f l) ∧ ∀ f, wf f l ≤ 2147483647) ∨ (rowsG [] none (sortE l) = ([], 10) ∧ ∃ f, 2147483647 < wf f l) := by
  have := rowsG_sorted (sortE l) [] [] none (srt_sort l) (fun x hx => hw x ((mem_sort l).1 hx)) RowsOk.nil (fun _ => ⟨rfl, rfl⟩) (fun y h => by cases h) (fun _ _ => rfl) (fun _ => rfl) (fun _ => Nat.zero_le _)
  simp only [List.nil_append, wt_sort, wf_sort] at this
  exact this
end Go.Proofs.Yteaibgnelnblnaa.Mg
end
section
namespace Go.Proofs.Yteaibgnelnblnaa.Mg
open Ed

/-- A number's four bytes, the highest one first. -/
def be4 (n : Nat) : List UInt8 := [UInt8.ofNat (n / 16777216), UInt8.ofNat (n / 65536 % 256), UInt8.ofNat (n / 256 % 256), UInt8.ofNat (n % 256)]
/-- The number of four bytes. -/
def nb4 : List UInt8 → Nat
  | [a, b, c, d] => 16777216 * a.toNat + 65536 * b.toNat + 256 * c.toNat + d.toNat
  | _ => 0
theorem be4_length (n : Nat) : (be4 n).length = 4 := rfl
theorem nat_u8 {n : Nat} (h : n < 256) : (UInt8.ofNat n).toNat = n := by rw [UInt8.toNat_ofNat']; omega
theorem nb4_be4 {n : Nat} (h : n < 4294967296) : nb4 (be4 n) = n := by
  show 16777216 * (UInt8.ofNat (n / 16777216)).toNat + 65536 * (UInt8.ofNat (n / 65536 % 256)).toNat + 256 * (UInt8.ofNat (n / 256 % 256)).toNat + (UInt8.ofNat (n % 256)).toNat = n
  rw [nat_u8 (by omega), nat_u8 (by omega), nat_u8 (by omega), nat_u8 (by omega)]
  omega
theorem nb4_lt (l : List UInt8) : nb4 l < 4294967296 := by
  unfold nb4
  split
  · rename_i a b c d
    have := a.toNat_lt
    have := b.toNat_lt
    have := c.toNat_lt
    have := d.toNat_lt
    omega
  · decide
theorem u8_lt {m n : Nat} (hm : m < 256) (hn : n < 256) : decide (UInt8.ofNat m < UInt8.ofNat n) = decide (m < n) := by
  rw [Bool.eq_iff_iff]
  simp only [decide_eq_true_eq, UInt8.lt_iff_toNat_lt, nat_u8 hm, nat_u8 hn]
theorem u8_eq {m n : Nat} (hm : m < 256) (hn : n < 256) : (UInt8.ofNat m == UInt8.ofNat n) = decide (m = n) := by
  rw [Bool.eq_iff_iff]
  simp only [decide_eq_true_eq, beq_iff_eq]
  refine ⟨fun h => ?_, fun h => by rw [h]⟩
  have := congrArg UInt8.toNat h
  rwa [nat_u8 hm, nat_u8 hn] at this
theorem less_be4 {m n : Nat} (hm : m < 4294967296) (hn : n < 4294967296) (x y : List UInt8) : Op.bytesLess (be4 m ++ x) (be4 n ++ y) = (decide (m < n) || (decide (m = n) && Op.bytesLess x y)) := by
  unfold be4
  simp only [List.cons_append, List.nil_append, Op.bytesLess]
  rw [u8_lt (by omega) (by omega), u8_lt (by omega) (by omega), u8_lt (by omega) (by omega), u8_lt (by omega) (by omega), u8_eq (by omega) (by omega), u8_eq (by omega) (by omega), u8_eq (by omega) (by omega), u8_eq (by omega) (by omega)]
  cases hz : Op.bytesLess x y <;> rw [Bool.eq_iff_iff] <;> simp only [Bool.or_eq_true, Bool.and_eq_true, decide_eq_true_eq, Bool.false_eq_true, and_false, or_false, and_true] <;> omega
/-- It is an edge of numbers of 32 bits. -/
def FitE (x : EdD) : Prop := x.src < 4294967296 ∧ x.dst < 4294967296 ∧ x.wgt < 4294967296
/-- An edge's key. -/
def keyB (x : EdD) : List UInt8 := be4 x.src ++ (be4 x.dst ++ be4 x.wgt)
theorem keyB_length (x : EdD) : (keyB x).length = 12 := rfl
/-- A key's edge. -/
def edB (b : List UInt8) : EdD := ⟨nb4 (b.take 4), nb4 ((b.drop 4).take 4), nb4 (b.drop 8)⟩
def ofB (b : List UInt8) : Option EdD := if b.length = 12 then some (edB b) else none
theorem edB_fit (b : List UInt8) : FitE (edB b) := ⟨nb4_lt _, nb4_lt _, nb4_lt _⟩
theorem edB_key {x : EdD} (h : FitE x) : edB (keyB x) = x := by
  show (⟨nb4 (be4 x.src), nb4 (be4 x.dst), nb4 (be4 x.wgt)⟩ : EdD) = x
  rw [nb4_be4 h.1, nb4_be4 h.2.1, nb4_be4 h.2.2]
/-- Keys are in the order of their edges. -/
theorem less_key {x y : EdD} (hx : FitE x) (hy : FitE y) : Op.bytesLess (keyB x) (keyB y) = lowE x y := by
  unfold keyB lowE
  rw [less_be4 hx.1 hy.1, less_be4 hx.2.1 hy.2.1]
  have h3 := less_be4 hx.2.2 hy.2.2 [] []
  rw [List.append_nil, List.append_nil] at h3
  rw [h3]
  have h4 : Op.bytesLess [] [] = false := rfl
  rw [h4, Bool.and_false, Bool.or_false]
/-- The rows of keys, behind those that are there: the last one first; or the error. -/
def keysG (rows : List RowR) (last : Option EdD) : List (List UInt8) → List RowR × Int
  | [] => (rows, 0)
  | b :: l => if b.length ≠ 12 ∨ (edB b).wgt = 0 then ([], 3) else if under last (edB b) then ([], 13) else if 2147483647 < hasR (edB b) rows + (edB b).wgt then ([], 10) else keysG (addR (edB b) rows) (some (edB b)) l
/-- The keys of edges. -/
theorem keysG_edges : ∀ (l : List EdD) (rows : List RowR) (last : Option EdD), (∀ x ∈ l, FitE x) → keysG rows last (l.map keyB) = rowsG rows last l
  | [], _, _, _ => rfl
  | x :: l, rows, last, h => by
    rw [List.map_cons, keysG, rowsG, edB_key (h x List.mem_cons_self)]
    have e : (keyB x).length ≠ 12 ∨ x.wgt = 0 ↔ x.wgt = 0 := ⟨fun h => h.elim (fun h => absurd (keyB_length x) h) id, .inr⟩
    by_cases h0 : x.wgt = 0
    · rw [if_pos h0, if_pos (.inr h0)]
    · rw [if_neg h0, if_neg (fun h => h0 (e.1 h)), keysG_edges l _ _ fun y hy => h y (List.mem_cons_of_mem _ hy)]
/-- The error of a key behind rows that are there. -/
def errK (rows : List RowR) (last : Option EdD) (b : List UInt8) : Int :=
  if b.length ≠ 12 ∨ (edB b).wgt = 0 then 3 else if under last (edB b) then 13 else if 2147483647 < hasR (edB b) rows + (edB b).wgt then 10 else 0
/-- Keys are gone through up to the first error: how many, the rows that are there, the last edge, the error. -/
def goK (rows : List RowR) (last : Option EdD) : List (List UInt8) → Nat × List RowR × Option EdD × Int
  | [] => (0, rows, last, 0)
  | b :: l => if errK rows last b = 0 then let q := goK (addR (edB b) rows) (some (edB b)) l; (q.1 + 1, q.2) else (0, rows, last, errK rows last b)
theorem keysG_cons (rows : List RowR) (last : Option EdD) (b : List UInt8) (l : List (List UInt8)) : keysG rows last (b :: l) = if errK rows last b = 0 then keysG (addR (edB b) rows) (some (edB b)) l else ([], errK rows last b) := by
  rw [keysG]
  unfold errK
  split
  · rfl
  · split
    · rfl
    · split
      · rfl
      · rfl
theorem keysG_go : ∀ (l : List (List UInt8)) (rows : List RowR) (last : Option EdD), keysG rows last l = if (goK rows last l).2.2.2 = 0 then ((goK rows last l).2.1, 0) else ([], (goK rows last l).2.2.2)
  | [], rows, last => rfl
  | b :: l, rows, last => by
    rw [keysG_cons, goK]
    by_cases h : errK rows last b = 0
    · rw [if_pos h, if_pos h, keysG_go l]
    · rw [if_neg h, if_neg h, if_neg h]
/-- There are rows behind a key. -/
theorem addR_ne (x : EdD) (rows : List RowR) : addR x rows ≠ [] := by
  cases rows with
  | nil => intro h; cases h
  | cons r l =>
    rw [addR]
    split <;> (intro h; cases h)
/-- Rows are at most as many as keys. -/
theorem addR_length (x : EdD) (rows : List RowR) : (addR x rows).length ≤ rows.length + 1 := by
  cases rows with
  | nil => exact Nat.le_refl _
  | cons r l =>
    rw [addR]
    split <;> simp
end Go.Proofs.Yteaibgnelnblnaa.Mg
end
section
namespace Go.Proofs.Yteaibgnelnblnaa.Ed
open Tx

/-- How many line feeds there are. -/
def feeds : List UInt8 → Nat
  | [] => 0
  | u :: l => (if u = 10 then 1 else 0) + feeds l
/-- What is read of a text's lines, of at most so many edges. -/
def readM (most : Nat) (k : Nat) (acc : List EdD) : List (List UInt8) → List EdD × Nat × Int
  | [] => (acc, 0, 0)
  | l :: ls => if (oneS l).2.2 ≠ 0 then ([], k + 1, (oneS l).2.2)
    else if (oneS l).2.1 then (if most ≤ acc.length then ([], k + 1, 4) else readM most (k + 1) (acc ++ [(oneS l).1]) ls)
    else readM most (k + 1) acc ls
/-- What is read of a text. -/
def readB (b : List UInt8) : List EdD × Nat × Int := if 1048576 < b.length then ([], 0, 4) else readM 65536 0 [] (linesG [] b)
/-- What is printed. -/
def printS (es : List EdD) : List UInt8 := joinL (es.map lineS)
/-- Numbers that an edge can have. -/
def Fits (e : EdD) : Prop := e.src < 4294967296 ∧ e.dst < 4294967296 ∧ e.wgt < 4294967296
/-- A weight that may be. -/
def mayB (e : EdD) : Bool := decide (1 ≤ e.wgt) && decide (e.wgt ≤ 2147483647)
/-- A note without its line feeds. -/
def strip : List UInt8 → List UInt8
  | [] => []
  | u :: l => if u = 10 then strip l else u :: strip l
/-- A note's two lines. -/
def noteL (n : List UInt8) : List (List UInt8) := [32 :: 9 :: 35 :: strip n, [32]]
def edgeL (e : EdD) : List (List UInt8) := [9 :: 32 :: lineS e]
/-- The lines of edges with notes among them. -/
def mixL : List EdD → List (List UInt8) → List (List UInt8)
  | [], [] => []
  | [], n :: ns => noteL n ++ mixL [] ns
  | e :: es, [] => edgeL e ++ mixL es []
  | e :: es, n :: ns => noteL n ++ (edgeL e ++ mixL es ns)
end Go.Proofs.Yteaibgnelnblnaa.Ed
end
section
namespace Go.Proofs.Yteaibgnelnblnaa.Gw
open Go.RowKit

/-- .. as far as the first m operations: each slot is written once, and whoever looks at it waits for that; an operation waits for those ahead of it alone; each guard has a slot. -/
def flowT (ops : Array Oper) (n m : Nat) : Bool :=
  (List.range ops.size).all fun i =>
    match ops[i]? with
    | none => true
    | some o =>
      (o.after.all fun e => !Region.binds .any e || decide (e.on < i)) &&
      (match o.guard with | some (g, _) => ((ops[g]?).bind (·.dst)).isSome | none => true) &&
      (match o.dst with | some d => decide (d < n) | none => true) &&
      (List.range m).all fun j =>
        match ops[j]? with
        | none => true
        | some q =>
          match q.dst with
          | none => true
          | some d => (!(o.looksAt ops).contains d || o.after.any fun e => Region.binds .any e && e.on == j) && (i == j || o.dst != some d)


section
variable {P : Program} {ops : Array Oper} {n : Nat}
theorem flowT_at {m : Nat} (hm : m ≤ ops.size) (h : flowT ops n m = true) {i : Nat} {o : Oper} (hi : ops[i]? = some o) :
    (∀ e ∈ o.after, Region.binds .any e = true → e.on < i) ∧ (∀ g b, o.guard = some (g, b) → ∃ q d, ops[g]? = some q ∧ q.dst = some d) ∧ (∀ d, o.dst = some d → d < n) ∧
    (∀ (j : Nat) (q : Oper) (d : Tmp), j < m → ops[j]? = some q → q.dst = some d → (d ∈ o.looksAt ops → ∃ e ∈ o.after, Region.binds .any e = true ∧ e.on = j) ∧ (i ≠ j → o.dst ≠ some d)) := by
  have hlt : i < ops.size := (Array.getElem?_eq_some_iff.1 hi).1
  have h1 := List.all_eq_true.1 h i (List.mem_range.2 hlt)
  simp only [hi, Bool.and_eq_true] at h1
  obtain ⟨⟨⟨ha, hg⟩, hd⟩, hq⟩ := h1
  refine ⟨fun e he hb => ?_, fun g b hgb => ?_, fun d hdd => ?_, fun j q d hjm hj hqd => ?_⟩
  · have := Array.all_eq_true_iff_forall_mem.1 ha e he
    simpa [hb] using this
  · rw [hgb] at hg
    simp only at hg
    cases hgo : ops[g]? with
    | none => simp [hgo] at hg
    | some q =>
      simp only [hgo, Option.bind_some] at hg
      cases hqd : q.dst with
      | none => simp [hqd] at hg
      | some d => exact ⟨q, d, rfl, hqd⟩
  · rw [hdd] at hd
    simpa using hd
  · have hjlt : j < ops.size := (Array.getElem?_eq_some_iff.1 hj).1
    have h2 := List.all_eq_true.1 hq j (List.mem_range.2 hjm)
    simp only [hj, hqd, Bool.and_eq_true] at h2
    refine ⟨fun hm => ?_, fun hne he => ?_⟩
    · have h3 := h2.1
      have hc : (o.looksAt ops).contains d = true := by simpa using hm
      rw [hc] at h3
      rw [Bool.not_true, Bool.false_or, Array.any_eq_true] at h3
      obtain ⟨x, hx, h3⟩ := h3
      simp only [Bool.and_eq_true, beq_iff_eq] at h3
      exact ⟨o.after[x], Array.getElem_mem hx, h3.1, h3.2⟩
    · have h3 := h2.2
      simp [hne, he] at h3

end
section
variable {P : Program} {ops : Array Oper} {n size : Nat}
theorem tail_seqT {Q : Exit → Act → World → Prop} (hF : flowT ops size n = true) (hT : tailB ops n = true) (hnn : n ≤ ops.size) : ∀ (fuel m : Nat) (listed : Array Bool) (a : Act) (w : World), n ≤ m → m ≤ ops.size → listed.size = ops.size →
    (∀ k, k < ops.size → (listed.getD k false = true ↔ k < m)) → ops.size - m ≤ fuel → seqTail P Q (ops.toList.drop m) a w → wpAny P .any ops Q fuel listed a w := by
  intro fuel
  induction fuel with
  | zero =>
    intro m listed a w hn hm hs hl hf h
    have e : m = ops.size := by omega
    subst e
    rw [List.drop_of_length_le (by simp)] at h
    refine ⟨?_, h⟩
    cases hr : Region.ready .any ops listed with
    | nil => rfl
    | cons i r =>
      exfalso
      obtain ⟨hu, o, ho, -⟩ := ready_at hs (show i ∈ Region.ready .any ops listed by rw [hr]; simp)
      have hlt := (Array.getElem?_eq_some_iff.1 ho).1
      rw [(hl i hlt).2 hlt] at hu
      cases hu
  | succ fuel ih =>
    intro m listed a w hn hm hs hl hf h
    have closed : Closed ops listed := fun k o hk hlk e he hb => by
      have hkl := (Array.getElem?_eq_some_iff.1 hk).1
      have h1 := (flowT_at hnn hF hk).1 e he hb
      exact (hl e.on (by omega)).2 (by have := (hl k hkl).1 hlk; omega)
    refine ⟨fun hr => ?_, fun i hi => ?_⟩
    · by_cases e : m = ops.size
      · subst e
        rw [List.drop_of_length_le (by simp)] at h
        exact h
      · exfalso
        have hlt : m < ops.size := by omega
        have ho : ops[m]? = some ops[m] := Array.getElem?_eq_getElem hlt
        have : m ∈ Region.ready .any ops listed := mem_ready.2 ⟨by
          rw [listed_two (by omega)]
          cases hx : listed.getD m false with
          | false => rfl
          | true => exact absurd ((hl m hlt).1 hx) (Nat.lt_irrefl _), _, ho, fun e he hb => by
          have h1 := (flowT_at hnn hF ho).1 e he hb
          exact (hl e.on (by omega)).2 h1⟩
        rw [hr] at this
        cases this
    · obtain ⟨hu, o, ho, hall⟩ := ready_at hs hi
      have hlt := (Array.getElem?_eq_some_iff.1 ho).1
      have him : m ≤ i := by
        rcases Nat.lt_or_ge i m with h1 | h1
        · rw [(hl i hlt).2 h1] at hu; cases hu
        · exact h1
      obtain ⟨hg, hw⟩ := tail_at hT ho (by omega)
      have hei : i = m := by
        rcases Nat.lt_or_ge m i with h1 | h1
        · have := waits_listed closed _ _ _ o ho hall (hw m h1)
          exact absurd ((hl m (by omega)).1 this) (Nat.lt_irrefl _)
        · omega
      subst hei
      have hd : ops.toList.drop i = o :: ops.toList.drop (i + 1) := by
        rw [List.drop_eq_getElem_cons (by simpa using hlt)]
        congr 1
        have := (Array.getElem?_eq_some_iff.1 ho).2
        simpa using this
      rw [hd] at h
      unfold wpOp
      simp only [ho]
      have hwt : Region.wanted o (yielded ops a.tmps) = true := by unfold Region.wanted; rw [hg]
      rw [if_pos hwt]
      refine .inl (Oper.wp_mono (fun a' w' hK => ?_) h)
      refine ih (i + 1) _ _ _ (by omega) (by omega) (by simpa using hs) (fun k hk => ?_) (by omega) hK
      by_cases hki : i = k
      · subst hki
        have hx : i < listed.size := by omega
        simp [hx]
      · rw [getD_set_ne false hki, hl k hk]
        omega


theorem invTT_put {G : Fact} {a0 : Act} {w0 : World} {listed : Array Bool} {a : Act} {w w' : World} {i : Nat} {o : Oper} {v : Value} (hB : flowT ops a0.tmps.size n = true) (hnn : n ≤ ops.size) (hin : i < n) (hi : ops[i]? = some o)
    (hall : ∀ e ∈ o.after, Region.binds .any e = true → listed.getD e.on false = true)
    (h : InvT ops n G a0 w0 listed a w) (hg : Grows w w') (hp : Post G o.dst v w') : InvT ops n G a0 w0 (listed.setIfInBounds i true) (a.put o.dst v) w' := by
  obtain ⟨hac, -, hlt, hone⟩ := flowT_at hnn hB hi
  have hil : i < listed.size := by rw [h.listedSize]; exact (Array.getElem?_eq_some_iff.1 hi).1
  refine ⟨h.grows.trans hg, by rw [defers_put, h.defers], by rw [size_put, h.size], fun t ht => ?_, fun t ht => ?_, by simpa using h.listedSize, fun k q hk hlk e he hb => ?_, fun k hk => ?_⟩
  · by_cases hd : o.dst = some t
    · rw [hd] at hp ⊢
      rw [eval_put_same (by rw [h.size]; exact hlt t hd)]
      exact hp
    · rw [eval_put_other hd]
      refine (h.facts t fun j q hjn hj hq => ?_).grow hg
      have hne : i ≠ j := fun e => by
        subst e
        rw [hi] at hj
        injection hj with hj
        subst hj
        exact hd hq
      have := ht j q hjn hj hq
      rwa [getD_set_ne false hne] at this
  · rw [eval_put_other (ht i o hin hi)]
    exact h.others t ht
  · have hold : listed.getD e.on false = true → (listed.setIfInBounds i true).getD e.on false = true := getD_set_true
    by_cases hki : i = k
    · subst hki
      rw [hi] at hk
      injection hk with hk
      subst hk
      exact hold (hall e he hb)
    · rw [getD_set_ne false hki] at hlk
      exact hold (h.closed k q hk hlk e he hb)
  · rw [getD_set_ne false (by omega)]
    exact h.none k hk

theorem any_of_invTT {G : Fact} {a0 : Act} {w0 : World} {Q : Exit → Act → World → Prop} {ms : List (List Tmp × Option (Tmp × Bool))} (hB : flowT ops a0.tmps.size n = true) (hT : tailB ops n = true) (hn : n ≤ ops.size) (hms : ms = (metaOf ops).take n) (hreq : Req P G w0 (ops.toList.take n) ms)
    (hend : ∀ a w, (∀ listed : Array Bool, (∀ j, j < n → listed.getD j false = true) → InvT ops n G a0 w0 listed a w → seqTail P Q (ops.toList.drop n) a w) ) :
    ∀ (fuel : Nat) (listed : Array Bool) (a : Act) (w : World), listed.toList.count false ≤ fuel → InvT ops n G a0 w0 listed a w → wpAny P .any ops Q fuel listed a w := by
  intro fuel
  induction fuel with
  | zero =>
    intro listed a w hc h
    have hcnt := count_rest listed.toList n (fun k hk => by have := h.none k hk; simpa using this)
    rw [Array.length_toList, h.listedSize] at hcnt
    have hall : ∀ j, j < n → listed.getD j false = true := fun j hj => by
      cases hl : listed.getD j false with
      | true => rfl
      | false =>
        exfalso
        have hb : j < listed.size := by rw [h.listedSize]; omega
        have : (false : Bool) ∈ listed.toList := by
          have e : listed[j] = false := by simpa [hb] using hl
          rw [← e]
          exact Array.getElem_mem_toList hb
        have := List.count_pos_iff.2 this
        omega
    exact tail_seqT hB hT hn 0 n listed a w (Nat.le_refl _) hn h.listedSize (fun k _ => ⟨fun hk => Nat.lt_of_not_le fun h1 => (by rw [h.none k h1] at hk; cases hk), hall k⟩) (by omega) (hend a w listed hall h)
  | succ fuel ih =>
    intro listed a w hc h
    have hcnt := count_rest listed.toList n (fun k hk => by have := h.none k hk; simpa using this)
    rw [Array.length_toList, h.listedSize] at hcnt
    by_cases hall : ∀ j, j < n → listed.getD j false = true
    · exact tail_seqT hB hT hn _ n listed a w (Nat.le_refl _) hn h.listedSize (fun k _ => ⟨fun hk => Nat.lt_of_not_le fun h1 => (by rw [h.none k h1] at hk; cases hk), hall k⟩) (by omega) (hend a w listed hall h)
    · have hready : Region.ready .any ops listed ≠ [] := fun hr => hall fun j => by
        induction j using Nat.strongRecOn with
        | _ j ihj =>
          intro hj
          cases hl : listed.getD j false with
          | true => rfl
          | false =>
            exfalso
            have hjo : ops[j]? = some ops[j] := Array.getElem?_eq_getElem (by omega)
            have : j ∈ Region.ready .any ops listed := mem_ready.2 ⟨by rw [listed_two (by rw [h.listedSize]; omega)]; exact hl, ops[j], hjo, fun e he hb => by
              have hlt := (flowT_at hn hB hjo).1 e he hb
              exact ihj e.on hlt (by omega)⟩
            rw [hr] at this
            cases this
      refine ⟨fun hr => absurd hr hready, fun i hm => ?_⟩
      obtain ⟨hu, o, ho, hal⟩ := ready_at h.listedSize hm
      have hil : i < ops.size := (Array.getElem?_eq_some_iff.1 ho).1
      have hin : i < n := by
        rcases Nat.lt_or_ge i n with h1 | h1
        · exact h1
        · exact absurd (fun j hj => waits_listed h.closed _ _ _ o ho hal ((tail_at hT ho h1).2 j (by omega))) hall
      have hlt : i < listed.size := by rw [h.listedSize]; exact hil
      have hcount : (listed.setIfInBounds i true).toList.count false ≤ fuel := by
        have e : listed.toList[i]? = some false := by
          have : listed[i] = false := by simpa [hlt] using hu
          simp [hlt, this]
        have := count_set listed.toList i e
        simp only [Array.toList_setIfInBounds]
        omega
      obtain ⟨hacyc, hguard, hdlt, hflow⟩ := flowT_at hn hB ho
      obtain ⟨m, hm1, hm2⟩ := req_at (ops.toList.take n) ms hreq i o (by rw [List.getElem?_take, if_pos hin]; simpa using ho)
      have hme : m = (o.looksAt ops, guardOf ops o) := by
        rw [hms, List.getElem?_take, if_pos hin] at hm1
        unfold metaOf at hm1
        rw [List.getElem?_map] at hm1
        have : ops.toList[i]? = some o := by simpa using ho
        rw [this] at hm1
        simpa using hm1.symm
      subst hme
      have hk : Knows G a w (o.looksAt ops) := knows_of _ fun t ht => (h.facts t fun j q hjn hj hq => by
        obtain ⟨e, he, hb, rfl⟩ := (hflow j q t hjn hj hq).1 ht
        exact hal e he hb).now
      have hreq' := hm2 a w h.grows hk
      unfold wpOp
      simp only [ho]
      have go : ∀ v w', Grows w w' → Post G o.dst v w' → wpAny P .any ops Q fuel (listed.setIfInBounds i true) (a.put o.dst v) w' := fun v w' hg hp =>
        ih _ _ _ hcount (invTT_put hB hn hin ho hal h hg hp)
      unfold OpReq guardOf at hreq'
      cases hgd : o.guard with
      | none =>
        rw [hgd] at hreq'
        have hw : Region.wanted o (yielded ops a.tmps) = true := by unfold Region.wanted; rw [hgd]
        rw [if_pos hw]
        exact .inl (wp_of_ok hreq' go)
      | some gb =>
        obtain ⟨g, b⟩ := gb
        obtain ⟨q, d, hq, hqd⟩ := hguard g b hgd
        rw [hgd] at hreq'
        have hbind : (ops[g]?).bind (·.dst) = some d := by rw [hq]; exact hqd
        simp only [hbind, Option.map_some] at hreq'
        rw [← eval_slot] at hreq'
        rcases hreq' with ⟨he, hok⟩ | ⟨he, hp⟩
        · have hw := wanted_of (ops := ops) hgd hbind he
          rw [if_pos (by rw [hw]; simp)]
          exact .inl (wp_of_ok hok go)
        · have hw := wanted_of (ops := ops) hgd hbind he
          rw [if_neg (by rw [hw]; cases b <;> simp)]
          exact go _ _ (Grows.refl w) hp


/-- **The law**: of each operation's slot ahead of the tail is known what was to be shown, whatever the order; then the tail. -/
theorem wp_region_tailT {id : Nat} {Q : Exit → Act → World → Prop} {a0 : Act} {w : World} {l tail : List Oper} (n : Nat) (G : Fact) (dsts : List Tmp) (ms : List (List Tmp × Option (Tmp × Bool))) (size : Nat) (hm : P.follows .mixedOrders = true)
    (hB : (flowT l.toArray size n && tailB l.toArray n && decide (n ≤ l.length) && (ms == (metaOf l.toArray).take n) && ((l.take n).filterMap (·.dst) == dsts)) = true) (hsz : a0.tmps.size = size)
    (h0 : ∀ t W, t ∉ dsts → Grows w W → G t (a0.eval (.tmp t)) W) (hreq : Req P G w (l.take n) ms)
    (htail : l.drop n = tail)
    (hend : ∀ (x : Tmp → Value) (w' : World), Grows w w' → (∀ d ∈ dsts, Holds G d (x d) w') → seqTail P Q tail (putAll x dsts a0) w') : (Code.region id l.toArray true).wp P Q a0 w := by
  simp only [Bool.and_eq_true, beq_iff_eq, decide_eq_true_eq] at hB
  obtain ⟨⟨⟨⟨hf, hT⟩, hn⟩, hme⟩, hde⟩ := hB
  subst hsz htail
  have hmem : ∀ t : Tmp, t ∈ dsts ↔ ∃ (j : Nat) (o : Oper), j < n ∧ l.toArray[j]? = some o ∧ o.dst = some t := fun t => by
    rw [← hde]
    simp only [List.mem_filterMap]
    constructor
    · rintro ⟨o, ho, hd⟩
      obtain ⟨j, hj⟩ := List.mem_iff_getElem?.1 ho
      rw [List.getElem?_take] at hj
      split at hj
      · rename_i hjn
        exact ⟨j, o, hjn, by simpa using hj, hd⟩
      · cases hj
    · rintro ⟨j, o, hjn, hj, hd⟩
      exact ⟨o, List.mem_iff_getElem?.2 ⟨j, by rw [List.getElem?_take, if_pos hjn]; simpa using hj⟩, hd⟩
  refine wp_region_any hm (any_of_invTT (n := n) (ms := ms) (G := G) (a0 := a0) (w0 := w) hf hT (by simpa using hn) hme (by simpa using hreq) ?_ _ _ _ _ ?_ ?_)
  · intro a w' listed hall hinv
    have e : a = putAll (fun t => a.eval (.tmp t)) dsts a0 := by
      have hsz := hinv.size
      have hdf := hinv.defers
      have ht : a.tmps = (putAll (fun t => a.eval (.tmp t)) dsts a0).tmps := by
        apply Array.ext_getElem?
        intro t
        by_cases hlt : t < a0.tmps.size
        · rw [putAll_get _ _ _ _ hlt]
          have hat : a.tmps[t]? = some (a.eval (.tmp t)) := by
            have : t < a.tmps.size := by rw [hsz]; exact hlt
            simp [Act.eval, this]
          by_cases hd : t ∈ dsts
          · rw [if_pos hd, hat]
          · rw [if_neg hd, hat, hinv.others t (fun j o hjn hj hq => hd ((hmem t).2 ⟨j, o, hjn, hj, hq⟩))]
            simp [Act.eval, hlt]
        · rw [Array.getElem?_eq_none (by rw [hsz]; omega), Array.getElem?_eq_none (by rw [putAll_size]; omega)]
      have hdd : a.defers = (putAll (fun t => a.eval (.tmp t)) dsts a0).defers := by rw [putAll_defers, hdf]
      exact act_ext ht hdd
    rw [e]
    have := hend (fun t => a.eval (.tmp t)) w' hinv.grows fun d hd => hinv.facts d fun j o hjn _ _ => hall j hjn
    simpa using this
  · simp
  · refine ⟨⟨rfl, rfl, rfl, Nat.le_refl _, fun _ _ => rfl⟩, rfl, rfl, fun t ht => ?_, fun _ _ => rfl, by simp, fun k o hk hl => ?_, fun k _ => ?_⟩
    · have hnd : t ∉ dsts := fun hd => by
        obtain ⟨j, o, hjn, hj, hq⟩ := (hmem t).1 hd
        have := ht j o hjn hj hq
        have hlt := (Array.getElem?_eq_some_iff.1 hj).1
        simp at hlt
        simp [hlt] at this
      exact fun W hW => h0 t W hnd ⟨hW.os, hW.tape, hW.output, hW.size, hW.block⟩
    · have hlt := (Array.getElem?_eq_some_iff.1 hk).1
      simp at hlt
      simp [hlt] at hl
    · by_cases hlt : k < l.length
      · simp [hlt]
      · simp [hlt]

end
end Go.Proofs.Yteaibgnelnblnaa.Gw
namespace Go.Proofs.Yteaibgnelnblnaa
open Go.RowKit
/-- Its tail behind a name. -/
theorem wp_region_tlT {P : Program} {id : Nat} {Q : Exit → Act → World → Prop} {a0 : Act} {w : World} {l tail : List Oper} (n : Nat) (G : Gw.Fact) (dsts : List Tmp) (ms : List (List Tmp × Option (Tmp × Bool))) (size : Nat) (hm : P.follows .mixedOrders = true)
    (hB : (Gw.flowT l.toArray size n && Gw.tailB l.toArray n && decide (n ≤ l.length) && (ms == (Gw.metaOf l.toArray).take n) && ((l.take n).filterMap (·.dst) == dsts)) = true) (hsz : a0.tmps.size = size)
    (h0 : ∀ t W, t ∉ dsts → Gw.Grows w W → G t (a0.eval (.tmp t)) W) (hreq : Gw.Req P G w (l.take n) ms)
    (htail : l.drop n = tail)
    (hend : ∀ (x : Tmp → Value) (w' : World), Gw.Grows w w' → (∀ d ∈ dsts, Gw.Holds G d (x d) w') → Tl (Gw.seqTail P Q tail (Gw.putAll x dsts a0) w')) : (Code.region id l.toArray true).wp P Q a0 w :=
  Gw.wp_region_tailT n G dsts ms size hm hB hsz h0 hreq htail fun x w' hg hx => (hend x w' hg hx).out
end Go.Proofs.Yteaibgnelnblnaa
end
section
namespace Go.Proofs.Yteaibgnelnblnaa
open Go.RowKit Me

section
variable {P : Program}
theorem run_append_row (w : World) (base : Nat) (t ty e : TypeId) (i : TypeInfo) (z : Value) (size bytes : Nat) (ht : P.underlying t = some (.slice e)) (hi : P.info? e = some i) (hz : i.zero = some z) (hsize : i.size = size) (hby : i.bytes = bytes) (hzs : z.cells.size = size) (hsz : 0 < size)
    (v : Value) (n : Nat) (xs : List Value) (hown : w.ownsRow base e size v n xs) (A : Option Addr) (k c : Nat) (news : List Value) (hl : news.length = k * size) (hr : 0 < news.length → ∃ a, A = some a ∧ ∀ j u, news[j]? = some u → w.cell? (a.add j) = some u) (h1 : ∀ u ∈ news, u.oneCell' = true)
    (h63 : n + k ≤ maxLen) (hbytes : (n + k) * bytes ≤ 140737488355328) (hbase : base ≤ w.heap.size) :
    ∃ v' w', (Builtin.append_ #[t, t] ty #[v, .slice A k c]).run P w = .ok v' w' ∧ w'.ownsRow base e size v' (n + k) (xs ++ news) ∧ w.grownBy w' v.ownBlock ∧ (v'.ownBlock = v.ownBlock ∨ v'.ownBlock = some w.heap.size) := by
  cases A with
  | none =>
    have h0 : news = [] := by
      rcases Nat.eq_zero_or_pos news.length with h0 | h0
      · exact List.eq_nil_of_length_eq_zero h0
      · obtain ⟨a, e, _⟩ := hr h0
        cases e
    subst h0
    have hk : k = 0 := by
      rcases Nat.eq_zero_or_pos k with h | h
      · exact h
      · have := Nat.mul_pos h hsz
        rw [← hl] at this
        simp at this
    subst hk
    refine ⟨v, w, ?_, by simpa using hown, World.grownBy.refl w _, .inl rfl⟩
    rcases hown.2 with ⟨rfl, rfl⟩ | ⟨g, cap, cur, rfl, _, _, hnc, _⟩
    · simp [Builtin.append_, run_underlying ht, sizeOf, typeInfo, hi, Builtin.lenOf, Builtin.firstCells]
    · simp [Builtin.append_, run_underlying ht, sizeOf, typeInfo, hi, Builtin.lenOf, Builtin.firstCells, hnc, storeCells]
  | some a =>
    have hcells : ∀ j u, news[j]? = some u → w.cell? (a.add j) = some u := fun j u hu => by
      have hlt := (List.getElem?_eq_some_iff.1 hu).1
      obtain ⟨a', e, hc⟩ := hr (by omega)
      cases e
      exact hc j u hu
    obtain ⟨v', w', hrun, h2, h3, _, h5⟩ := run_append_own_at (P := P) w base t ty e i z size bytes ht hi hz hsize hby hzs hsz v n xs hown a k c news hl hcells h1 h63 hbytes hbase
    exact ⟨v', w', hrun, h2, h3, h5⟩
theorem wpList_append_row {w : World} {ops : Array Oper} {rest : List Oper} {o : Oper} {a : Act} {Q : Exit → Act → World → Prop} (hgd : o.guard = none) (s x : Operand) (t : TypeId)
    (ho : o.op = .call { callee := .builtin .append, args := #[s, x], argTypes := #[t, t] })
    (base : Nat) (e : TypeId) (i : TypeInfo) (z : Value) (size bytes : Nat) (ht : P.underlying t = some (.slice e)) (hi : P.info? e = some i) (hz : i.zero = some z) (hsize : i.size = size) (hby : i.bytes = bytes) (hzs : z.cells.size = size) (hsz : 0 < size)
    (v : Value) (n : Nat) (xs : List Value) (hs : a.eval s = v) (hown : w.ownsRow base e size v n xs) (A : Option Addr) (k c : Nat) (news : List Value) (hx : a.eval x = .slice A k c) (hl : news.length = k * size) (hr : 0 < news.length → ∃ a, A = some a ∧ ∀ j u, news[j]? = some u → w.cell? (a.add j) = some u) (h1 : ∀ u ∈ news, u.oneCell' = true)
    (h63 : n + k ≤ maxLen) (hbytes : (n + k) * bytes ≤ 140737488355328) (hbase : base ≤ w.heap.size)
    (h : ∀ v' w', w'.ownsRow base e size v' (n + k) (xs ++ news) → w.grownBy w' v.ownBlock → (v'.ownBlock = v.ownBlock ∨ v'.ownBlock = some w.heap.size) → wpList P ops Q rest (a.put o.dst v') w') : wpList P ops Q (o :: rest) a w := by
  refine wpList_plain hgd fun K hK => ?_
  obtain ⟨v', w', hrun, h2, h3, h4⟩ := run_append_row (P := P) w base t o.type e i z size bytes ht hi hz hsize hby hzs hsz v n xs hown A k c news hl hr h1 h63 hbytes hbase
  unfold Oper.wp execOp
  simp only [ho, resolve, invoke, builtin, Sem.run_bind, Sem.run_pure, Result.andThen_ok, List.map_toArray, List.map_cons, List.map_nil, hs, hx, hrun]
  exact hK _ _ (h v' w' h2 h3 h4)
end
end Go.Proofs.Yteaibgnelnblnaa
end
section
namespace Go.Proofs.Yteaibgnelnblnaa.Mg
open Ed

/-- The pair of vertices is below another edge's. -/
def pairB (z x : EdD) : Bool := decide (x.src < z.src) || (decide (x.src = z.src) && decide (x.dst < z.dst))
end Go.Proofs.Yteaibgnelnblnaa.Mg
end
section
namespace Go.Proofs.Yteaibgnelnblnaa.Rn

theorem bl_cons (a b : UInt8) (x y : List UInt8) : Op.bytesLess (a :: x) (b :: y) = true ↔ a.toNat < b.toNat ∨ (a = b ∧ Op.bytesLess x y = true) := by
  rw [Op.bytesLess, Bool.or_eq_true, Bool.and_eq_true, decide_eq_true_eq, beq_iff_eq, UInt8.lt_iff_toNat_lt]
theorem bl_nil (x : List UInt8) : Op.bytesLess x [] = false := by cases x <;> rfl
theorem bl_irrefl : ∀ x : List UInt8, Op.bytesLess x x = false
  | [] => rfl
  | a :: x => by
    rw [← Bool.not_eq_true, bl_cons, bl_irrefl x]
    simp
theorem bl_trans : ∀ {x y z : List UInt8}, Op.bytesLess x y = true → Op.bytesLess y z = true → Op.bytesLess x z = true
  | _, _, [], _, h => by rw [bl_nil] at h; cases h
  | _, [], _ :: _, h, _ => by rw [bl_nil] at h; cases h
  | [], _ :: _, _ :: _, _, _ => rfl
  | a :: x, b :: y, c :: z, h, k => by
    rw [bl_cons] at h k ⊢
    rcases h with h | ⟨rfl, h⟩
    · rcases k with k | ⟨rfl, k⟩
      · exact .inl (by omega)
      · exact .inl h
    · rcases k with k | ⟨rfl, k⟩
      · exact .inl k
      · exact .inr ⟨rfl, bl_trans h k⟩
theorem bl_total : ∀ x y : List UInt8, Op.bytesLess x y = true ∨ x = y ∨ Op.bytesLess y x = true
  | [], [] => .inr (.inl rfl)
  | [], _ :: _ => .inl rfl
  | _ :: _, [] => .inr (.inr rfl)
  | a :: x, b :: y => by
    rw [bl_cons, bl_cons]
    rcases Nat.lt_trichotomy a.toNat b.toNat with h | h | h
    · exact .inl (.inl h)
    · have e : a = b := UInt8.toNat.inj h
      subst e
      rcases bl_total x y with h | h | h
      · exact .inl (.inr ⟨rfl, h⟩)
      · exact .inr (.inl (by rw [h]))
      · exact .inr (.inr (.inr ⟨rfl, h⟩))
    · exact .inr (.inr (.inl h))
/-- Not above. -/
def leB (x y : List UInt8) : Prop := Op.bytesLess y x = false
theorem leB_refl (x : List UInt8) : leB x x := bl_irrefl x
theorem leB_of {x y : List UInt8} (h : Op.bytesLess x y = true) : leB x y := by
  unfold leB
  cases q : Op.bytesLess y x with
  | false => rfl
  | true => have := bl_trans h q; rw [bl_irrefl] at this; cases this
theorem leB_iff {x y : List UInt8} : leB x y ↔ Op.bytesLess x y = true ∨ x = y := by
  refine ⟨fun h => ?_, fun h => ?_⟩
  · rcases bl_total x y with q | q | q
    · exact .inl q
    · exact .inr q
    · unfold leB at h; rw [h] at q; cases q
  · rcases h with h | rfl
    · exact leB_of h
    · exact leB_refl x
theorem leB_trans {x y z : List UInt8} (h : leB x y) (k : leB y z) : leB x z := by
  rw [leB_iff] at h k ⊢
  rcases h with h | rfl
  · rcases k with k | rfl
    · exact .inl (bl_trans h k)
    · exact .inl h
  · exact k
theorem leB_anti {x y : List UInt8} (h : leB x y) (k : leB y x) : x = y := by
  rcases leB_iff.1 h with q | q
  · unfold leB at k; rw [k] at q; cases q
  · exact q
/-- Texts that rise. -/
def Rises (l : List (List UInt8)) : Prop := l.Pairwise leB
/-- A text among those that rise, behind those that are not above it. -/
def insL (x : List UInt8) : List (List UInt8) → List (List UInt8)
  | [] => [x]
  | y :: l => if Op.bytesLess x y then x :: y :: l else y :: insL x l
def sortL (l : List (List UInt8)) : List (List UInt8) := l.foldl (fun out x => insL x out) []
theorem insL_perm (x : List UInt8) : ∀ l : List (List UInt8), (insL x l).Perm (x :: l)
  | [] => List.Perm.refl _
  | y :: l => by
    rw [insL]
    split
    · exact List.Perm.refl _
    · exact ((insL_perm x l).cons y).trans (List.Perm.swap x y l)
theorem insL_rises {x : List UInt8} : ∀ {l : List (List UInt8)}, Rises l → Rises (insL x l)
  | [], _ => List.pairwise_singleton _ _
  | y :: l, h => by
    have hp := List.pairwise_cons.1 h
    rw [insL]
    cases q : Op.bytesLess x y with
    | true =>
      rw [if_pos rfl]
      refine List.pairwise_cons.2 ⟨fun z hz => ?_, h⟩
      rcases List.mem_cons.1 hz with rfl | hz
      · exact leB_of q
      · exact leB_trans (leB_of q) (hp.1 z hz)
    | false =>
      rw [if_neg (by simp)]
      refine List.pairwise_cons.2 ⟨fun z hz => ?_, insL_rises hp.2⟩
      rcases List.mem_cons.1 ((insL_perm x l).mem_iff.1 hz) with rfl | hz
      · exact q
      · exact hp.1 z hz
theorem sortL_perm (l : List (List UInt8)) : (sortL l).Perm l := by
  have key : ∀ (l acc : List (List UInt8)), (l.foldl (fun out x => insL x out) acc).Perm (acc ++ l) := fun l => by
    induction l with
    | nil => exact fun acc => by rw [List.append_nil]; exact List.Perm.refl _
    | cons x l ih =>
      intro acc
      refine (ih _).trans (((insL_perm x acc).append_right l).trans ?_)
      exact (List.perm_middle (a := x) (l₁ := acc) (l₂ := l)).symm
  exact key l []
theorem sortL_rises (l : List (List UInt8)) : Rises (sortL l) := by
  have key : ∀ (l acc : List (List UInt8)), Rises acc → Rises (l.foldl (fun out x => insL x out) acc) := fun l => by
    induction l with
    | nil => exact fun _ h => h
    | cons x l ih => exact fun acc h => ih _ (insL_rises h)
  exact key l [] List.Pairwise.nil
/-- Rising texts are told by which they are, and how often. -/
theorem rises_one : ∀ {l m : List (List UInt8)}, Rises l → Rises m → l.Perm m → l = m
  | [], m, _, _, h => (List.nil_perm.1 h).symm
  | a :: l, [], _, _, h => by have := h.length_eq; simp at this
  | a :: l, b :: m, hl, hm, h => by
    have pl := List.pairwise_cons.1 hl
    have pm := List.pairwise_cons.1 hm
    have e : a = b := by
      rcases List.mem_cons.1 (h.mem_iff.1 (List.mem_cons_self)) with e | h1
      · exact e
      · rcases List.mem_cons.1 (h.mem_iff.2 (List.mem_cons_self)) with e | h2
        · exact e.symm
        · exact leB_anti (pl.1 b h2) (pm.1 a h1)
    subst e
    rw [rises_one pl.2 pm.2 ((List.perm_cons a).1 h)]
theorem sortL_one {l m : List (List UInt8)} (hm : Rises m) (h : m.Perm l) : sortL l = m := rises_one (sortL_rises l) hm ((sortL_perm l).trans h.symm)
end Go.Proofs.Yteaibgnelnblnaa.Rn
end
section
namespace Go.Proofs.Yteaibgnelnblnaa.Hp

variable {α : Type} [Inhabited α]
/-- The element at k. -/
def at' (l : List α) (k : Nat) : α := l.getD k default
theorem at_of {l : List α} {k : Nat} {a : α} (h : l[k]? = some a) : at' l k = a := by unfold at'; rw [List.getD_eq_getElem?_getD, h]; rfl
theorem at_lt {l : List α} {k : Nat} (h : k < l.length) : l[k]? = some (at' l k) := by unfold at'; rw [List.getD_eq_getElem?_getD, List.getElem?_eq_getElem h]; rfl
/-- Two that change their places. -/
def swp (l : List α) (i j : Nat) : List α := (l.set i (at' l j)).set j (at' l i)
theorem swp_length (l : List α) (i j : Nat) : (swp l i j).length = l.length := by simp [swp]
theorem at_set {l : List α} {i k : Nat} {a : α} (hi : i < l.length) : at' (l.set i a) k = if k = i then a else at' l k := by
  unfold at'
  rw [List.getD_eq_getElem?_getD, List.getElem?_set, List.getD_eq_getElem?_getD]
  by_cases h : i = k
  · subst h; simp [hi]
  · simp [h, Ne.symm h]
theorem at_swp {l : List α} {i j k : Nat} (hi : i < l.length) (hj : j < l.length) : at' (swp l i j) k = if k = j then at' l i else if k = i then at' l j else at' l k := by
  unfold swp
  rw [at_set (by simpa using hj), at_set hi]
theorem perm_set : ∀ {l : List α} {i : Nat} (b : α), i < l.length → (at' l i :: l.set i b).Perm (b :: l)
  | [], i, b, h => by simp at h
  | x :: l, 0, b, _ => List.Perm.swap b x l
  | x :: l, i + 1, b, h => by
    have ih := perm_set (l := l) (i := i) b (by simpa using h)
    have e : at' (x :: l) (i + 1) = at' l i := rfl
    rw [e, List.set_cons_succ]
    exact (List.Perm.swap x (at' l i) _).trans ((ih.cons x).trans (List.Perm.swap b x l))
theorem swp_perm {l : List α} {i j : Nat} (hi : i < l.length) (hj : j < l.length) : (swp l i j).Perm l := by
  have h1 := perm_set (l := l) (i := i) (at' l j) hi
  have h2 := perm_set (l := l.set i (at' l j)) (i := j) (at' l i) (by simpa using hj)
  have e : at' (l.set i (at' l j)) j = at' l j := by
    rw [at_set hi]
    by_cases h : j = i
    · rw [if_pos h]
    · rw [if_neg h]
  rw [e] at h2
  exact (List.perm_cons (at' l j)).1 (h2.trans h1)

/-- Going down from i, among the first n. -/
def down (lt : α → α → Bool) : Nat → List α → Nat → Nat → List α × Nat
  | 0, l, i, _ => (l, i)
  | f + 1, l, i, n =>
    if n ≤ 2 * i + 1 then (l, i)
    else
      let j := if decide (2 * i + 2 < n) && lt (at' l (2 * i + 2)) (at' l (2 * i + 1)) then 2 * i + 2 else 2 * i + 1
      if lt (at' l j) (at' l i) then down lt f (swp l i j) j n else (l, i)
/-- Going up from j. -/
def up (lt : α → α → Bool) : Nat → List α → Nat → List α
  | 0, l, _ => l
  | f + 1, l, j => if j = 0 then l else if lt (at' l j) (at' l ((j - 1) / 2)) then up lt f (swp l j ((j - 1) / 2)) ((j - 1) / 2) else l

/-- An order: total, and of classes. -/
structure Ord (lt : α → α → Bool) : Prop where
  asym : ∀ a b, lt a b = true → lt b a = false
  tr : ∀ a b c, lt b a = false → lt c b = false → lt c a = false
omit [Inhabited α] in
theorem Ord.refl {lt : α → α → Bool} (h : Ord lt) (a : α) : lt a a = false := by
  cases q : lt a a with
  | false => rfl
  | true => have := h.asym a a q; rw [q] at this; exact this
/-- No child stands below its parent, of the parents from i0 on, among the first n. -/
def Heap (lt : α → α → Bool) (l : List α) (i0 n : Nat) : Prop := ∀ k, 0 < k → k < n → i0 ≤ (k - 1) / 2 → lt (at' l k) (at' l ((k - 1) / 2)) = false
/-- .. but for the hole at i. -/
structure Hole (lt : α → α → Bool) (l : List α) (i0 n i : Nat) : Prop where
  a : ∀ k, 0 < k → k < n → i0 ≤ (k - 1) / 2 → (k - 1) / 2 ≠ i → lt (at' l k) (at' l ((k - 1) / 2)) = false
  b : ∀ k, 0 < k → k < n → (k - 1) / 2 = i → 0 < i → i0 ≤ (i - 1) / 2 → lt (at' l k) (at' l ((i - 1) / 2)) = false
theorem down_length (lt : α → α → Bool) : ∀ (f : Nat) (l : List α) (i n : Nat), (down lt f l i n).1.length = l.length
  | 0, _, _, _ => rfl
  | f + 1, l, i, n => by
    rw [down]
    split
    · rfl
    · obtain ⟨j, hj⟩ : ∃ j, j = (if decide (2 * i + 2 < n) && lt (at' l (2 * i + 2)) (at' l (2 * i + 1)) then 2 * i + 2 else 2 * i + 1) := ⟨_, rfl⟩
      simp only
      rw [← hj]
      split
      · rw [down_length lt f, swp_length]
      · rfl
theorem down_perm (lt : α → α → Bool) : ∀ (f : Nat) (l : List α) (i n : Nat), i < n → n ≤ l.length → (down lt f l i n).1.Perm l
  | 0, _, _, _, _, _ => List.Perm.refl _
  | f + 1, l, i, n, hi, hn => by
    rw [down]
    split
    · exact List.Perm.refl _
    · rename_i h1
      obtain ⟨j, hj⟩ : ∃ j, j = (if decide (2 * i + 2 < n) && lt (at' l (2 * i + 2)) (at' l (2 * i + 1)) then 2 * i + 2 else 2 * i + 1) := ⟨_, rfl⟩
      simp only
      rw [← hj]
      have hjn : j < n := by
        rw [hj]
        split
        · rename_i h2
          simp only [Bool.and_eq_true, decide_eq_true_eq] at h2
          exact h2.1
        · omega
      split
      · exact (down_perm lt f _ j n hjn (by rw [swp_length]; exact hn)).trans (swp_perm (by omega) (by omega))
      · exact List.Perm.refl _
/-- What stands behind the first n stays. -/
theorem down_rest (lt : α → α → Bool) : ∀ (f : Nat) (l : List α) (i n k : Nat), i < n → n ≤ l.length → n ≤ k → at' (down lt f l i n).1 k = at' l k
  | 0, _, _, _, _, _, _, _ => rfl
  | f + 1, l, i, n, k, hi, hn, hk => by
    rw [down]
    split
    · rfl
    · rename_i h1
      obtain ⟨j, hj⟩ : ∃ j, j = (if decide (2 * i + 2 < n) && lt (at' l (2 * i + 2)) (at' l (2 * i + 1)) then 2 * i + 2 else 2 * i + 1) := ⟨_, rfl⟩
      simp only
      rw [← hj]
      have hjn : j < n := by
        rw [hj]
        split
        · rename_i h2
          simp only [Bool.and_eq_true, decide_eq_true_eq] at h2
          exact h2.1
        · omega
      split
      · rw [down_rest lt f _ j n k hjn (by rw [swp_length]; exact hn) hk, at_swp (by omega) (by omega), if_neg (by omega), if_neg (by omega)]
      · rfl
/-- **Going down mends the hole.** -/
theorem down_heap {lt : α → α → Bool} (ho : Ord lt) : ∀ (f : Nat) (l : List α) (i i0 n : Nat), n ≤ l.length → n ≤ i + f → i0 ≤ i → i < n → Hole lt l i0 n i → Heap lt (down lt f l i n).1 i0 n
  | 0, l, i, i0, n, hn, hf, h0, hi, h => by omega
  | f + 1, l, i, i0, n, hn, hf, h0, hi, h => by
    rw [down]
    by_cases h1 : n ≤ 2 * i + 1
    · rw [if_pos h1]
      intro k hk hkn hp
      exact h.a k hk hkn hp (by omega)
    · rw [if_neg h1]
      obtain ⟨j, hj⟩ : ∃ j, j = (if decide (2 * i + 2 < n) && lt (at' l (2 * i + 2)) (at' l (2 * i + 1)) then 2 * i + 2 else 2 * i + 1) := ⟨_, rfl⟩
      simp only
      rw [← hj]
      -- j is a child of i, not above the other one
      have hjc : (j = 2 * i + 1 ∨ j = 2 * i + 2) ∧ j < n ∧ ∀ k, 0 < k → k < n → (k - 1) / 2 = i → lt (at' l k) (at' l j) = false := by
        rw [hj]
        by_cases h2 : decide (2 * i + 2 < n) && lt (at' l (2 * i + 2)) (at' l (2 * i + 1))
        · rw [if_pos h2]
          simp only [Bool.and_eq_true, decide_eq_true_eq] at h2
          refine ⟨.inr rfl, h2.1, fun k hk hkn hp => ?_⟩
          obtain rfl | rfl : k = 2 * i + 1 ∨ k = 2 * i + 2 := by omega
          · exact ho.asym _ _ h2.2
          · exact ho.refl _
        · rw [if_neg h2]
          refine ⟨.inl rfl, by omega, fun k hk hkn hp => ?_⟩
          obtain rfl | rfl : k = 2 * i + 1 ∨ k = 2 * i + 2 := by omega
          · exact ho.refl _
          · cases q : lt (at' l (2 * i + 2)) (at' l (2 * i + 1)) with
            | false => rfl
            | true => exact absurd (by simp [q]; omega) h2
      obtain ⟨hjd, hjn, hmin⟩ := hjc
      have hpj : (j - 1) / 2 = i := by omega
      by_cases h3 : lt (at' l j) (at' l i) = true
      · rw [if_pos h3]
        have hil : i < l.length := by omega
        have hjl : j < l.length := by omega
        refine down_heap ho f (swp l i j) j i0 n (by rw [swp_length]; exact hn) (by omega) (by omega) hjn ⟨fun k hk hkn hp hpj2 => ?_, fun k hk hkn hp hj0 hjp => ?_⟩
        · rw [at_swp hil hjl, at_swp hil hjl]
          by_cases hkj : k = j
          · subst hkj
            rw [if_pos rfl, if_neg (by omega), if_pos hpj]
            exact ho.asym _ _ h3
          · rw [if_neg hkj, if_neg hpj2]
            by_cases hki : k = i
            · subst hki
              rw [if_pos rfl, if_neg (by omega)]
              exact h.b j (by omega) hjn hpj hk hp
            · rw [if_neg hki]
              by_cases hpi : (k - 1) / 2 = i
              · rw [if_pos hpi]
                exact hmin k hk hkn hpi
              · rw [if_neg hpi]
                exact h.a k hk hkn hp hpi
        · rw [hpj, at_swp hil hjl, at_swp hil hjl, if_neg (by omega), if_neg (by omega), if_neg (by omega), if_pos rfl]
          have := h.a k hk hkn (by omega) (by omega)
          rw [hp] at this
          exact this
      · rw [if_neg h3]
        intro k hk hkn hp
        by_cases hpi : (k - 1) / 2 = i
        · rw [hpi]
          exact ho.tr _ _ _ (by cases q : lt (at' l j) (at' l i) with | false => rfl | true => exact absurd q h3) (hmin k hk hkn hpi)
        · exact h.a k hk hkn hp hpi
/-- The root stands above none. -/
theorem root_least {lt : α → α → Bool} (ho : Ord lt) {l : List α} {n : Nat} (h : Heap lt l 0 n) : ∀ k, k < n → lt (at' l k) (at' l 0) = false := by
  intro k
  induction k using Nat.strongRecOn with
  | _ k ih =>
    intro hk
    by_cases h0 : k = 0
    · subst h0; exact ho.refl _
    · exact ho.tr _ _ _ (ih ((k - 1) / 2) (by omega) (by omega)) (h k (by omega) hk (Nat.zero_le _))
/-- A row that is made a heap, from the last parent on. -/
def init (lt : α → α → Bool) (f : Nat) : Nat → List α → Nat → List α
  | 0, l, _ => l
  | i + 1, l, n => init lt f i (down lt f l i n).1 n
theorem heap_high (lt : α → α → Bool) (l : List α) (n : Nat) : Heap lt l (n / 2) n := fun k _ hkn hp => by omega
theorem hole_of {lt : α → α → Bool} {l : List α} {i n : Nat} (h : Heap lt l (i + 1) n) : Hole lt l i n i :=
  ⟨fun k hk hkn hp hpi => h k hk hkn (by omega), fun k hk hkn hp h0 hi => by omega⟩
theorem init_length (lt : α → α → Bool) (f : Nat) : ∀ (i : Nat) (l : List α) (n : Nat), (init lt f i l n).length = l.length
  | 0, _, _ => rfl
  | i + 1, l, n => by rw [init, init_length lt f i, down_length]
theorem init_perm (lt : α → α → Bool) (f : Nat) : ∀ (i : Nat) (l : List α) (n : Nat), i ≤ n → n ≤ l.length → (init lt f i l n).Perm l
  | 0, _, _, _, _ => List.Perm.refl _
  | i + 1, l, n, hi, hn => by
    rw [init]
    exact (init_perm lt f i _ n (by omega) (by rw [down_length]; exact hn)).trans (down_perm lt f l i n (by omega) hn)
theorem init_heap {lt : α → α → Bool} (ho : Ord lt) (f : Nat) : ∀ (i : Nat) (l : List α) (n : Nat), i ≤ n → n ≤ l.length → n ≤ f → Heap lt l i n → Heap lt (init lt f i l n) 0 n
  | 0, _, _, _, _, _, h => h
  | i + 1, l, n, hi, hn, hf, h => by
    rw [init]
    exact init_heap ho f i _ n (by omega) (by rw [down_length]; exact hn) hf (down_heap ho f l i i n hn (by omega) (Nat.le_refl _) (by omega) (hole_of h))

/-- A heap but for the one at j, which may stand below its parent. -/
structure High (lt : α → α → Bool) (l : List α) (n j : Nat) : Prop where
  a : ∀ k, 0 < k → k < n → k ≠ j → lt (at' l k) (at' l ((k - 1) / 2)) = false
  b : ∀ k, 0 < k → k < n → (k - 1) / 2 = j → 0 < j → lt (at' l k) (at' l ((j - 1) / 2)) = false
/-- The root and the last one changed, the others put right. -/
theorem pop_heap {lt : α → α → Bool} (ho : Ord lt) {l : List α} {n : Nat} (hn : n + 1 ≤ l.length) (h0 : 0 < n) (h : Heap lt l 0 (n + 1)) (f : Nat) (hf : n ≤ f) : Heap lt (down lt f (swp l 0 n) 0 n).1 0 n := by
  refine down_heap ho f _ 0 0 n (by rw [swp_length]; omega) (by omega) (Nat.le_refl _) h0 ⟨fun k hk hkn _ hp => ?_, fun k hk hkn hp hi => by omega⟩
  rw [at_swp (by omega) (by omega), at_swp (by omega) (by omega), if_neg (by omega), if_neg (by omega), if_neg (by omega), if_neg hp]
  exact h k hk (by omega) (Nat.zero_le _)
end Go.Proofs.Yteaibgnelnblnaa.Hp
end
section
namespace Go.Proofs.Yteaibgnelnblnaa.Mw
open Rn Hp

/-- Which run goes ahead: the one of the lesser first record. -/
def ltS (a b : List (List UInt8)) : Bool := Op.bytesLess (a.headD []) (b.headD [])
theorem ltS_ord : Ord ltS where
  asym a b h := leB_of h
  tr a b c h k := leB_trans (x := a.headD []) (y := b.headD []) (z := c.headD []) h k
theorem perm_flatten {l m : List (List (List UInt8))} (h : l.Perm m) : l.flatten.Perm m.flatten := by
  induction h with
  | nil => exact List.Perm.refl _
  | cons x _ ih => simp only [List.flatten_cons]; exact ih.append_left x
  | swap x y l =>
    simp only [List.flatten_cons, ← List.append_assoc]
    exact List.Perm.append_right _ List.perm_append_comm
  | trans _ _ ih1 ih2 => exact ih1.trans ih2
/-- What stands between two records that are given: out is given, H is left. -/
structure Mrg (out : List (List UInt8)) (H : List (List (List UInt8))) : Prop where
  ne : ∀ s ∈ H, s ≠ []
  so : ∀ s ∈ H, Rises s
  hp : Heap ltS H 0 H.length
  ro : Rises out
  le : ∀ o ∈ out, ∀ s ∈ H, ∀ x ∈ s, leB o x
theorem mem_at {α : Type} [Inhabited α] {l : List α} {x : α} (h : x ∈ l) : ∃ k, k < l.length ∧ at' l k = x := by
  obtain ⟨k, hk, e⟩ := List.getElem_of_mem h
  exact ⟨k, hk, at_of (by rw [List.getElem?_eq_getElem hk, e])⟩
theorem head_le {s : List (List UInt8)} (h : Rises s) {x : List UInt8} (hx : x ∈ s) : leB (s.headD []) x := by
  cases s with
  | nil => simp at hx
  | cons r t =>
    rcases List.mem_cons.1 hx with rfl | hx
    · exact leB_refl _
    · exact (List.pairwise_cons.1 h).1 x hx
/-- The root's first record is above none that is left. -/
theorem Mrg.root {out : List (List UInt8)} {H : List (List (List UInt8))} (h : Mrg out H) {s : List (List UInt8)} (hs : s ∈ H) {x : List UInt8} (hx : x ∈ s) : leB ((at' H 0).headD []) x := by
  obtain ⟨k, hk, rfl⟩ := mem_at hs
  exact leB_trans (show leB ((at' H 0).headD []) ((at' H k).headD []) from root_least ltS_ord h.hp k hk) (head_le (h.so _ hs) hx)
theorem rises_snoc {out : List (List UInt8)} {r : List UInt8} (h : Rises out) (hr : ∀ o ∈ out, leB o r) : Rises (out ++ [r]) := by
  refine List.pairwise_append.2 ⟨h, List.pairwise_singleton _ _, fun o ho x hx => ?_⟩
  rw [List.mem_singleton.1 hx]
  exact hr o ho
/-- Nothing is left: what was given are all records, rising. -/
theorem Mrg.done {out all : List (List UInt8)} (h : Mrg out []) (hp : (out ++ ([] : List (List (List UInt8))).flatten).Perm all) : out = sortL all := by
  simp only [List.flatten_nil, List.append_nil] at hp
  exact (sortL_one h.ro hp).symm
/-- Runs that are made a heap. -/
theorem Mrg.start {H : List (List (List UInt8))} (hne : ∀ s ∈ H, s ≠ []) (hso : ∀ s ∈ H, Rises s) {f : Nat} (hf : H.length ≤ f) : Mrg [] (init ltS f (H.length / 2) H H.length) ∧ (init ltS f (H.length / 2) H H.length).flatten.Perm H.flatten := by
  have hp := init_perm ltS f (H.length / 2) H H.length (by omega) (Nat.le_refl _)
  refine ⟨⟨fun s hs => hne s (hp.mem_iff.1 hs), fun s hs => hso s (hp.mem_iff.1 hs), ?_, List.Pairwise.nil, fun o ho => by simp at ho⟩, perm_flatten hp⟩
  rw [init_length]
  exact init_heap ltS_ord f _ H _ (by omega) (Nat.le_refl _) hf (heap_high ltS H _)
/-- The first ones that are given are the first ones of all, rising. -/
theorem Mrg.front {out all : List (List UInt8)} {H : List (List (List UInt8))} (h : Mrg out H) (hp : (out ++ H.flatten).Perm all) : out = (sortL all).take out.length := by
  have h1 : sortL all = out ++ sortL H.flatten := by
    refine sortL_one ?_ ((List.Perm.append_left out (sortL_perm _)).trans hp)
    refine List.pairwise_append.2 ⟨h.ro, sortL_rises _, fun o ho x hx => ?_⟩
    obtain ⟨s, hs, hxs⟩ := List.mem_flatten.1 ((sortL_perm _).mem_iff.1 hx)
    exact h.le o ho s hs x hxs
  rw [h1]
  exact List.take_left.symm
end Go.Proofs.Yteaibgnelnblnaa.Mw
end
section
namespace Go.Proofs.Yteaibgnelnblnaa.Mw
open Rn Hp

/-- The run that was taken out, beside those that are left. -/
structure Cur (out : List (List UInt8)) (l : List (List UInt8)) (H : List (List (List UInt8))) : Prop where
  m : Mrg out H
  ne : l ≠ []
  so : Rises l
  le : ∀ o ∈ out, ∀ x ∈ l, leB o x
/-- Is the next record the run's own? -/
def nextB (l : List (List UInt8)) (H : List (List (List UInt8))) : Bool := H.isEmpty || !Op.bytesLess ((at' H 0).headD []) (l.headD [])
theorem nextB_le {out l : List (List UInt8)} {H : List (List (List UInt8))} (h : Mrg out H) (hn : nextB l H = true) : ∀ s ∈ H, ∀ x ∈ s, leB (l.headD []) x := by
  intro s hs x hx
  have hne : H ≠ [] := fun e => by rw [e] at hs; cases hs
  have h1 : leB (l.headD []) ((at' H 0).headD []) := by
    unfold nextB at hn
    cases H with
    | nil => exact absurd rfl hne
    | cons a b => simpa [leB] using hn
  exact leB_trans h1 (h.root hs hx)
/-- The foremost run is taken out. -/
theorem Mrg.take {out : List (List UInt8)} {H : List (List (List UInt8))} (h : Mrg out H) {n : Nat} (hn : H.length = n + 1) {f : Nat} (hf : n ≤ f) {E : List (List (List UInt8))} (hE : E = (down ltS f (swp H 0 n) 0 n).1) :
    E.length = n + 1 ∧ E = E.take n ++ [at' E n] ∧ Cur out (at' E n) (E.take n) ∧ nextB (at' E n) (E.take n) = true ∧ (at' E n ++ (E.take n).flatten).Perm H.flatten := by
  have hEl : E.length = n + 1 := by rw [hE, down_length, swp_length, hn]
  have hp1 : E.Perm H := by
    rw [hE]
    by_cases h0 : n = 0
    · subst h0
      have : (down ltS f (swp H 0 0) 0 0).1 = swp H 0 0 := by cases f <;> simp [down]
      rw [this]
      exact swp_perm (by omega) (by omega)
    · exact (down_perm ltS f _ 0 n (by omega) (by rw [swp_length]; omega)).trans (swp_perm (by omega) (by omega))
  have hlast : at' E n = at' H 0 := by
    rw [hE]
    by_cases h0 : n = 0
    · subst h0
      have : (down ltS f (swp H 0 0) 0 0).1 = swp H 0 0 := by cases f <;> simp [down]
      rw [this, at_swp (by omega) (by omega), if_pos rfl]
    · rw [down_rest ltS f _ 0 n n (by omega) (by rw [swp_length]; omega) (Nat.le_refl _), at_swp (by omega) (by omega), if_pos rfl]
  have hsplit : E = E.take n ++ [at' E n] := by
    have h1 : E.take (n + 1) = E := List.take_of_length_le (by omega)
    rw [List.take_add_one, at_lt (by omega)] at h1
    exact h1.symm
  obtain ⟨D, hD⟩ : ∃ D, D = E.take n := ⟨_, rfl⟩
  obtain ⟨l, hl⟩ : ∃ l, l = at' E n := ⟨_, rfl⟩
  rw [← hD, ← hl] at hsplit ⊢
  have hlm : l ∈ H := hp1.mem_iff.1 (by rw [hsplit]; simp)
  have hmem : ∀ s ∈ D, s ∈ H := fun s hs => hp1.mem_iff.1 (by rw [hsplit]; simp [hs])
  have hDl : D.length = n := by rw [hD, List.length_take]; omega
  have hheap : Heap ltS D 0 D.length := by
    rw [hDl]
    by_cases h0 : n = 0
    · intro k _ hk; omega
    · have hh : Heap ltS E 0 n := by rw [hE]; exact pop_heap ltS_ord (by omega) (by omega) (by rw [← hn]; exact h.hp) f hf
      have e : ∀ i, i < n → at' D i = at' E i := fun i hi => by
        have h2 : at' (D ++ [l]) i = at' D i := by
          unfold at'
          rw [List.getD_eq_getElem?_getD, List.getD_eq_getElem?_getD, List.getElem?_append_left (by omega)]
        rw [← h2, ← hsplit]
      intro k hk hkn _
      rw [e k hkn, e _ (by omega)]
      exact hh k hk hkn (Nat.zero_le _)
  refine ⟨hEl, hsplit, ⟨⟨fun s hs => h.ne s (hmem s hs), fun s hs => h.so s (hmem s hs), hheap, h.ro, fun o ho s hs => h.le o ho s (hmem s hs)⟩, h.ne l hlm, h.so l hlm, fun o ho x hx => h.le o ho l hlm x hx⟩, ?_, ?_⟩
  · unfold nextB
    cases hD2 : D with
    | nil => rfl
    | cons a b =>
      have ha : a ∈ H := hmem a (by rw [hD2]; simp)
      have hane := h.ne a ha
      have : leB (l.headD []) (a.headD []) := by
        rw [hl, hlast]
        exact h.root ha (by cases a with | nil => exact absurd rfl hane | cons r t => simp)
      simpa [leB, at'] using this
  · have h2 := perm_flatten hp1
    rw [hsplit, List.flatten_append] at h2
    simp only [List.flatten_cons, List.flatten_nil, List.append_nil] at h2
    exact List.perm_append_comm.trans h2
/-- The run's first record is given. -/
theorem Cur.step {out t : List (List UInt8)} {r : List UInt8} {H : List (List (List UInt8))} (h : Cur out (r :: t) H) (hn : nextB (r :: t) H = true) :
    Mrg (out ++ [r]) H ∧ (t ≠ [] → Cur (out ++ [r]) t H) := by
  have hle := nextB_le h.m hn
  have hrt := List.pairwise_cons.1 h.so
  have hm : Mrg (out ++ [r]) H := ⟨h.m.ne, h.m.so, h.m.hp, rises_snoc h.m.ro fun o ho => h.le o ho r (by simp), fun o ho s hs x hx => by
    rcases List.mem_append.1 ho with ho | ho
    · exact h.m.le o ho s hs x hx
    · rw [List.mem_singleton.1 ho]; exact hle s hs x hx⟩
  refine ⟨hm, fun ht => ⟨hm, ht, hrt.2, fun o ho x hx => ?_⟩⟩
  rcases List.mem_append.1 ho with ho | ho
  · exact h.le o ho x (by simp [hx])
  · rw [List.mem_singleton.1 ho]; exact hrt.1 x hx
/-- What is given so far stands in front of all. -/
theorem Cur.front {out l all : List (List UInt8)} {H : List (List (List UInt8))} (h : Cur out l H) (hp : (out ++ (l ++ H.flatten)).Perm all) : ∃ post, sortL all = out ++ post ∧ post.Perm (l ++ H.flatten) := by
  refine ⟨sortL (l ++ H.flatten), sortL_one ?_ ((List.Perm.append_left out (sortL_perm _)).trans hp), sortL_perm _⟩
  refine List.pairwise_append.2 ⟨h.m.ro, sortL_rises _, fun o ho x hx => ?_⟩
  rcases List.mem_append.1 ((sortL_perm _).mem_iff.1 hx) with hx | hx
  · exact h.le o ho x hx
  · obtain ⟨s, hs, hxs⟩ := List.mem_flatten.1 hx
    exact h.m.le o ho s hs x hxs
end Go.Proofs.Yteaibgnelnblnaa.Mw
end
section
namespace Go.Proofs.Yteaibgnelnblnaa.Rn

instance decLeB (x y : List UInt8) : Decidable (leB x y) := inferInstanceAs (Decidable (Op.bytesLess y x = false))
instance decRises (l : List (List UInt8)) : Decidable (Rises l) := inferInstanceAs (Decidable (l.Pairwise leB))
theorem leB_nil (x : List UInt8) : leB [] x := bl_nil x
/-- All have this width. -/
def Wid (w : Nat) (l : List (List UInt8)) : Prop := ∀ r ∈ l, r.length = w
instance decWid (w : Nat) (l : List (List UInt8)) : Decidable (Wid w l) := inferInstanceAs (Decidable (∀ r ∈ l, r.length = w))
/-- Records of this width, rising. -/
def fitR (w : Nat) (l : List (List UInt8)) : Bool := decide (Wid w l) && decide (Rises l)
/-- The last one. -/
def lastR (l : List (List UInt8)) : List UInt8 := l.getLast?.getD []
theorem lastR_snoc (l : List (List UInt8)) (x : List UInt8) : lastR (l ++ [x]) = x := by simp [lastR]
theorem lastR_mem {l : List (List UInt8)} (h : l ≠ []) : lastR l ∈ l := by
  unfold lastR
  rw [List.getLast?_eq_some_getLast h]
  exact List.getLast_mem h
theorem rises_last {l : List (List UInt8)} (h : Rises l) : ∀ o ∈ l, leB o (lastR l) := by
  intro o ho
  rcases List.eq_nil_or_concat l with rfl | ⟨m, x, rfl⟩
  · cases ho
  · rw [List.concat_eq_append] at *
    rw [lastR_snoc]
    rcases List.mem_append.1 ho with ho | ho
    · exact (List.pairwise_append.1 h).2.2 o ho x (by simp)
    · rw [List.mem_singleton.1 ho]; exact leB_refl _
theorem rises_more {l : List (List UInt8)} {x : List UInt8} : Rises (l ++ [x]) ↔ Rises l ∧ leB (lastR l) x := by
  refine ⟨fun h => ?_, fun ⟨h, k⟩ => ?_⟩
  · have hp := List.pairwise_append.1 h
    refine ⟨hp.1, ?_⟩
    by_cases hl : l = []
    · subst hl; exact leB_nil x
    · exact hp.2.2 _ (lastR_mem hl) x (by simp)
  · refine List.pairwise_append.2 ⟨h, List.pairwise_singleton _ _, fun o ho y hy => ?_⟩
    rw [List.mem_singleton.1 hy]
    exact leB_trans (rises_last h o ho) k
/-- How many pieces of w bytes. -/
def pcs (w n : Nat) : Nat := (n + w - 1) / w
/-- Bytes in pieces. -/
def pieces (w : Nat) (b : List UInt8) : List (List UInt8) := (List.range (pcs w b.length)).map fun k => (b.drop (w * k)).take w
/-- How bytes are compared. -/
def cmpB (a b : List UInt8) : Int := if Op.bytesLess a b then -1 else if Op.bytesLess b a then 1 else 0
theorem cmpB_neg {a b : List UInt8} : cmpB a b < 0 ↔ Op.bytesLess a b = true := by
  unfold cmpB
  cases h : Op.bytesLess a b <;> cases k : Op.bytesLess b a <;> simp
end Go.Proofs.Yteaibgnelnblnaa.Rn
end
section
namespace Go.Proofs.Yteaibgnelnblnaa.Ed
open Tx

/-- What a word's number is at most, and at least. -/
def moN (i : Nat) : Nat := if i < 2 then 4294967295 else 2147483647
def leN (i : Nat) : Nat := if i < 2 then 0 else 1
/-- A word's number, or its error. -/
def fldS (i : Nat) (w : List UInt8) : Nat × Int :=
  if (numS w (moN i)).2 ≠ 0 then (0, (numS w (moN i)).2) else if (numS w (moN i)).1 < leN i then (0, 9) else ((numS w (moN i)).1, 0)
/-- The numbers of words, or the first error. -/
def parsS : Nat → List (List UInt8) → List Nat → List Nat × Int
  | _, [], n => (n, 0)
  | i, w :: r, n => if (fldS i w).2 ≠ 0 then ([0, 0, 0], (fldS i w).2) else parsS (i + 1) r (n.set i (fldS i w).1)
end Go.Proofs.Yteaibgnelnblnaa.Ed
end
