/- Texts put together: Bas, Mem, Law, Cel0, Grow, Tail, Phase, Foot, Store, Rowm. -/
import Derived.Test.YtcmnbeodejphkaaRows
import Derived.WalkKit
import Derived.ProofKit
import Derived.Lib.SmallJoins
import Derived.Below
import Derived.Laws.OwnMore
import Derived.Deep.AppendLies
import Derived.Deep.Draws
import Derived.Maps.AppendAt
import Derived.RegionTactic
import Derived.OwnWalk
import Derived.Laws.BytesArg
import Derived.WalkSpells
import Derived.Lib.Hide
import Derived.Lib.SliceRun
import Derived.WalkLawsBesides
import Derived.Deep.Slices
import Derived.Deep.Fields
import Derived.ChangeSame
import Derived.Laws.BitsAllLaws
import Derived.Orders
import Derived.BigFrame
import Derived.Deep.MidRow
import Derived.Laws.CopyOwn
import Derived.Laws.MakeOwn
import Derived.Laws.IdiomStrings
/-! Closed facts of this program that every law asks. -/
namespace Go.Proofs.Ytcmnbeodejphkaa
open Go.RowKit

theorem ret_int {k : IntKind} {a b : Int} (h : a = b) : Ending.returned (.int k a) = .returned (.int k b) := by rw [h]
theorem own : ownKnob Try.prog.godebug = none := by kernel_rfl
theorem laidOut : laidOutB Try.prog = true := by kernel_rfl
end Go.Proofs.Ytcmnbeodejphkaa

/-! Bytes in memory: a slice that reads as a list of bytes, nil and empty ones too. -/
namespace Go.Proofs.Ytcmnbeodejphkaa.Me
open Go.RowKit

theorem block_add (a : Addr) (n : Nat) : (a.add n).block = a.block := by unfold Addr.add; split <;> rfl
theorem add_add (a : Addr) (i j : Nat) : (a.add i).add j = a.add (i + j) := by
  unfold Addr.add
  by_cases hi : i = 0 <;> by_cases hj : j = 0 <;> simp [hi, hj, Nat.add_assoc]

/-- The cells of bytes. -/
def cellsOf (l : List UInt8) : List Value := l.map fun u => Value.int .u8 (u.toNat : Int)
theorem cellsOf_length (l : List UInt8) : (cellsOf l).length = l.length := by simp [cellsOf]
theorem cellsOf_append (l m : List UInt8) : cellsOf (l ++ m) = cellsOf l ++ cellsOf m := by simp [cellsOf]
theorem cellsOf_get {l : List UInt8} {i : Nat} {u : UInt8} (h : l[i]? = some u) : (cellsOf l)[i]? = some (.int .u8 (u.toNat : Int)) := by simp [cellsOf, h]
theorem cellsOf_one (l : List UInt8) : ∀ v ∈ cellsOf l, v.oneCell' = true := by
  intro v hv
  simp only [cellsOf, List.mem_map] at hv
  obtain ⟨u, -, rfl⟩ := hv
  rfl

/-- The slice at A of so many bytes reads as l, in blocks below B. -/
def Rd (w : World) (B : Nat) (A : Option Addr) (l : List UInt8) : Prop :=
  0 < l.length → ∃ a, A = some a ∧ a.block < B ∧ ∀ i u, l[i]? = some u → w.cell? (a.add i) = some (.int .u8 (u.toNat : Int))

section
variable {w w' : World} {B B' : Nat} {A : Option Addr} {l : List UInt8}
theorem Rd.empty : Rd w B A [] := fun h => by simp at h
theorem take_snoc {l : List UInt8} {k : Nat} {u : UInt8} (h : l[k]? = some u) : l.take (k + 1) = l.take k ++ [u] := by
  rw [List.take_add_one, h]; rfl
theorem Rd.at {k : Nat} (h : Rd w B A l) (hk : k < l.length) : ∃ a u, A = some a ∧ a.block < B ∧ l[k]? = some u ∧ w.cell? (a.add k) = some (.int .u8 (u.toNat : Int)) := by
  obtain ⟨a, e, hb, hc⟩ := h (by omega)
  exact ⟨a, l[k], e, hb, List.getElem?_eq_getElem hk, hc k _ (List.getElem?_eq_getElem hk)⟩
theorem Rd.keep (h : Rd w B A l) (hk : ∀ p : Addr, p.block < B → w'.cell? p = w.cell? p) : Rd w' B A l := fun hn => by
  obtain ⟨a, e, hb, hc⟩ := h hn
  exact ⟨a, e, hb, fun j u hu => (hk _ (by rw [block_add]; exact hb)).trans (hc j u hu)⟩
theorem Rd.more (h : Rd w B A l) (hB : B ≤ B') : Rd w B' A l := fun hn => by
  obtain ⟨a, e, hb, hc⟩ := h hn
  exact ⟨a, e, by omega, hc⟩
theorem Rd.below (h : Rd w B A l) (hb : Below B w w') : Rd w' B A l := h.keep fun _ hp => hb.cell hp
theorem Rd.drew (h : Rd w B A l) : Rd w.drew B A l := h
theorem Rd.drewN (h : Rd w B A l) (k : Nat) : Rd (w.drewN k) B A l := h
theorem Rd.alloc (h : Rd w B A l) (hB : B ≤ w.heap.size) (o : Obj) : Rd (w.alloc o) B A l := h.keep fun p hp => World.cell?_alloc_lt w o p (by omega)
theorem Rd.setCell (h : Rd w B A l) {p : Addr} (hB : B ≤ p.block) (u : Value) : Rd (w.setCell p u) B A l :=
  h.keep fun q hq => World.cell?_setCell_other w p q u (fun e => by subst e; omega)
theorem Rd.grown (h : Rd w B A l) {row : Option Nat} (hg : w.grownBy w' row) (hB : B ≤ w.heap.size) (hr : ∀ g, row = some g → B ≤ g) : Rd w' B A l :=
  h.keep fun p hp => World.cell?_of_block (hg.block p.block (by omega) (fun e => by have := hr _ e.symm; omega))
theorem Rd.take (h : Rd w B A l) (k : Nat) : Rd w B A (l.take k) := fun hn => by
  obtain ⟨a, e, hb, hc⟩ := h (by simp at hn; omega)
  refine ⟨a, e, hb, fun i u hu => hc i u ?_⟩
  rw [List.getElem?_take] at hu
  split at hu
  · exact hu
  · cases hu
theorem Rd.drop (h : Rd w B A l) {k cap : Nat} (hc : l.length ≤ cap) : Rd w B (if cap = k then A else A.map (·.add k)) (l.drop k) := fun hn => by
  obtain ⟨a, rfl, hb, hcell⟩ := h (by simp at hn; omega)
  rw [if_neg (by simp at hn; omega)]
  refine ⟨a.add k, rfl, by rw [block_add]; exact hb, fun j u hu => ?_⟩
  rw [add_add]
  exact hcell _ u (by rw [← hu, List.getElem?_drop])
theorem Rd.of_own {base : Nat} {e : TypeId} {c : Nat} {n : Nat} (h : w.ownsRow base e 1 (.slice A n c) n (cellsOf l)) : Rd w w.heap.size A l := fun hn => by
  have hl := h.1
  rw [cellsOf_length] at hl
  obtain ⟨g, cap, hv, _, hlt⟩ := h.form (by omega)
  have hA : A = some ⟨g, 0, none⟩ := by injection hv
  subst hA
  exact ⟨_, rfl, hlt, fun i u hu => h.cells (g := g) rfl i _ (cellsOf_get hu)⟩
theorem Rd.of_block {g : Nat} {cur : Array Value} {t : TypeId} {fr : Nat × Nat} (hh : w.heap[g]? = some (.cells cur t fr)) (hc : ∀ (i : Nat) (u : UInt8), l[i]? = some u → cur[i]? = some (Value.int .u8 (u.toNat : Int))) : Rd w w.heap.size (some ⟨g, 0, none⟩) l := fun _ => by
  refine ⟨_, rfl, (Array.getElem?_eq_some_iff.1 hh).1, fun i u hu => ?_⟩
  have e : (⟨g, 0, none⟩ : Addr).add i = ⟨g, i, none⟩ := by unfold Addr.add; split <;> simp_all
  rw [e]
  simp only [World.cell?, hh]
  simpa using hc i u hu
end

section
variable {P : Program}
/-- Bytes read as a string. -/
theorem run_str (src e dst : TypeId) (hs : P.underlying src = some (.slice e)) (he : P.underlying e = some (.int .u8)) (hd : P.underlying dst = some .string) (w : World) (B : Nat) (A : Option Addr) (l : List UInt8) (n c : Nat)
    (hn : l.length = n) (h : Rd w B A l) : (convert src dst (.slice A n c)).run P w = .ok (.string ⟨l.toArray⟩) w := by
  rw [run_convert_bytes_string w src dst e A n c hs he hd]
  subst hn
  cases A with
  | none =>
    have h0 : l = [] := by
      rcases Nat.eq_zero_or_pos l.length with h0 | h0
      · exact List.eq_nil_of_length_eq_zero h0
      · obtain ⟨a, e, _⟩ := h h0
        cases e
    subst h0
    have := run_convert_bytes_string (P := P) w src dst e none 0 c hs he hd
    simp [Conv.bytesToString]
    rfl
  | some a =>
    have hload : (loadCells a l.length).run P w = .ok ((l.map fun u => (u.toNat : Int)).map (Value.int .u8)).toArray w := by
      have := run_loadCells_list (P := P) w a (cellsOf l) (fun j v hv => by
        simp only [cellsOf, List.getElem?_map] at hv
        cases hj : l[j]? with
        | none => simp [hj] at hv
        | some u =>
          simp [hj] at hv
          subst hv
          have hlt : j < l.length := (List.getElem?_eq_some_iff.1 hj).1
          obtain ⟨a', e, _, hc⟩ := h (by omega)
          cases e
          exact hc j u hj)
      rw [cellsOf_length] at this
      rw [this]
      simp [cellsOf, Function.comp_def]
    rw [run_bytesToString w a l.length c _ hload, foldl_push_bytes]
    congr 2
    simp [Function.comp_def]
end

section
variable {P : Program}
/-- Bytes appended to a row of one's own, whatever the source. -/
theorem run_app (w : World) (base : Nat) (t ty e : TypeId) (i : TypeInfo) (z : Value) (ht : P.underlying t = some (.slice e)) (hi : P.info? e = some i) (hz : i.zero = some z) (hsize : i.size = 1) (hby : i.bytes = 1) (hzs : z.cells.size = 1)
    (v : Value) (n : Nat) (l : List UInt8) (hown : w.ownsRow base e 1 v n (cellsOf l)) (B : Nat) (A : Option Addr) (k c : Nat) (m : List UInt8) (hm : m.length = k) (hr : Rd w B A m) (hbytes : n + k ≤ 140737488355328) (hbase : base ≤ w.heap.size) :
    ∃ v' w', (Builtin.append_ #[t, t] ty #[v, .slice A k c]).run P w = .ok v' w' ∧ w'.ownsRow base e 1 v' (n + k) (cellsOf (l ++ m)) ∧ w.grownBy w' v.ownBlock ∧ (v'.ownBlock = v.ownBlock ∨ v'.ownBlock = some w.heap.size) := by
  cases A with
  | none =>
    have h0 : m = [] := by
      rcases Nat.eq_zero_or_pos m.length with h0 | h0
      · exact List.eq_nil_of_length_eq_zero h0
      · obtain ⟨a, e, _⟩ := hr h0
        cases e
    subst h0
    subst hm
    refine ⟨v, w, ?_, by simpa using hown, World.grownBy.refl w _, .inl rfl⟩
    rcases hown.2 with ⟨rfl, rfl⟩ | ⟨g, cap, cur, rfl, _, _, hnc, _⟩
    · simp [Builtin.append_, run_underlying ht, sizeOf, typeInfo, hi, Builtin.lenOf, Builtin.firstCells]
    · simp [Builtin.append_, run_underlying ht, sizeOf, typeInfo, hi, Builtin.lenOf, Builtin.firstCells, hnc, storeCells]
  | some a =>
    have hcells : ∀ j u, (cellsOf m)[j]? = some u → w.cell? (a.add j) = some u := fun j u hu => by
      simp only [cellsOf, List.getElem?_map] at hu
      cases hj : m[j]? with
      | none => simp [hj] at hu
      | some x =>
        simp [hj] at hu
        subst hu
        have hlt : j < m.length := (List.getElem?_eq_some_iff.1 hj).1
        obtain ⟨a', e, _, hc⟩ := hr (by omega)
        cases e
        exact hc j x hj
    obtain ⟨v', w', hrun, h2, h3, _, h5⟩ := run_append_own_at (P := P) w base t ty e i z 1 1 ht hi hz hsize hby hzs (by omega) v n (cellsOf l) hown a k c (cellsOf m) (by rw [cellsOf_length]; omega) hcells (cellsOf_one m) (by unfold maxLen; omega) (by omega) hbase
    rw [← cellsOf_append] at h2
    exact ⟨v', w', hrun, h2, h3, h5⟩
theorem wpList_app {w : World} {ops : Array Oper} {rest : List Oper} {o : Oper} {a : Act} {Q : Exit → Act → World → Prop} (hgd : o.guard = none) (s x : Operand) (t : TypeId)
    (ho : o.op = .call { callee := .builtin .append, args := #[s, x], argTypes := #[t, t] })
    (base : Nat) (e : TypeId) (i : TypeInfo) (z : Value) (ht : P.underlying t = some (.slice e)) (hi : P.info? e = some i) (hz : i.zero = some z) (hsize : i.size = 1) (hby : i.bytes = 1) (hzs : z.cells.size = 1)
    (v : Value) (n : Nat) (l : List UInt8) (hs : a.eval s = v) (hown : w.ownsRow base e 1 v n (cellsOf l)) (B : Nat) (A : Option Addr) (k c : Nat) (m : List UInt8) (hx : a.eval x = .slice A k c) (hm : m.length = k) (hr : Rd w B A m)
    (hbytes : n + k ≤ 140737488355328) (hbase : base ≤ w.heap.size)
    (h : ∀ v' w', w'.ownsRow base e 1 v' (n + k) (cellsOf (l ++ m)) → w.grownBy w' v.ownBlock → (v'.ownBlock = v.ownBlock ∨ v'.ownBlock = some w.heap.size) → wpList P ops Q rest (a.put o.dst v') w') : wpList P ops Q (o :: rest) a w := by
  refine wpList_plain hgd fun K hK => ?_
  obtain ⟨v', w', hrun, h2, h3, h4⟩ := run_app (P := P) w base t o.type e i z ht hi hz hsize hby hzs v n l hown B A k c m hm hr hbytes hbase
  unfold Oper.wp execOp
  simp only [ho, resolve, invoke, builtin, Sem.run_bind, Sem.run_pure, Result.andThen_ok, List.map_toArray, List.map_cons, List.map_nil, hs, hx, hrun]
  exact hK _ _ (h v' w' h2 h3 h4)
/-- An empty row of one's own: []byte{}. -/
theorem own_empty (w : World) (base : Nat) (e : TypeId) (hb : base ≤ w.heap.size) : (w.alloc (.cells #[] e)).ownsRow base e 1 (.slice (some ⟨w.heap.size, 0, none⟩) 0 0) 0 (cellsOf []) :=
  World.ownsRow_lit w #[] 0 hb (by unfold maxLen; omega) rfl
/-- A row of bytes that was just written out. -/
theorem Rd.lit (w : World) (cs : Array Value) (t : TypeId) (l : List UInt8) (hc : cs.toList = cellsOf l) : Rd (w.alloc (.cells cs t)) (w.heap.size + 1) (some ⟨w.heap.size, 0, none⟩) l := by
  have hh := heap_alloc_new w (.cells cs t)
  have := Rd.of_block (l := l) hh (fun i u hu => by
    have := cellsOf_get hu
    rw [← hc] at this
    simpa using this)
  rwa [World.size_alloc] at this
theorem own_more {w : World} {base base' : Nat} {e : TypeId} {size : Nat} {v : Value} {n : Nat} {xs : List Value} (h : w.ownsRow base' e size v n xs) (hb : base ≤ base') : w.ownsRow base e size v n xs := by
  refine ⟨h.1, ?_⟩
  rcases h.2 with h0 | ⟨g, cap, cur, h1, h2, h3⟩
  · exact .inl h0
  · exact .inr ⟨g, cap, cur, h1, by omega, h3⟩
/-- What is owned is a slice. -/
theorem own_slice {w : World} {base : Nat} {e : TypeId} {v : Value} {n : Nat} {xs : List Value} (h : w.ownsRow base e 1 v n xs) : ∃ A c, v = .slice A n c := by
  rcases h.2 with ⟨rfl, rfl⟩ | ⟨g, cap, cur, rfl, _⟩
  · exact ⟨_, _, rfl⟩
  · exact ⟨_, _, rfl⟩
theorem own_cap {w : World} {base : Nat} {e : TypeId} {A : Option Addr} {n c : Nat} {xs : List Value} (h : w.ownsRow base e 1 (.slice A n c) n xs) (hn : 0 < n) : n ≤ c := by
  rcases h.2 with ⟨_, h0⟩ | ⟨g, cap, cur, h1, _, _, h2, _⟩
  · omega
  · injection h1 with _ _ h3; omega
/-- A row of one's own, behind what only makes memory. -/
theorem own_below {w w' : World} {base : Nat} {e : TypeId} {v : Value} {n : Nat} {xs : List Value} (h : w.ownsRow base e 1 v n xs) (hb : Below w.heap.size w w') : w'.ownsRow base e 1 v n xs :=
  h.kept (row := none) ⟨hb.os, hb.tape, hb.output, hb.size, fun k hk _ => hb.block k hk⟩ (by
    rcases h.2 with ⟨rfl, _⟩ | ⟨g, cap, cur, rfl, _⟩
    · exact .inl rfl
    · exact .inr (by simp [Value.ownBlock]))
/-- What is kept behind an append to a row of one's own. -/
theorem below_app {B : Nat} {a w w' : World} {v : Value} {base n : Nat} {e : TypeId} {xs : List Value} (h : Below B a w) (hown : w.ownsRow base e 1 v n xs) (hB : B ≤ base) (hs : B ≤ w.heap.size) (hg : w.grownBy w' v.ownBlock) : Below B a w' :=
  h.grown hg hs fun k hk => by have := (hown.lt k hk).1; omega
end
end Go.Proofs.Ytcmnbeodejphkaa.Me

/-! From a walk that returns true and leaves all memory that was there as it was, to the law's row. -/
namespace Go.Proofs.Ytcmnbeodejphkaa.Lw
open Go.ChangeShapes Go.WideShapes Go.ChangeAt Go.RowKit

section
variable {H : Type} {enc : TypeId × Value → H} {P : Program}
/-- Arguments read behind the call as they read before. -/
theorem trodAll_below (hl : laidOutB P = true) {W W' : World} (hb : Below W.heap.size W W') :
    ∀ {ts : List TypeId} {vs : List Value} {ds : List (DataW H)} {p : List MemPlace},
      (∀ t ∈ ts, P.readableRec t = true ∧ t < P.types.size) → (∀ x ∈ p, x.block < W.heap.size) →
      DataW.TrodAll enc P W 0 (fun _ => true) true ts vs ds p → DataW.TrodAll enc P W' 0 (fun b => decide (b < W.heap.size)) true ts vs ds p
  | [], _, _, _, _, _, h => by
    obtain ⟨rfl, rfl, rfl⟩ := trodAll_nil h
    exact trodAll_mk0
  | t :: ts, _, _, _, hr, hlt, h => by
    obtain ⟨v, vs1, d, ds1, a, b, rfl, rfl, rfl, h1, h2⟩ := trodAll_cons h
    exact trodAll_cons_mk (Below.trod hl (hr t (by simp)).1 (hr t (by simp)).2 h1 hb (fun x hx => hlt x (by simp [hx])))
      (trodAll_below hl hb (fun t' ht' => hr t' (by simp [ht'])) (fun x hx => hlt x (by simp [hx])) h2)

/-- Five parameters. -/
theorem trodAll_five {w : World} {base : Nat} {spare : Nat → Bool} {held : Bool} {t0 t1 t2 t3 t4 : TypeId} {args : Array Value} {ds : List (DataW H)} {ps : List MemPlace} (h : DataW.TrodAll enc P w base spare held [t0, t1, t2, t3, t4] args.toList ds ps) :
    ∃ v0 v1 v2 v3 v4 d0 d1 d2 d3 d4 p0 p1 p2 p3 p4, args = #[v0, v1, v2, v3, v4] ∧ ds = [d0, d1, d2, d3, d4] ∧ ps = p0 ++ p1 ++ p2 ++ p3 ++ p4 ∧ DataW.Trod enc P w base spare held t0 v0 d0 p0 ∧ DataW.Trod enc P w base spare held t1 v1 d1 p1 ∧ DataW.Trod enc P w base spare held t2 v2 d2 p2 ∧ DataW.Trod enc P w base spare held t3 v3 d3 p3 ∧ DataW.Trod enc P w base spare held t4 v4 d4 p4 := by
  obtain ⟨v0, x0, d0, y0, p0, q0, hargs, rfl, rfl, h0, r0⟩ := trodAll_cons h
  obtain ⟨v1, x1, d1, y1, p1, q1, rfl, rfl, rfl, h1, r1⟩ := trodAll_cons r0
  obtain ⟨v2, x2, d2, y2, p2, q2, rfl, rfl, rfl, h2, r2⟩ := trodAll_cons r1
  obtain ⟨v3, x3, d3, y3, p3, q3, rfl, rfl, rfl, h3, r3⟩ := trodAll_cons r2
  obtain ⟨v4, x4, d4, y4, p4, q4, rfl, rfl, rfl, h4, r4⟩ := trodAll_cons r3
  obtain ⟨rfl, rfl, rfl⟩ := trodAll_nil r4
  exact ⟨v0, v1, v2, v3, v4, d0, d1, d2, d3, d4, p0, p1, p2, p3, p4, by cases args; simp_all, rfl, by simp, h0, h1, h2, h3, h4⟩
/-- The parameters' types can be read. -/
def readsB (P : Program) (f : Func) : Bool := f.params.toList.all fun t => P.readableRec t && decide (t < P.types.size)

/-- What a law's row asks, out of a walk that returns true and writes nothing that was there. -/
theorem post_true {f : Func} {s : ChangeSpec} {fresh handsOn : Bool} {W W' : World} {args : Array Value} {ds gs : List (DataW H)} {before : List MemPlace} {bt : TypeId}
    (hl : laidOutB P = true) (hr : readsB P f = true) (hs : s.vars = []) (hf : (s.fn H ds).results = [.lit (.bool true)]) (ha : (s.fn H ds).args = ds) (hv : (s.fn H ds).vars = [])
    (hrt : f.resultTypes = #[bt]) (hbt : P.underlying bt = some .bool)
    (hW : DataW.Whole enc P f.params.toList s.vars false W args.toList ds gs before) (hb : Below W.heap.size W W') :
    s.post enc P f false fresh handsOn false W args (.bool true) W' := by
  have hlt : ∀ p ∈ before, p.block < W.heap.size := fun p hp => hW.lt p hp
  have hW' := hW
  obtain ⟨p, q, hA, hV, hpq, _, _⟩ := hW
  rw [hs] at hV
  obtain ⟨rfl, rfl⟩ := trodVars_none hV
  simp only [List.append_nil] at hpq
  subst hpq
  have hrr : ∀ t ∈ f.params.toList, P.readableRec t = true ∧ t < P.types.size := fun t ht => by
    have := List.all_eq_true.1 hr t ht
    simpa using this
  refine ⟨ds, [], before, [], before, [], hW', ?_, ?_, ?_, World.keptBut_mono (fun p hp => ⟨hp, ?_⟩) (hb.frame (· ∈ before)), fun h => by cases h⟩
  · rw [List.append_nil, hf, hrt]
    exact trodAll_mk1 (shut_bool hbt true)
  · rw [List.append_nil, ha]
    exact trodAll_below hl hb hrr hlt hA
  · rw [List.append_nil, hv, hs]
    exact rfl
  · exact Or.inr (Or.inl hp)
end
end Go.Proofs.Ytcmnbeodejphkaa.Lw

/-! Cells in memory, of whatever type: rows, blocks of two cells, what is one's own; through calls that make memory, and through writes elsewhere. -/
namespace Go.Proofs.Ytcmnbeodejphkaa
open Go.RowKit Me

/-- Cells in a row, at A, in a block below B. -/
def Cs (w : World) (B : Nat) (A : Option Addr) (vs : List Value) : Prop :=
  0 < vs.length → ∃ a, A = some a ∧ a.block < B ∧ ∀ i v, vs[i]? = some v → w.cell? (a.add i) = some v
section
variable {w w' : World} {B B' : Nat} {A : Option Addr} {vs : List Value}
theorem Cs.empty : Cs w B A [] := fun h => by simp at h
theorem Cs.keep (h : Cs w B A vs) (hk : ∀ p : Addr, p.block < B → w'.cell? p = w.cell? p) : Cs w' B A vs := fun hn => by
  obtain ⟨a, e, hb, hc⟩ := h hn
  exact ⟨a, e, hb, fun j u hu => (hk _ (by rw [block_add]; exact hb)).trans (hc j u hu)⟩
theorem Cs.more (h : Cs w B A vs) (hB : B ≤ B') : Cs w B' A vs := fun hn => by
  obtain ⟨a, e, hb, hc⟩ := h hn
  exact ⟨a, e, by omega, hc⟩
theorem Cs.below (h : Cs w B A vs) (hb : Below B w w') : Cs w' B A vs := h.keep fun _ hp => hb.cell hp
theorem Cs.of_own {base : Nat} {e : TypeId} {size c : Nat} {n : Nat} (h : w.ownsRow base e size (.slice A n c) n vs) : Cs w w.heap.size A vs := fun hn => by
  have hl := h.1
  have hn0 : 0 < n := by
    rcases Nat.eq_zero_or_pos n with e | e
    · subst e; simp at hl; subst hl; simp at hn
    · exact e
  obtain ⟨g, cap, hv, _, hlt⟩ := h.form hn0
  have hA : A = some ⟨g, 0, none⟩ := by injection hv
  subst hA
  exact ⟨_, rfl, hlt, fun i u hu => h.cells (g := g) rfl i _ hu⟩
end

theorem add_field (a : Addr) (j i : Nat) : a.add (j + (i + 1)) = ⟨(a.add j).block, (a.add j).off + (i + 1), none⟩ := by
  rw [← add_add]
  generalize a.add j = b
  unfold Addr.add
  rw [if_neg (by omega)]
theorem Cs.lit (w : World) (cs : Array Value) (t : TypeId) : Cs (w.alloc (.cells cs t)) (w.heap.size + 1) (some ⟨w.heap.size, 0, none⟩) cs.toList := fun _ => by
  have hh := heap_alloc_new w (.cells cs t)
  refine ⟨_, rfl, Nat.lt_succ_self _, fun i u hu => ?_⟩
  have e : (⟨w.heap.size, 0, none⟩ : Addr).add i = ⟨w.heap.size, i, none⟩ := by unfold Addr.add; split <;> simp_all
  rw [e]
  simp only [World.cell?, hh]
  simpa using hu
theorem grownBy_set (w : World) (p : Addr) (u : Value) : w.grownBy (w.setCell p u) (some p.block) :=
  ⟨rfl, rfl, rfl, by simp [World.setCell], fun k _ hne => Below.heap_setCell _ _ _ _ (fun e => hne (by rw [e]))⟩
theorem grown_alloc (w : World) (o : Obj) (row : Option Nat) : w.grownBy (w.alloc o) row :=
  ⟨rfl, rfl, rfl, by simp, fun k hk _ => Below.heap_alloc w o k hk⟩
theorem grown_below {w w' : World} (h : Below w.heap.size w w') (row : Option Nat) : w.grownBy w' row := ⟨h.os, h.tape, h.output, h.size, fun k hk _ => h.block k hk⟩
theorem grown_set {w w' : World} {row : Option Nat} (h : w.grownBy w' row) {p : Addr} (hp : w.heap.size ≤ p.block) (u : Value) : w.grownBy (w'.setCell p u) row :=
  h.andThen (grownBy_set w' p u) (fun j e => by injection e with e; exact .inl (by omega))
/-- A block of two cells. -/
theorem block_two {w : World} {b : Nat} {v v' : Value} {t : TypeId} (hh : w.heap[b]? = some (.cells #[v, v'] t)) :
    w.cell? ⟨b, 0, none⟩ = some v ∧ w.cell? ⟨b, 1, none⟩ = some v' ∧ w.frozen? ⟨b, 0, none⟩ = false ∧ w.frozen? ⟨b, 1, none⟩ = false := by
  refine ⟨?_, ?_, ?_, ?_⟩
  · simp only [World.cell?, hh]; rfl
  · simp only [World.cell?, hh]; rfl
  · unfold World.frozen?; rw [hh]; simp
  · unfold World.frozen?; rw [hh]; simp
/-- Both cells laid anew. -/
theorem cells_set {h : Nat} {w1 : World} {v v' a a' : Value} (q0 : w1.cell? ⟨h, 0, none⟩ = some a) (q1 : w1.cell? ⟨h, 1, none⟩ = some a') :
    ((w1.setCell ⟨h, 0, none⟩ v).setCell ⟨h, 1, none⟩ v').cell? ⟨h, 0, none⟩ = some v ∧ ((w1.setCell ⟨h, 0, none⟩ v).setCell ⟨h, 1, none⟩ v').cell? ⟨h, 1, none⟩ = some v' := by
  have hne : (⟨h, 0, none⟩ : Addr) ≠ ⟨h, 1, none⟩ := by simp
  have hne' : (⟨h, 1, none⟩ : Addr) ≠ ⟨h, 0, none⟩ := by simp
  have e1 : (w1.setCell ⟨h, 0, none⟩ v).cell? ⟨h, 1, none⟩ = some a' := by rw [World.cell?_setCell_other _ _ _ _ hne]; exact q1
  refine ⟨?_, World.cell?_setCell_same _ _ _ e1⟩
  rw [World.cell?_setCell_other _ _ _ _ hne', World.cell?_setCell_same _ _ _ q0]
/-- A row of one's own, behind a call that has written another block. -/
theorem own_past {w w' : World} {base g size : Nat} {e : TypeId} {v : Value} {n : Nat} {xs : List Value} (h : w.ownsRow base e size v n xs) (hg : w.grownBy w' (some g)) (hlt : g < base) : w'.ownsRow base e size v n xs := by
  refine h.kept hg ?_
  cases hv : v.ownBlock with
  | none => exact .inl rfl
  | some k =>
    right
    have := (World.ownsRow.lt h k hv).1
    simp
    omega
theorem below_past {w w' : World} {g B : Nat} (hg : w.grownBy w' (some g)) (hB : B ≤ g) (hs : B ≤ w.heap.size) : Below B w w' :=
  (Below.refl B w).grown hg hs fun k hk => by cases hk; exact hB
/-- What is owned is a slice, of whatever size the elements are. -/
theorem own_slice' {w : World} {base size : Nat} {e : TypeId} {v : Value} {n : Nat} {xs : List Value} (h : w.ownsRow base e size v n xs) : ∃ A c, v = .slice A n c ∧ n ≤ c := by
  rcases h.2 with ⟨rfl, rfl⟩ | ⟨g, cap, cur, rfl, -, -, hc, -⟩
  · exact ⟨_, _, rfl, Nat.le_refl _⟩
  · exact ⟨_, _, rfl, hc⟩
theorem own_below' {w w' : World} {base size : Nat} {e : TypeId} {v : Value} {n : Nat} {xs : List Value} (h : w.ownsRow base e size v n xs) (hb : Below w.heap.size w w') : w'.ownsRow base e size v n xs :=
  h.kept (row := none) ⟨hb.os, hb.tape, hb.output, hb.size, fun k hk _ => hb.block k hk⟩ (by
    rcases h.2 with ⟨rfl, _⟩ | ⟨g, cap, cur, rfl, _⟩
    · exact .inl rfl
    · exact .inr (by simp [Value.ownBlock]))
/-- Both cells of a block. -/
def Two (w : World) (b : Nat) (v v' : Value) : Prop :=
  w.cell? ⟨b, 0, none⟩ = some v ∧ w.cell? ⟨b, 1, none⟩ = some v' ∧ w.frozen? ⟨b, 0, none⟩ = false ∧ w.frozen? ⟨b, 1, none⟩ = false
section
variable {w w' : World} {b B : Nat} {v v' a a' : Value}
theorem Two.here (h : Two w b v v') : b < w.heap.size := block_lt_of_cell h.1
theorem Two.below (h : Two w b v v') (hb : Below B w w') (hlt : b < B) : Two w' b v v' :=
  ⟨(hb.cell (p := ⟨b, 0, none⟩) hlt).trans h.1, (hb.cell (p := ⟨b, 1, none⟩) hlt).trans h.2.1, (hb.frozen (p := ⟨b, 0, none⟩) hlt).trans h.2.2.1, (hb.frozen (p := ⟨b, 1, none⟩) hlt).trans h.2.2.2⟩
theorem Two.past (h : Two w b v v') (hb : Below w.heap.size w w') : Two w' b v v' := h.below hb h.here
theorem Two.grown {row : Option Nat} (h : Two w b v v') (hg : w.grownBy w' row) (hne : row ≠ some b) : Two w' b v v' :=
  have k := hg.block b h.here (fun e => hne e.symm)
  ⟨(World.cell?_of_block (a := ⟨b, 0, none⟩) k).trans h.1, (World.cell?_of_block (a := ⟨b, 1, none⟩) k).trans h.2.1, (World.frozen?_of_block (a := ⟨b, 0, none⟩) k).trans h.2.2.1, (World.frozen?_of_block (a := ⟨b, 1, none⟩) k).trans h.2.2.2⟩
theorem Two.alloc (h : Two w b v v') (o : Obj) : Two (w.alloc o) b v v' := h.past ((Below.refl _ _).alloc (Nat.le_refl _) o)
theorem Two.drew (h : Two w b v v') : Two w.drew b v v' := h.past (Below.refl _ _).drew
theorem Two.setOther (h : Two w b v v') {p : Addr} (hp : p.block ≠ b) (u : Value) : Two (w.setCell p u) b v v' :=
  h.grown (grownBy_set w p u) (by simpa using hp)
theorem Two.set (h : Two w b a a') (v v' : Value) : Two ((w.setCell ⟨b, 0, none⟩ v).setCell ⟨b, 1, none⟩ v') b v v' := by
  obtain ⟨g0, g1⟩ := cells_set (v := v) (v' := v') h.1 h.2.1
  exact ⟨g0, g1, by simpa using h.2.2.1, by simpa using h.2.2.2⟩
theorem Two.new (w : World) (v v' : Value) (t : TypeId) : Two (w.alloc (.cells #[v, v'] t)) w.heap.size v v' := block_two (heap_alloc_new w _)
theorem Two.new' {H : Nat} (w : World) (v v' : Value) (t : TypeId) (hH : w.heap.size = H) : Two (w.alloc (.cells #[v, v'] t)) H v v' := by subst hH; exact Two.new w v v' t
end
theorem rd_back {W w : World} {B : Nat} {A : Option Addr} {l : List UInt8} (h : Rd w B A l) (hb : Below B W w) : Rd W B A l := h.keep fun _ hp => (hb.cell hp).symm
theorem own_cap' {w : World} {base size : Nat} {e : TypeId} {A : Option Addr} {n c : Nat} {xs : List Value} (h : w.ownsRow base e size (.slice A n c) n xs) : n ≤ c := by
  obtain ⟨A', c', e, hc⟩ := own_slice' h
  injection e with _ _ e
  omega
theorem new_two (w : World) (v v' : Value) (t : TypeId) : (w.alloc (.cells #[v, v'] t)).cell? ⟨w.heap.size, 0, none⟩ = some v ∧ (w.alloc (.cells #[v, v'] t)).cell? ⟨w.heap.size, 1, none⟩ = some v' := by
  have hh := heap_alloc_new w (.cells #[v, v'] t)
  exact ⟨by simp only [World.cell?, hh]; rfl, by simp only [World.cell?, hh]; rfl⟩
/-- A cell of another block than the one that is written. -/
theorem cell_past {w w' : World} {row : Option Nat} (hg : w.grownBy w' row) {b o : Nat} (hb : b < w.heap.size) (hne : row ≠ some b) : w'.cell? ⟨b, o, none⟩ = w.cell? ⟨b, o, none⟩ :=
  World.cell?_of_block (a := ⟨b, o, none⟩) (hg.block b hb (fun e => hne e.symm))
/-- What is owned lies ahead of the next block. -/
theorem own_ne {w : World} {base n size : Nat} {e : TypeId} {v : Value} {xs : List Value} (h : w.ownsRow base e size v n xs) : v.ownBlock ≠ some w.heap.size := fun he => by
  have := (h.lt _ he).2
  omega
/-! A row of bytes of one's own that is written into. -/
theorem own_set {w : World} {base : Nat} {e : TypeId} {g n cap : Nat} {l : List UInt8} (h : w.ownsRow base e 1 (.slice (some ⟨g, 0, none⟩) n cap) n (cellsOf l)) (j : Nat) (x : UInt8) :
    (w.setCell ⟨g, j, none⟩ (.int .u8 (x.toNat : Int))).ownsRow base e 1 (.slice (some ⟨g, 0, none⟩) n cap) n (cellsOf (l.set j x)) ∧ w.grownBy (w.setCell ⟨g, j, none⟩ (.int .u8 (x.toNat : Int))) (some g) := by
  have := h.stored j (.int .u8 (x.toNat : Int))
  have e : cellsOf (l.set j x) = (cellsOf l).set j (.int .u8 (x.toNat : Int)) := by simp [cellsOf, List.map_set]
  rw [e]
  exact this
theorem own_at {w : World} {base : Nat} {e : TypeId} {g n cap : Nat} {l : List UInt8} (h : w.ownsRow base e 1 (.slice (some ⟨g, 0, none⟩) n cap) n (cellsOf l)) {j : Nat} (hj : j < n) :
    ∃ u, l[j]? = some u ∧ w.cell? ⟨g, j, none⟩ = some (.int .u8 (u.toNat : Int)) ∧ w.frozen? ⟨g, j, none⟩ = false := by
  have hl := h.1
  rw [cellsOf_length] at hl
  have hg : l[j]? = some l[j] := List.getElem?_eq_getElem (by omega)
  refine ⟨l[j], hg, ?_, h.frozenAt j⟩
  rw [h.cellAt j (by omega)]
  exact cellsOf_get hg
theorem xor_u8 (a b : UInt8) : bits .xor .u8 (a.toNat : Int) (b.toNat : Int) = ((a ^^^ b).toNat : Int) := by
  rw [u8_xor_nat _ _ a.toNat_lt b.toNat_lt, UInt8.toNat_xor]
theorem own_bounds {w : World} {base size : Nat} {e : TypeId} {A : Option Addr} {n c : Nat} {xs : List Value} (h : w.ownsRow base e size (.slice A n c) n xs) : n ≤ c ∧ c ≤ 9223372036854775807 := by
  rcases h.2 with ⟨e, e2⟩ | ⟨g, cap, cur, e, -, -, h1, h2, -⟩
  · injection e with e1 e2 e3; omega
  · injection e with e1 e2 e3
    subst e3
    unfold maxLen at h2
    omega
theorem made_zero (n : Nat) : (madeCells (Value.int .u8 0).cells (n * 1)).toList = cellsOf (List.replicate n 0) := by
  rw [Nat.mul_one]
  have e : (Value.int .u8 0).cells = #[Value.int .u8 0] := rfl
  rw [e]
  unfold madeCells cellsOf
  apply List.ext_getElem?
  intro i
  by_cases hi : i < n
  · simp [hi, Nat.mod_one]
  · simp [hi]
theorem rd_lit {w : World} {l : List UInt8} (cs : Array Value) (t : TypeId) (hc : cs.toList = cellsOf l) {H : Nat} (hH : w.heap.size = H) : Rd (w.alloc (.cells cs t)) (w.alloc (.cells cs t)).heap.size (some ⟨H, 0, none⟩) l := by
  subst hH
  exact (Rd.lit w cs t l hc).more (by simp)
/-- Bytes in a block of their own, behind a store into another one. -/
theorem rd_store {w4 : World} {H B : Nat} {Y : Option Addr} {bo : List UInt8} (hr : Rd w4 w4.heap.size Y bo) (hnw : 0 < bo.length → ∃ a, Y = some a ∧ B ≤ a.block) (hlt : H < B) (u v : Value) :
    Rd ((w4.setCell ⟨H, 0, none⟩ u).setCell ⟨H, 1, none⟩ v) ((w4.setCell ⟨H, 0, none⟩ u).setCell ⟨H, 1, none⟩ v).heap.size Y bo := by
  intro hn
  obtain ⟨g, e, hb, hc⟩ := hr hn
  obtain ⟨g', e', hg'⟩ := hnw hn
  rw [e] at e'
  injection e' with e'
  subst e'
  refine ⟨g, e, by simpa [World.setCell] using hb, fun i u hu => ?_⟩
  have hne : ∀ o, g.add i ≠ ⟨H, o, none⟩ := fun o h => by
    have h1 := congrArg Addr.block h
    rw [block_add] at h1
    have h2 : g.block = H := h1
    omega
  rw [World.cell?_setCell_other _ _ _ _ (hne 1).symm, World.cell?_setCell_other _ _ _ _ (hne 0).symm]
  exact hc i u hu
def sliceLen : Value → Nat
  | .slice _ n _ => n
  | _ => 0
theorem two_lit {w : World} {u v : Value} {T : TypeId} {H : Nat} (hH : w.heap.size = H) : ∀ (j : Nat) (x : Value), ([u, v] : List Value)[j]? = some x → (w.alloc (.cells #[u, v] T)).cell? ((⟨H, 0, none⟩ : Addr).add j) = some x := by
  intro j x hj
  subst hH
  obtain ⟨a, e, -, hc⟩ := Cs.lit w #[u, v] T (by simp)
  injection e with e
  subst e
  exact hc j x hj
end Go.Proofs.Ytcmnbeodejphkaa

/-! A region that draws its order, whose operations make memory at most: what is known of each operation's value, given what is known of those it looks at, is known behind the region, whatever the order. -/
namespace Go.Proofs.Ytcmnbeodejphkaa.Gw
open Go.RowKit

/-- Memory that was there is as it was. -/
def Grows (w w' : World) : Prop := Below w.heap.size w w'
theorem Grows.refl (w : World) : Grows w w := Below.refl _ _
theorem Grows.trans {a b c : World} (h : Grows a b) (k : Grows b c) : Grows a c := Below.trans h (Below.mono k h.size)

/-- What is known of a slot's value: a slot, the value, the world. -/
abbrev Fact := Tmp → Value → World → Prop
/-- Known from here on. -/
def Holds (G : Fact) (t : Tmp) (v : Value) (w : World) : Prop := ∀ W, Grows w W → G t v W
theorem Holds.grow {G : Fact} {t : Tmp} {v : Value} {w w' : World} (h : Holds G t v w) (hg : Grows w w') : Holds G t v w' := fun W hW => h W (hg.trans hW)
theorem Holds.now {G : Fact} {t : Tmp} {v : Value} {w : World} (h : Holds G t v w) : G t v w := h w (Grows.refl w)

/-- What is known of some slots. -/
def Knows (G : Fact) (a : Act) (w : World) : List Tmp → Prop
  | [] => True
  | t :: l => G t (a.tmps[t]?.getD undef) w ∧ Knows G a w l
/-- What is asked of an operation that is carried out: a value of which this is known, in a world that has grown. -/
def Ok (P : Program) (o : Oper) (a : Act) (w : World) (p : Value → World → Prop) : Prop :=
  match (execOp a.eval o).run P w with
  | .ok (.value v) w' => Grows w w' ∧ p v w'
  | .ok .skip w' => Grows w w' ∧ p undef w'
  | .ok (.enter f args) w' => Grows w w' ∧ Calls P f args w' fun e w'' => ∃ v, e = .returned v ∧ Grows w' w'' ∧ p v w''
  | _ => False
/-- What is to be known of an operation's own slot. -/
def Post (G : Fact) (dst : Option Tmp) (v : Value) (w : World) : Prop :=
  match dst with
  | some d => Holds G d v w
  | none => True
theorem Post.grow {G : Fact} {d : Option Tmp} {v : Value} {w w' : World} (h : Post G d v w) (hg : Grows w w') : Post G d v w' := by
  cases d with
  | none => trivial
  | some d => exact Holds.grow h hg
/-- An operation, its guard's slot. -/
def OpReq (P : Program) (G : Fact) (o : Oper) (g : Option (Tmp × Bool)) (a : Act) (w : World) : Prop :=
  match g with
  | none => Ok P o a w (Post G o.dst)
  | some (d, b) => (a.tmps[d]?.getD undef = .bool b ∧ Ok P o a w (Post G o.dst)) ∨ (a.tmps[d]?.getD undef = .bool (!b) ∧ Post G o.dst undef w)
/-- All operations, one behind the other; each with the slots that it looks at. -/
def Req (P : Program) (G : Fact) (w0 : World) : List Oper → List (List Tmp × Option (Tmp × Bool)) → Prop
  | [], [] => True
  | o :: os, m :: ms => (∀ a w, Grows w0 w → Knows G a w m.1 → OpReq P G o m.2 a w) ∧ Req P G w0 os ms
  | _, _ => False

/-- The slot of an operation's guard. -/
def guardOf (ops : Array Oper) (o : Oper) : Option (Tmp × Bool) :=
  match o.guard with
  | some (g, b) => ((ops[g]?).bind (·.dst)).map fun d => (d, b)
  | none => none
def metaOf (ops : Array Oper) : List (List Tmp × Option (Tmp × Bool)) := ops.toList.map fun o => (o.looksAt ops, guardOf ops o)
/-- The slots that the operations write. -/
def dstsOf (ops : Array Oper) : List Tmp := ops.toList.filterMap (·.dst)
/-- Each slot is written once, and whoever looks at it waits for that; an operation waits for those ahead of it alone; each guard has a slot. -/
def flowB (ops : Array Oper) (n : Nat) : Bool :=
  (List.range ops.size).all fun i =>
    match ops[i]? with
    | none => true
    | some o =>
      (o.after.all fun e => !Region.binds .any e || decide (e.on < i)) &&
      (match o.guard with | some (g, _) => ((ops[g]?).bind (·.dst)).isSome | none => true) &&
      (match o.dst with | some d => decide (d < n) | none => true) &&
      (List.range ops.size).all fun j =>
        match ops[j]? with
        | none => true
        | some q =>
          match q.dst with
          | none => true
          | some d => (!(o.looksAt ops).contains d || o.after.any fun e => Region.binds .any e && e.on == j) && (i == j || o.dst != some d)

section
variable {P : Program} {ops : Array Oper} {n : Nat}
theorem flow_at (h : flowB ops n = true) {i : Nat} {o : Oper} (hi : ops[i]? = some o) :
    (∀ e ∈ o.after, Region.binds .any e = true → e.on < i) ∧ (∀ g b, o.guard = some (g, b) → ∃ q d, ops[g]? = some q ∧ q.dst = some d) ∧ (∀ d, o.dst = some d → d < n) ∧
    (∀ (j : Nat) (q : Oper) (d : Tmp), ops[j]? = some q → q.dst = some d → (d ∈ o.looksAt ops → ∃ e ∈ o.after, Region.binds .any e = true ∧ e.on = j) ∧ (i ≠ j → o.dst ≠ some d)) := by
  have hlt : i < ops.size := (Array.getElem?_eq_some_iff.1 hi).1
  have h1 := List.all_eq_true.1 h i (List.mem_range.2 hlt)
  simp only [hi, Bool.and_eq_true] at h1
  obtain ⟨⟨⟨ha, hg⟩, hd⟩, hq⟩ := h1
  refine ⟨fun e he hb => ?_, fun g b hgb => ?_, fun d hdd => ?_, fun j q d hj hqd => ?_⟩
  · have := Array.all_eq_true_iff_forall_mem.1 ha e he
    simpa [hb] using this
  · rw [hgb] at hg
    simp only at hg
    cases hgo : ops[g]? with
    | none => simp [hgo] at hg
    | some q =>
      simp only [hgo, Option.bind_some] at hg
      cases hqd : q.dst with
      | none => simp [hqd] at hg
      | some d => exact ⟨q, d, rfl, hqd⟩
  · rw [hdd] at hd
    simpa using hd
  · have hjlt : j < ops.size := (Array.getElem?_eq_some_iff.1 hj).1
    have h2 := List.all_eq_true.1 hq j (List.mem_range.2 hjlt)
    simp only [hj, hqd, Bool.and_eq_true] at h2
    refine ⟨fun hm => ?_, fun hne he => ?_⟩
    · have h3 := h2.1
      have hc : (o.looksAt ops).contains d = true := by simpa using hm
      rw [hc] at h3
      rw [Bool.not_true, Bool.false_or, Array.any_eq_true] at h3
      obtain ⟨x, hx, h3⟩ := h3
      simp only [Bool.and_eq_true, beq_iff_eq] at h3
      exact ⟨o.after[x], Array.getElem_mem hx, h3.1, h3.2⟩
    · have h3 := h2.2
      simp [hne, he] at h3

theorem req_at {G : Fact} {w0 : World} : ∀ (os : List Oper) (ms : List (List Tmp × Option (Tmp × Bool))), Req P G w0 os ms → ∀ (i : Nat) (o : Oper), os[i]? = some o → ∃ m : List Tmp × Option (Tmp × Bool), ms[i]? = some m ∧ ∀ a w, Grows w0 w → Knows G a w m.1 → OpReq P G o m.2 a w
  | [], _, _, i, o, h => by simp at h
  | o :: os, [], hr, _, _, _ => hr.elim
  | o :: os, m :: ms, hr, 0, _, h => ⟨m, rfl, by simp at h; subst h; exact hr.1⟩
  | o :: os, m :: ms, hr, i + 1, o', h => by
    obtain ⟨m', h1, h2⟩ := req_at os ms hr.2 i o' (by simpa using h)
    exact ⟨m', by simpa using h1, h2⟩
theorem eval_slot (a : Act) (t : Tmp) : a.eval (.tmp t) = a.tmps[t]?.getD undef := Array.getD_eq_getD_getElem? ..
theorem knows_of {G : Fact} {a : Act} {w : World} : ∀ (l : List Tmp), (∀ t ∈ l, G t (a.eval (.tmp t)) w) → Knows G a w l
  | [], _ => trivial
  | t :: l, h => ⟨by rw [← eval_slot]; exact h t (by simp), knows_of l fun t' ht' => h t' (by simp [ht'])⟩

theorem eval_put_same {a : Act} {d : Tmp} {v : Value} (hd : d < a.tmps.size) : (a.put (some d) v).eval (.tmp d) = v := by
  simp [Act.eval, Act.put, hd]
theorem eval_put_other {a : Act} {d : Option Tmp} {t : Tmp} {v : Value} (hd : d ≠ some t) : (a.put d v).eval (.tmp t) = a.eval (.tmp t) :=
  Act.eval_put (fun d' hd' he => hd (by cases he; exact hd'))
theorem size_put (a : Act) (d : Option Tmp) (v : Value) : (a.put d v).tmps.size = a.tmps.size := by cases d <;> simp [Act.put]
theorem defers_put (a : Act) (d : Option Tmp) (v : Value) : (a.put d v).defers = a.defers := by cases d <;> rfl

theorem wanted_of {o : Oper} {a : Act} {d : Tmp} {b c : Bool} {g : Nat} (hg : o.guard = some (g, b)) (hd : (ops[g]?).bind (·.dst) = some d) (he : a.eval (.tmp d) = .bool c) : Region.wanted o (yielded ops a.tmps) = (c == b) := by
  unfold Region.wanted
  rw [hg]
  simp only
  unfold yielded
  rw [hd]
  have : a.tmps[d]? = some (.bool c) := by
    have h : a.tmps.getD d undef = .bool c := he
    rw [Array.getD_eq_getD_getElem?] at h
    cases hx : a.tmps[d]? with
    | none => rw [hx] at h; simp [undef] at h
    | some x => rw [hx] at h; simp at h; rw [h]
  simp only [Option.bind_some, this]
  cases c <;> cases b <;> rfl

/-- What holds while the operations come up. -/
structure Inv (ops : Array Oper) (G : Fact) (a0 : Act) (w0 : World) (listed : Array Bool) (a : Act) (w : World) : Prop where
  grows : Grows w0 w
  defers : a.defers = a0.defers
  size : a.tmps.size = a0.tmps.size
  facts : ∀ t, (∀ (j : Nat) (o : Oper), ops[j]? = some o → o.dst = some t → listed.getD j true = true) → Holds G t (a.eval (.tmp t)) w
  others : ∀ t, (∀ (j : Nat) (o : Oper), ops[j]? = some o → o.dst ≠ some t) → a.eval (.tmp t) = a0.eval (.tmp t)
  listedSize : listed.size = ops.size

theorem wp_of_ok {o : Oper} {a : Act} {w : World} {K : Act → World → Prop} {Q : Exit → Act → World → Prop} {p : Value → World → Prop} (h : Ok P o a w p) (hK : ∀ v w', Grows w w' → p v w' → K (a.put o.dst v) w') : o.wp P a w K Q := by
  unfold Ok at h
  unfold Oper.wp
  generalize (execOp a.eval o).run P w = r at *
  cases r with
  | ok nx w' =>
    cases nx with
    | value v => exact hK _ _ h.1 h.2
    | skip => exact hK _ _ h.1 h.2
    | enter f args => exact h.2.mono fun e w'' ⟨v, he, hg, hp⟩ => by subst he; exact hK _ _ (h.1.trans hg) hp
    | _ => exact h.elim
  | halt x w' => exact h.elim

theorem inv_put {G : Fact} {a0 : Act} {w0 : World} {listed : Array Bool} {a : Act} {w w' : World} {i : Nat} {o : Oper} {v : Value} (hB : flowB ops a0.tmps.size = true) (hi : ops[i]? = some o)
    (h : Inv ops G a0 w0 listed a w) (hg : Grows w w') (hp : Post G o.dst v w') : Inv ops G a0 w0 (listed.setIfInBounds i true) (a.put o.dst v) w' := by
  obtain ⟨-, -, hlt, hone⟩ := flow_at hB hi
  refine ⟨h.grows.trans hg, by rw [defers_put, h.defers], by rw [size_put, h.size], fun t ht => ?_, fun t ht => ?_, by simpa using h.listedSize⟩
  · by_cases hd : o.dst = some t
    · rw [hd] at hp ⊢
      rw [eval_put_same (by rw [h.size]; exact hlt t hd)]
      exact hp
    · rw [eval_put_other hd]
      refine (h.facts t fun j q hj hq => ?_).grow hg
      have hne : i ≠ j := fun e => by
        subst e
        rw [hi] at hj
        injection hj with hj
        subst hj
        exact hd hq
      have := ht j q hj hq
      rwa [getD_set_ne true hne] at this
  · rw [eval_put_other (ht i o hi)]
    exact h.others t ht

theorem count_set : ∀ (l : List Bool) (i : Nat), l[i]? = some false → (l.set i true).count false + 1 = l.count false
  | [], i, h => by simp at h
  | b :: l, 0, h => by simp at h; subst h; simp
  | b :: l, i + 1, h => by
    have := count_set l i (by simpa using h)
    simp only [List.set_cons_succ, List.count_cons]
    omega

theorem any_of_inv {G : Fact} {a0 : Act} {w0 : World} {Q : Exit → Act → World → Prop} (hB : flowB ops a0.tmps.size = true) (hreq : Req P G w0 ops.toList (metaOf ops))
    (hend : ∀ a w, (∀ listed : Array Bool, (∀ j, j < ops.size → listed.getD j true = true) → Inv ops G a0 w0 listed a w → Q .normal a w) ) :
    ∀ (fuel : Nat) (listed : Array Bool) (a : Act) (w : World), listed.toList.count false ≤ fuel → Inv ops G a0 w0 listed a w → wpAny P .any ops Q fuel listed a w := by
  have fin : ∀ (listed : Array Bool) (a : Act) (w : World), Inv ops G a0 w0 listed a w → Region.ready .any ops listed = [] → ∀ j, j < ops.size → listed.getD j true = true := fun listed a w h hr => by
    intro j
    induction j using Nat.strongRecOn with
    | _ j ih =>
      intro hj
      cases hl : listed.getD j true with
      | true => rfl
      | false =>
        exfalso
        have hjo : ops[j]? = some ops[j] := Array.getElem?_eq_getElem hj
        have : j ∈ Region.ready .any ops listed := mem_ready.2 ⟨hl, ops[j], hjo, fun e he hb => by
          have hlt := (flow_at hB hjo).1 e he hb
          have h1 := ih e.on hlt (by omega)
          have hb : e.on < listed.size := by rw [h.listedSize]; omega
          simpa [hb] using h1⟩
        rw [hr] at this
        cases this
  intro fuel
  induction fuel with
  | zero =>
    intro listed a w hc h
    have h0 : ∀ j, j < ops.size → listed.getD j true = true := fun j hj => by
      cases hl : listed.getD j true with
      | true => rfl
      | false =>
        exfalso
        have hb : j < listed.size := by rw [h.listedSize]; exact hj
        have : (false : Bool) ∈ listed.toList := by
          have e : listed[j] = false := by simpa [hb] using hl
          rw [← e]
          exact Array.getElem_mem_toList hb
        have := List.count_pos_iff.2 this
        omega
    refine ⟨?_, hend a w listed h0 h⟩
    cases hr : Region.ready .any ops listed with
    | nil => rfl
    | cons i r =>
      exfalso
      have hm : i ∈ Region.ready .any ops listed := by rw [hr]; simp
      obtain ⟨hu, o, ho, -⟩ := mem_ready.1 hm
      rw [h0 i (Array.getElem?_eq_some_iff.1 ho).1] at hu
      cases hu
  | succ fuel ih =>
    intro listed a w hc h
    refine ⟨fun hr => hend a w listed (fin listed a w h hr) h, fun i hm => ?_⟩
    obtain ⟨hu, o, ho, hall⟩ := mem_ready.1 hm
    have hlt : i < listed.size := by rw [h.listedSize]; exact (Array.getElem?_eq_some_iff.1 ho).1
    have hcount : (listed.setIfInBounds i true).toList.count false ≤ fuel := by
      have e : listed.toList[i]? = some false := by
        have : listed[i] = false := by simpa [hlt] using hu
        simp [hlt, this]
      have := count_set listed.toList i e
      simp only [Array.toList_setIfInBounds]
      omega
    obtain ⟨hacyc, hguard, hdlt, hflow⟩ := flow_at hB ho
    obtain ⟨m, hm1, hm2⟩ := req_at ops.toList (metaOf ops) hreq i o (by simpa using ho)
    have hme : m = (o.looksAt ops, guardOf ops o) := by
      unfold metaOf at hm1
      rw [List.getElem?_map] at hm1
      have : ops.toList[i]? = some o := by simpa using ho
      rw [this] at hm1
      simpa using hm1.symm
    subst hme
    have hk : Knows G a w (o.looksAt ops) := knows_of _ fun t ht => (h.facts t fun j q hj hq => by
      obtain ⟨e, he, hb, rfl⟩ := (hflow j q t hj hq).1 ht
      have h1 := hall e he hb
      have hjl : e.on < listed.size := by rw [h.listedSize]; exact (Array.getElem?_eq_some_iff.1 hj).1
      simpa [hjl] using h1).now
    have hreq' := hm2 a w h.grows hk
    unfold wpOp
    simp only [ho]
    have go : ∀ v w', Grows w w' → Post G o.dst v w' → wpAny P .any ops Q fuel (listed.setIfInBounds i true) (a.put o.dst v) w' := fun v w' hg hp =>
      ih _ _ _ hcount (inv_put hB ho h hg hp)
    unfold OpReq guardOf at hreq'
    cases hgd : o.guard with
    | none =>
      rw [hgd] at hreq'
      have hw : Region.wanted o (yielded ops a.tmps) = true := by unfold Region.wanted; rw [hgd]
      rw [if_pos hw]
      exact .inl (wp_of_ok hreq' go)
    | some gb =>
      obtain ⟨g, b⟩ := gb
      obtain ⟨q, d, hq, hqd⟩ := hguard g b hgd
      rw [hgd] at hreq'
      have hbind : (ops[g]?).bind (·.dst) = some d := by rw [hq]; exact hqd
      simp only [hbind, Option.map_some] at hreq'
      rw [← eval_slot] at hreq'
      rcases hreq' with ⟨he, hok⟩ | ⟨he, hp⟩
      · have hw := wanted_of (ops := ops) hgd hbind he
        rw [if_pos (by rw [hw]; simp)]
        exact .inl (wp_of_ok hok go)
      · have hw := wanted_of (ops := ops) hgd hbind he
        rw [if_neg (by rw [hw]; cases b <;> simp)]
        exact go _ _ (Grows.refl w) hp

theorem act_ext {a b : Act} (h1 : a.tmps = b.tmps) (h2 : a.defers = b.defers) : a = b := by
  cases a; cases b
  simp at h1 h2
  rw [h1, h2]
/-- The frame with these slots laid anew. -/
def putAll (x : Tmp → Value) : List Tmp → Act → Act
  | [], a => a
  | d :: l, a => putAll x l (a.put (some d) (x d))
theorem putAll_size (x : Tmp → Value) : ∀ (l : List Tmp) (a : Act), (putAll x l a).tmps.size = a.tmps.size
  | [], _ => rfl
  | d :: l, a => by rw [putAll, putAll_size x l, size_put]
theorem putAll_defers (x : Tmp → Value) : ∀ (l : List Tmp) (a : Act), (putAll x l a).defers = a.defers
  | [], _ => rfl
  | d :: l, a => by rw [putAll, putAll_defers x l, defers_put]
theorem putAll_get (x : Tmp → Value) : ∀ (l : List Tmp) (a : Act) (t : Tmp), t < a.tmps.size → (putAll x l a).tmps[t]? = if t ∈ l then some (x t) else a.tmps[t]?
  | [], a, t, _ => by simp [putAll]
  | d :: l, a, t, ht => by
    rw [putAll, putAll_get x l _ t (by rw [size_put]; exact ht)]
    by_cases h : t ∈ l
    · simp [h]
    · by_cases hd : t = d
      · subst hd; simp [h, Act.put, ht]
      · simp [h, hd, Act.put, Array.getElem?_setIfInBounds_ne (Ne.symm hd)]

/-- **The law**: behind the region, whatever the order, of each operation's slot is known what was to be shown. -/
theorem wp_region_grow {id : Nat} {Q : Exit → Act → World → Prop} {a0 : Act} {w : World} {l : List Oper} (G : Fact) (dsts : List Tmp) (ms : List (List Tmp × Option (Tmp × Bool))) (size : Nat) (hm : P.follows .mixedOrders = true)
    (hB : (flowB l.toArray size && (metaOf l.toArray == ms) && (dstsOf l.toArray == dsts)) = true) (hsz : a0.tmps.size = size)
    (h0 : ∀ t W, t ∉ dsts → Grows w W → G t (a0.eval (.tmp t)) W) (hreq : Req P G w l ms)
    (hend : ∀ (x : Tmp → Value) (w' : World), Grows w w' → (∀ d ∈ dsts, Holds G d (x d) w') → Q .normal (putAll x dsts a0) w') : (Code.region id l.toArray true).wp P Q a0 w := by
  simp only [Bool.and_eq_true, beq_iff_eq] at hB
  obtain ⟨⟨hf, hme⟩, hde⟩ := hB
  subst hsz
  have hmem : ∀ t : Tmp, t ∈ dsts ↔ ∃ (j : Nat) (o : Oper), l.toArray[j]? = some o ∧ o.dst = some t := fun t => by
    rw [← hde]
    unfold dstsOf
    simp only [List.mem_filterMap]
    constructor
    · rintro ⟨o, ho, hd⟩
      obtain ⟨j, hj⟩ := List.mem_iff_getElem?.1 ho
      exact ⟨j, o, by simpa using hj, hd⟩
    · rintro ⟨j, o, hj, hd⟩
      exact ⟨o, List.mem_iff_getElem?.2 ⟨j, by simpa using hj⟩, hd⟩
  refine wp_region_any hm (any_of_inv (G := G) (a0 := a0) (w0 := w) hf (by rw [hme]; exact hreq) ?_ _ _ _ _ ?_ ?_)
  · intro a w' listed hall hinv
    have e : a = putAll (fun t => a.eval (.tmp t)) dsts a0 := by
      have hsz := hinv.size
      have hdf := hinv.defers
      have ht : a.tmps = (putAll (fun t => a.eval (.tmp t)) dsts a0).tmps := by
        apply Array.ext_getElem?
        intro t
        by_cases hlt : t < a0.tmps.size
        · rw [putAll_get _ _ _ _ hlt]
          have hat : a.tmps[t]? = some (a.eval (.tmp t)) := by
            have : t < a.tmps.size := by rw [hsz]; exact hlt
            simp [Act.eval, this]
          by_cases hd : t ∈ dsts
          · rw [if_pos hd, hat]
          · rw [if_neg hd, hat, hinv.others t (fun j o hj hq => hd ((hmem t).2 ⟨j, o, hj, hq⟩))]
            simp [Act.eval, hlt]
        · rw [Array.getElem?_eq_none (by rw [hsz]; omega), Array.getElem?_eq_none (by rw [putAll_size]; omega)]
      have hdd : a.defers = (putAll (fun t => a.eval (.tmp t)) dsts a0).defers := by rw [putAll_defers, hdf]
      exact act_ext ht hdd
    rw [e]
    refine hend _ _ hinv.grows fun d hd => ?_
    exact hinv.facts d fun j o hj _ => hall j (Array.getElem?_eq_some_iff.1 hj).1
  · simp
  · refine ⟨⟨rfl, rfl, rfl, Nat.le_refl _, fun _ _ => rfl⟩, rfl, rfl, fun t ht => ?_, fun _ _ => rfl, by simp⟩
    have hnd : t ∉ dsts := fun hd => by
      obtain ⟨j, o, hj, hq⟩ := (hmem t).1 hd
      have := ht j o hj hq
      have hlt := (Array.getElem?_eq_some_iff.1 hj).1
      simp at hlt
      simp [hlt] at this
    exact fun W hW => h0 t W hnd ⟨hW.os, hW.tape, hW.output, hW.size, hW.block⟩
end
end Go.Proofs.Ytcmnbeodejphkaa.Gw

/-! A region that draws its order, whose last operations wait for all that stand ahead of them (an append, then an assignment): the others by XGrow's way, then these, one behind the other, whatever they do to memory. -/
namespace Go.Proofs.Ytcmnbeodejphkaa.Gw
open Go.RowKit

/-- Operation i waits, through others, for operation j. -/
def waitsB (ops : Array Oper) : Nat → Nat → Nat → Bool
  | 0, _, _ => false
  | f + 1, i, j => match ops[i]? with
    | none => false
    | some o => o.after.any fun e => Region.binds .any e && (e.on == j || waitsB ops f e.on j)
def tailB (ops : Array Oper) (n : Nat) : Bool :=
  (List.range ops.size).all fun i => decide (i < n) || ((match ops[i]? with | some o => o.guard.isNone | none => true) && (List.range i).all fun j => waitsB ops ops.size i j)
/-- Operations, one behind the other. -/
def seqTail (P : Program) (Q : Exit → Act → World → Prop) : List Oper → Act → World → Prop
  | [], a, w => Q .normal a w
  | o :: os, a, w => o.wp P a w (seqTail P Q os) Q
def Closed (ops : Array Oper) (listed : Array Bool) : Prop :=
  ∀ (k : Nat) (o : Oper), ops[k]? = some o → listed.getD k false = true → ∀ e ∈ o.after, Region.binds .any e = true → listed.getD e.on false = true

section
variable {P : Program} {ops : Array Oper} {n size : Nat}
theorem waits_listed {listed : Array Bool} (hc : Closed ops listed) : ∀ (f i j : Nat) (o : Oper), ops[i]? = some o → (∀ e ∈ o.after, Region.binds .any e = true → listed.getD e.on false = true) → waitsB ops f i j = true → listed.getD j false = true
  | 0, _, _, _, _, _, h => by simp [waitsB] at h
  | f + 1, i, j, o, ho, hd, h => by
    unfold waitsB at h
    rw [ho] at h
    simp only [Array.any_eq_true] at h
    obtain ⟨x, hx, h⟩ := h
    simp only [Bool.and_eq_true, Bool.or_eq_true, beq_iff_eq] at h
    have h1 := hd o.after[x] (Array.getElem_mem hx) h.1
    rcases h.2 with h2 | h2
    · rw [← h2]; exact h1
    · cases hk : ops[(o.after[x]).on]? with
      | none => cases f <;> simp [waitsB, hk] at h2
      | some o' => exact waits_listed hc f _ j o' hk (hc _ o' hk h1) h2
theorem tail_at (h : tailB ops n = true) {i : Nat} {o : Oper} (hi : ops[i]? = some o) (hn : n ≤ i) : o.guard = none ∧ ∀ j, j < i → waitsB ops ops.size i j = true := by
  have hlt : i < ops.size := (Array.getElem?_eq_some_iff.1 hi).1
  have h1 := List.all_eq_true.1 h i (List.mem_range.2 hlt)
  have h2 : ¬ i < n := by omega
  simp only [hi, decide_eq_false h2, Bool.false_or, Bool.and_eq_true] at h1
  refine ⟨by simpa using h1.1, fun j hj => ?_⟩
  exact List.all_eq_true.1 h1.2 j (List.mem_range.2 hj)
theorem listed_two {listed : Array Bool} {i : Nat} (hs : i < listed.size) : listed.getD i true = listed.getD i false := by simp [hs]
theorem ready_at {listed : Array Bool} (hs : listed.size = ops.size) {i : Nat} (hm : i ∈ Region.ready .any ops listed) :
    listed.getD i false = false ∧ ∃ o, ops[i]? = some o ∧ ∀ e ∈ o.after, Region.binds .any e = true → listed.getD e.on false = true := by
  obtain ⟨hu, o, ho, hall⟩ := mem_ready.1 hm
  have hlt : i < listed.size := by rw [hs]; exact (Array.getElem?_eq_some_iff.1 ho).1
  exact ⟨by rw [← listed_two hlt]; exact hu, o, ho, hall⟩
theorem tail_seq {Q : Exit → Act → World → Prop} (hF : flowB ops size = true) (hT : tailB ops n = true) : ∀ (fuel m : Nat) (listed : Array Bool) (a : Act) (w : World), n ≤ m → m ≤ ops.size → listed.size = ops.size →
    (∀ k, k < ops.size → (listed.getD k false = true ↔ k < m)) → ops.size - m ≤ fuel → seqTail P Q (ops.toList.drop m) a w → wpAny P .any ops Q fuel listed a w := by
  intro fuel
  induction fuel with
  | zero =>
    intro m listed a w hn hm hs hl hf h
    have e : m = ops.size := by omega
    subst e
    rw [List.drop_of_length_le (by simp)] at h
    refine ⟨?_, h⟩
    cases hr : Region.ready .any ops listed with
    | nil => rfl
    | cons i r =>
      exfalso
      obtain ⟨hu, o, ho, -⟩ := ready_at hs (show i ∈ Region.ready .any ops listed by rw [hr]; simp)
      have hlt := (Array.getElem?_eq_some_iff.1 ho).1
      rw [(hl i hlt).2 hlt] at hu
      cases hu
  | succ fuel ih =>
    intro m listed a w hn hm hs hl hf h
    have closed : Closed ops listed := fun k o hk hlk e he hb => by
      have hkl := (Array.getElem?_eq_some_iff.1 hk).1
      have h1 := (flow_at hF hk).1 e he hb
      exact (hl e.on (by omega)).2 (by have := (hl k hkl).1 hlk; omega)
    refine ⟨fun hr => ?_, fun i hi => ?_⟩
    · by_cases e : m = ops.size
      · subst e
        rw [List.drop_of_length_le (by simp)] at h
        exact h
      · exfalso
        have hlt : m < ops.size := by omega
        have ho : ops[m]? = some ops[m] := Array.getElem?_eq_getElem hlt
        have : m ∈ Region.ready .any ops listed := mem_ready.2 ⟨by
          rw [listed_two (by omega)]
          cases hx : listed.getD m false with
          | false => rfl
          | true => exact absurd ((hl m hlt).1 hx) (Nat.lt_irrefl _), _, ho, fun e he hb => by
          have h1 := (flow_at hF ho).1 e he hb
          exact (hl e.on (by omega)).2 h1⟩
        rw [hr] at this
        cases this
    · obtain ⟨hu, o, ho, hall⟩ := ready_at hs hi
      have hlt := (Array.getElem?_eq_some_iff.1 ho).1
      have him : m ≤ i := by
        rcases Nat.lt_or_ge i m with h1 | h1
        · rw [(hl i hlt).2 h1] at hu; cases hu
        · exact h1
      obtain ⟨hg, hw⟩ := tail_at hT ho (by omega)
      have hei : i = m := by
        rcases Nat.lt_or_ge m i with h1 | h1
        · have := waits_listed closed _ _ _ o ho hall (hw m h1)
          exact absurd ((hl m (by omega)).1 this) (Nat.lt_irrefl _)
        · omega
      subst hei
      have hd : ops.toList.drop i = o :: ops.toList.drop (i + 1) := by
        rw [List.drop_eq_getElem_cons (by simpa using hlt)]
        congr 1
        have := (Array.getElem?_eq_some_iff.1 ho).2
        simpa using this
      rw [hd] at h
      unfold wpOp
      simp only [ho]
      have hwt : Region.wanted o (yielded ops a.tmps) = true := by unfold Region.wanted; rw [hg]
      rw [if_pos hwt]
      refine .inl (Oper.wp_mono (fun a' w' hK => ?_) h)
      refine ih (i + 1) _ _ _ (by omega) (by omega) (by simpa using hs) (fun k hk => ?_) (by omega) hK
      by_cases hki : i = k
      · subst hki
        have hx : i < listed.size := by omega
        simp [hx]
      · rw [getD_set_ne false hki, hl k hk]
        omega

/-- What holds while the operations ahead of the tail come up. -/
structure InvT (ops : Array Oper) (n : Nat) (G : Fact) (a0 : Act) (w0 : World) (listed : Array Bool) (a : Act) (w : World) : Prop where
  grows : Grows w0 w
  defers : a.defers = a0.defers
  size : a.tmps.size = a0.tmps.size
  facts : ∀ t, (∀ (j : Nat) (o : Oper), j < n → ops[j]? = some o → o.dst = some t → listed.getD j false = true) → Holds G t (a.eval (.tmp t)) w
  others : ∀ t, (∀ (j : Nat) (o : Oper), j < n → ops[j]? = some o → o.dst ≠ some t) → a.eval (.tmp t) = a0.eval (.tmp t)
  listedSize : listed.size = ops.size
  closed : Closed ops listed
  none : ∀ k, n ≤ k → listed.getD k false = false
theorem invT_put {G : Fact} {a0 : Act} {w0 : World} {listed : Array Bool} {a : Act} {w w' : World} {i : Nat} {o : Oper} {v : Value} (hB : flowB ops a0.tmps.size = true) (hin : i < n) (hi : ops[i]? = some o)
    (hall : ∀ e ∈ o.after, Region.binds .any e = true → listed.getD e.on false = true)
    (h : InvT ops n G a0 w0 listed a w) (hg : Grows w w') (hp : Post G o.dst v w') : InvT ops n G a0 w0 (listed.setIfInBounds i true) (a.put o.dst v) w' := by
  obtain ⟨hac, -, hlt, hone⟩ := flow_at hB hi
  have hil : i < listed.size := by rw [h.listedSize]; exact (Array.getElem?_eq_some_iff.1 hi).1
  refine ⟨h.grows.trans hg, by rw [defers_put, h.defers], by rw [size_put, h.size], fun t ht => ?_, fun t ht => ?_, by simpa using h.listedSize, fun k q hk hlk e he hb => ?_, fun k hk => ?_⟩
  · by_cases hd : o.dst = some t
    · rw [hd] at hp ⊢
      rw [eval_put_same (by rw [h.size]; exact hlt t hd)]
      exact hp
    · rw [eval_put_other hd]
      refine (h.facts t fun j q hjn hj hq => ?_).grow hg
      have hne : i ≠ j := fun e => by
        subst e
        rw [hi] at hj
        injection hj with hj
        subst hj
        exact hd hq
      have := ht j q hjn hj hq
      rwa [getD_set_ne false hne] at this
  · rw [eval_put_other (ht i o hin hi)]
    exact h.others t ht
  · have hold : listed.getD e.on false = true → (listed.setIfInBounds i true).getD e.on false = true := getD_set_true
    by_cases hki : i = k
    · subst hki
      rw [hi] at hk
      injection hk with hk
      subst hk
      exact hold (hall e he hb)
    · rw [getD_set_ne false hki] at hlk
      exact hold (h.closed k q hk hlk e he hb)
  · rw [getD_set_ne false (by omega)]
    exact h.none k hk
theorem count_rest : ∀ (l : List Bool) (n : Nat), (∀ k, n ≤ k → l.getD k false = false) → l.length - n ≤ l.count false
  | [], n, _ => by simp
  | b :: l, 0, h => by
    have hb := h 0 (Nat.le_refl _)
    have := count_rest l 0 (fun k _ => by have := h (k + 1) (Nat.zero_le _); simpa using this)
    simp at hb
    subst hb
    simp at this ⊢
    omega
  | b :: l, n + 1, h => by
    have := count_rest l n (fun k hk => by have := h (k + 1) (by omega); simpa using this)
    simp only [List.length_cons, List.count_cons]
    omega
theorem any_of_invT {G : Fact} {a0 : Act} {w0 : World} {Q : Exit → Act → World → Prop} {ms : List (List Tmp × Option (Tmp × Bool))} (hB : flowB ops a0.tmps.size = true) (hT : tailB ops n = true) (hn : n ≤ ops.size) (hms : ms = (metaOf ops).take n) (hreq : Req P G w0 (ops.toList.take n) ms)
    (hend : ∀ a w, (∀ listed : Array Bool, (∀ j, j < n → listed.getD j false = true) → InvT ops n G a0 w0 listed a w → seqTail P Q (ops.toList.drop n) a w) ) :
    ∀ (fuel : Nat) (listed : Array Bool) (a : Act) (w : World), listed.toList.count false ≤ fuel → InvT ops n G a0 w0 listed a w → wpAny P .any ops Q fuel listed a w := by
  intro fuel
  induction fuel with
  | zero =>
    intro listed a w hc h
    have hcnt := count_rest listed.toList n (fun k hk => by have := h.none k hk; simpa using this)
    rw [Array.length_toList, h.listedSize] at hcnt
    have hall : ∀ j, j < n → listed.getD j false = true := fun j hj => by
      cases hl : listed.getD j false with
      | true => rfl
      | false =>
        exfalso
        have hb : j < listed.size := by rw [h.listedSize]; omega
        have : (false : Bool) ∈ listed.toList := by
          have e : listed[j] = false := by simpa [hb] using hl
          rw [← e]
          exact Array.getElem_mem_toList hb
        have := List.count_pos_iff.2 this
        omega
    exact tail_seq hB hT 0 n listed a w (Nat.le_refl _) hn h.listedSize (fun k _ => ⟨fun hk => Nat.lt_of_not_le fun h1 => (by rw [h.none k h1] at hk; cases hk), hall k⟩) (by omega) (hend a w listed hall h)
  | succ fuel ih =>
    intro listed a w hc h
    have hcnt := count_rest listed.toList n (fun k hk => by have := h.none k hk; simpa using this)
    rw [Array.length_toList, h.listedSize] at hcnt
    by_cases hall : ∀ j, j < n → listed.getD j false = true
    · exact tail_seq hB hT _ n listed a w (Nat.le_refl _) hn h.listedSize (fun k _ => ⟨fun hk => Nat.lt_of_not_le fun h1 => (by rw [h.none k h1] at hk; cases hk), hall k⟩) (by omega) (hend a w listed hall h)
    · have hready : Region.ready .any ops listed ≠ [] := fun hr => hall fun j => by
        induction j using Nat.strongRecOn with
        | _ j ihj =>
          intro hj
          cases hl : listed.getD j false with
          | true => rfl
          | false =>
            exfalso
            have hjo : ops[j]? = some ops[j] := Array.getElem?_eq_getElem (by omega)
            have : j ∈ Region.ready .any ops listed := mem_ready.2 ⟨by rw [listed_two (by rw [h.listedSize]; omega)]; exact hl, ops[j], hjo, fun e he hb => by
              have hlt := (flow_at hB hjo).1 e he hb
              exact ihj e.on hlt (by omega)⟩
            rw [hr] at this
            cases this
      refine ⟨fun hr => absurd hr hready, fun i hm => ?_⟩
      obtain ⟨hu, o, ho, hal⟩ := ready_at h.listedSize hm
      have hil : i < ops.size := (Array.getElem?_eq_some_iff.1 ho).1
      have hin : i < n := by
        rcases Nat.lt_or_ge i n with h1 | h1
        · exact h1
        · exact absurd (fun j hj => waits_listed h.closed _ _ _ o ho hal ((tail_at hT ho h1).2 j (by omega))) hall
      have hlt : i < listed.size := by rw [h.listedSize]; exact hil
      have hcount : (listed.setIfInBounds i true).toList.count false ≤ fuel := by
        have e : listed.toList[i]? = some false := by
          have : listed[i] = false := by simpa [hlt] using hu
          simp [hlt, this]
        have := count_set listed.toList i e
        simp only [Array.toList_setIfInBounds]
        omega
      obtain ⟨hacyc, hguard, hdlt, hflow⟩ := flow_at hB ho
      obtain ⟨m, hm1, hm2⟩ := req_at (ops.toList.take n) ms hreq i o (by rw [List.getElem?_take, if_pos hin]; simpa using ho)
      have hme : m = (o.looksAt ops, guardOf ops o) := by
        rw [hms, List.getElem?_take, if_pos hin] at hm1
        unfold metaOf at hm1
        rw [List.getElem?_map] at hm1
        have : ops.toList[i]? = some o := by simpa using ho
        rw [this] at hm1
        simpa using hm1.symm
      subst hme
      have hk : Knows G a w (o.looksAt ops) := knows_of _ fun t ht => (h.facts t fun j q _ hj hq => by
        obtain ⟨e, he, hb, rfl⟩ := (hflow j q t hj hq).1 ht
        exact hal e he hb).now
      have hreq' := hm2 a w h.grows hk
      unfold wpOp
      simp only [ho]
      have go : ∀ v w', Grows w w' → Post G o.dst v w' → wpAny P .any ops Q fuel (listed.setIfInBounds i true) (a.put o.dst v) w' := fun v w' hg hp =>
        ih _ _ _ hcount (invT_put hB hin ho hal h hg hp)
      unfold OpReq guardOf at hreq'
      cases hgd : o.guard with
      | none =>
        rw [hgd] at hreq'
        have hw : Region.wanted o (yielded ops a.tmps) = true := by unfold Region.wanted; rw [hgd]
        rw [if_pos hw]
        exact .inl (wp_of_ok hreq' go)
      | some gb =>
        obtain ⟨g, b⟩ := gb
        obtain ⟨q, d, hq, hqd⟩ := hguard g b hgd
        rw [hgd] at hreq'
        have hbind : (ops[g]?).bind (·.dst) = some d := by rw [hq]; exact hqd
        simp only [hbind, Option.map_some] at hreq'
        rw [← eval_slot] at hreq'
        rcases hreq' with ⟨he, hok⟩ | ⟨he, hp⟩
        · have hw := wanted_of (ops := ops) hgd hbind he
          rw [if_pos (by rw [hw]; simp)]
          exact .inl (wp_of_ok hok go)
        · have hw := wanted_of (ops := ops) hgd hbind he
          rw [if_neg (by rw [hw]; cases b <;> simp)]
          exact go _ _ (Grows.refl w) hp

/-- **The law**: of each operation's slot ahead of the tail is known what was to be shown, whatever the order; then the tail. -/
theorem wp_region_tail {id : Nat} {Q : Exit → Act → World → Prop} {a0 : Act} {w : World} {l tail : List Oper} (n : Nat) (G : Fact) (dsts : List Tmp) (ms : List (List Tmp × Option (Tmp × Bool))) (size : Nat) (hm : P.follows .mixedOrders = true)
    (hB : (flowB l.toArray size && tailB l.toArray n && decide (n ≤ l.length) && (ms == (metaOf l.toArray).take n) && ((l.take n).filterMap (·.dst) == dsts)) = true) (hsz : a0.tmps.size = size)
    (h0 : ∀ t W, t ∉ dsts → Grows w W → G t (a0.eval (.tmp t)) W) (hreq : Req P G w (l.take n) ms)
    (htail : l.drop n = tail)
    (hend : ∀ (x : Tmp → Value) (w' : World), Grows w w' → (∀ d ∈ dsts, Holds G d (x d) w') → seqTail P Q tail (putAll x dsts a0) w') : (Code.region id l.toArray true).wp P Q a0 w := by
  simp only [Bool.and_eq_true, beq_iff_eq, decide_eq_true_eq] at hB
  obtain ⟨⟨⟨⟨hf, hT⟩, hn⟩, hme⟩, hde⟩ := hB
  subst hsz htail
  have hmem : ∀ t : Tmp, t ∈ dsts ↔ ∃ (j : Nat) (o : Oper), j < n ∧ l.toArray[j]? = some o ∧ o.dst = some t := fun t => by
    rw [← hde]
    simp only [List.mem_filterMap]
    constructor
    · rintro ⟨o, ho, hd⟩
      obtain ⟨j, hj⟩ := List.mem_iff_getElem?.1 ho
      rw [List.getElem?_take] at hj
      split at hj
      · rename_i hjn
        exact ⟨j, o, hjn, by simpa using hj, hd⟩
      · cases hj
    · rintro ⟨j, o, hjn, hj, hd⟩
      exact ⟨o, List.mem_iff_getElem?.2 ⟨j, by rw [List.getElem?_take, if_pos hjn]; simpa using hj⟩, hd⟩
  refine wp_region_any hm (any_of_invT (n := n) (ms := ms) (G := G) (a0 := a0) (w0 := w) hf hT (by simpa using hn) hme (by simpa using hreq) ?_ _ _ _ _ ?_ ?_)
  · intro a w' listed hall hinv
    have e : a = putAll (fun t => a.eval (.tmp t)) dsts a0 := by
      have hsz := hinv.size
      have hdf := hinv.defers
      have ht : a.tmps = (putAll (fun t => a.eval (.tmp t)) dsts a0).tmps := by
        apply Array.ext_getElem?
        intro t
        by_cases hlt : t < a0.tmps.size
        · rw [putAll_get _ _ _ _ hlt]
          have hat : a.tmps[t]? = some (a.eval (.tmp t)) := by
            have : t < a.tmps.size := by rw [hsz]; exact hlt
            simp [Act.eval, this]
          by_cases hd : t ∈ dsts
          · rw [if_pos hd, hat]
          · rw [if_neg hd, hat, hinv.others t (fun j o hjn hj hq => hd ((hmem t).2 ⟨j, o, hjn, hj, hq⟩))]
            simp [Act.eval, hlt]
        · rw [Array.getElem?_eq_none (by rw [hsz]; omega), Array.getElem?_eq_none (by rw [putAll_size]; omega)]
      have hdd : a.defers = (putAll (fun t => a.eval (.tmp t)) dsts a0).defers := by rw [putAll_defers, hdf]
      exact act_ext ht hdd
    rw [e]
    have := hend (fun t => a.eval (.tmp t)) w' hinv.grows fun d hd => hinv.facts d fun j o hjn _ _ => hall j hjn
    simpa using this
  · simp
  · refine ⟨⟨rfl, rfl, rfl, Nat.le_refl _, fun _ _ => rfl⟩, rfl, rfl, fun t ht => ?_, fun _ _ => rfl, by simp, fun k o hk hl => ?_, fun k _ => ?_⟩
    · have hnd : t ∉ dsts := fun hd => by
        obtain ⟨j, o, hjn, hj, hq⟩ := (hmem t).1 hd
        have := ht j o hjn hj hq
        have hlt := (Array.getElem?_eq_some_iff.1 hj).1
        simp at hlt
        simp [hlt] at this
      exact fun W hW => h0 t W hnd ⟨hW.os, hW.tape, hW.output, hW.size, hW.block⟩
    · have hlt := (Array.getElem?_eq_some_iff.1 hk).1
      simp at hlt
      simp [hlt] at hl
    · by_cases hlt : k < l.length
      · simp [hlt]
      · simp [hlt]
/-- An append to bytes of one's own, as an operation of the tail. -/
theorem wp_app {w : World} {o : Oper} {a : Act} {K : Act → World → Prop} {Q : Exit → Act → World → Prop} (s x : Operand) (t : TypeId)
    (ho : o.op = .call { callee := .builtin .append, args := #[s, x], argTypes := #[t, t] })
    (base : Nat) (e : TypeId) (i : TypeInfo) (z : Value) (ht : P.underlying t = some (.slice e)) (hi : P.info? e = some i) (hz : i.zero = some z) (hsize : i.size = 1) (hby : i.bytes = 1) (hzs : z.cells.size = 1)
    (v : Value) (n : Nat) (l : List UInt8) (hs : a.eval s = v) (hown : w.ownsRow base e 1 v n (Me.cellsOf l)) (B : Nat) (A : Option Addr) (k c : Nat) (m : List UInt8) (hx : a.eval x = .slice A k c) (hm : m.length = k) (hr : Me.Rd w B A m)
    (hbytes : n + k ≤ 140737488355328) (hbase : base ≤ w.heap.size)
    (h : ∀ v' w', w'.ownsRow base e 1 v' (n + k) (Me.cellsOf (l ++ m)) → w.grownBy w' v.ownBlock → K (a.put o.dst v') w') : Oper.wp P o a w K Q := by
  obtain ⟨v', w', hrun, h2, h3, -⟩ := Me.run_app (P := P) w base t o.type e i z ht hi hz hsize hby hzs v n l hown B A k c m hm hr hbytes hbase
  unfold Oper.wp execOp
  simp only [ho, resolve, invoke, builtin, Sem.run_bind, Sem.run_pure, Result.andThen_ok, List.map_toArray, List.map_cons, List.map_nil, hs, hx, hrun]
  exact h v' w' h2 h3
/-- An assignment, as an operation of the tail. -/
theorem wp_assign {w : World} {o : Oper} {a : Act} {K : Act → World → Prop} {Q : Exit → Act → World → Prop} (x : Operand) (v : Value) (ho : o.op = .assign x) (hv : a.eval x = v) (h : K (a.put o.dst v) w) : Oper.wp P o a w K Q := by
  subst hv
  unfold Oper.wp execOp
  simp only [ho, Sem.run_pure]
  exact h
end
end Go.Proofs.Ytcmnbeodejphkaa.Gw

/-! A region that draws its order and writes memory: its writers come one behind the other; whatever else there is comes ahead of them, between or behind them, as its edges let it. -/
namespace Go.Proofs.Ytcmnbeodejphkaa.Gw
open Go.RowKit

/-- May operation i be carried out when so many writers have been? -/
def mayB (ops : Array Oper) (wrs : List Nat) (i p : Nat) : Bool :=
  (List.range wrs.length).all fun k => match wrs[k]? with
    | none => true
    | some j => (!waitsB ops ops.size i j || decide (k < p)) && (!decide (k < p) || (!waitsB ops ops.size j i && j != i))
def phasesOf (ops : Array Oper) (wrs : List Nat) (i : Nat) : List Nat := (List.range (wrs.length + 1)).filter (mayB ops wrs i)
/-- What is laid down of an operation: the slots that it looks at, its guard, when it may come, whether it writes. -/
abbrev Row := List Tmp × Option (Tmp × Bool) × List Nat × Bool
def rowOf (ops : Array Oper) (wrs : List Nat) (i : Nat) : Row :=
  match ops[i]? with
  | none => ([], none, [], false)
  | some o => (o.looksAt ops, guardOf ops o, phasesOf ops wrs i, wrs.contains i)
def rowsOf (ops : Array Oper) (wrs : List Nat) : List Row := (List.range ops.size).map (rowOf ops wrs)
/-- Each writer has a phase of its own. -/
def ownB (ops : Array Oper) (wrs : List Nat) : Bool := (List.range wrs.length).all fun k => match wrs[k]? with
  | none => true
  | some i => (phasesOf ops wrs i == [k]) && decide (i < ops.size)

/-- Known from here on, as far as R leads. -/
def HoldsR (R : World → World → Prop) (G : Fact) (t : Tmp) (v : Value) (w : World) : Prop := ∀ W, R w W → G t v W
/-- What is asked of an operation that is carried out. -/
def OkP (P : Program) (o : Oper) (a : Act) (w : World) (p : Value → World → Prop) : Prop :=
  match (execOp a.eval o).run P w with
  | .ok (.value v) w' => p v w'
  | .ok .skip w' => p undef w'
  | .ok (.enter f args) w' => Calls P f args w' fun e w'' => ∃ v, e = .returned v ∧ p v w''
  | _ => False
/-- What holds behind an operation. -/
def PPost (R : World → World → Prop) (I : Nat → World → Prop) (G : Fact) (p : Nat) (dst : Option Tmp) (w : World) (v : Value) (w' : World) : Prop :=
  R w w' ∧ I p w' ∧ match dst with
    | some d => HoldsR R G d v w'
    | none => True
def POpReq (P : Program) (R : World → World → Prop) (I : Nat → World → Prop) (G : Fact) (o : Oper) (g : Option (Tmp × Bool)) (p : Nat) (a : Act) (w : World) : Prop :=
  match g with
  | none => OkP P o a w (PPost R I G p o.dst w)
  | some (d, b) => (a.tmps[d]?.getD undef = .bool b ∧ OkP P o a w (PPost R I G p o.dst w)) ∨ (a.tmps[d]?.getD undef = .bool (!b) ∧ PPost R I G p o.dst w undef w)
def AllIn : List Nat → (Nat → Prop) → Prop
  | [], _ => True
  | p :: l, f => f p ∧ AllIn l f
theorem AllIn.at {f : Nat → Prop} : ∀ {l : List Nat} {p : Nat}, AllIn l f → p ∈ l → f p
  | _ :: _, p, h, hm => by
    rcases List.mem_cons.1 hm with rfl | hm
    · exact h.1
    · exact h.2.at hm
def PReq (P : Program) (R : World → World → Prop) (I : Nat → World → Prop) (G : Fact) (w0 : World) : List Oper → List Row → Prop
  | [], [] => True
  | o :: os, (ts, g, ph, wr) :: ms => AllIn ph (fun p => ∀ a w, R w0 w → I p w → Knows G a w ts → POpReq P R I G o g (bif wr then p + 1 else p) a w) ∧ PReq P R I G w0 os ms
  | _, _ => False

section
variable {P : Program} {ops : Array Oper} {wrs : List Nat} {R : World → World → Prop} {I : Nat → World → Prop} {G : Fact}
theorem HoldsR.reach (hRt : ∀ a b c, R a b → R b c → R a c) {t : Tmp} {v : Value} {w w' : World} (h : HoldsR R G t v w) (hg : R w w') : HoldsR R G t v w' := fun W hW => h W (hRt _ _ _ hg hW)
theorem preq_at {w0 : World} : ∀ (os : List Oper) (ms : List Row), PReq P R I G w0 os ms → ∀ (i : Nat) (o : Oper), os[i]? = some o → ∃ m : Row, ms[i]? = some m ∧ ∀ p ∈ m.2.2.1, ∀ a w, R w0 w → I p w → Knows G a w m.1 → POpReq P R I G o m.2.1 (bif m.2.2.2 then p + 1 else p) a w
  | [], _, _, i, o, h => by simp at h
  | o :: os, [], hr, _, _, _ => hr.elim
  | o :: os, (ts, g, ph, wr) :: ms, hr, 0, _, h => ⟨_, rfl, by
      simp at h
      subst h
      intro p hp
      exact hr.1.at hp⟩
  | o :: os, (ts, g, ph, wr) :: ms, hr, i + 1, o', h => by
    obtain ⟨m', h1, h2⟩ := preq_at os ms hr.2 i o' (by simpa using h)
    exact ⟨m', by simpa using h1, h2⟩

/-- What holds while the operations come up. -/
structure InvP (ops : Array Oper) (wrs : List Nat) (R : World → World → Prop) (I : Nat → World → Prop) (G : Fact) (a0 : Act) (w0 : World) (p : Nat) (listed : Array Bool) (a : Act) (w : World) : Prop where
  reach : R w0 w
  inv : I p w
  defers : a.defers = a0.defers
  size : a.tmps.size = a0.tmps.size
  facts : ∀ t, (∀ (j : Nat) (o : Oper), ops[j]? = some o → o.dst = some t → listed.getD j false = true) → HoldsR R G t (a.eval (.tmp t)) w
  others : ∀ t, (∀ (j : Nat) (o : Oper), ops[j]? = some o → o.dst ≠ some t) → a.eval (.tmp t) = a0.eval (.tmp t)
  listedSize : listed.size = ops.size
  closed : Closed ops listed
  here : ∀ (k i : Nat), wrs[k]? = some i → (listed.getD i false = true ↔ k < p)

theorem own_at_wr (h : ownB ops wrs = true) {k i : Nat} (hk : wrs[k]? = some i) : phasesOf ops wrs i = [k] ∧ i < ops.size := by
  have hlt := (List.getElem?_eq_some_iff.1 hk).1
  have h1 := List.all_eq_true.1 h k (List.mem_range.2 hlt)
  simp only [hk, Bool.and_eq_true, beq_iff_eq, decide_eq_true_eq] at h1
  exact h1
theorem may_of {a0 : Act} {w0 : World} {p : Nat} {listed : Array Bool} {a : Act} {w : World} {i : Nat} {o : Oper} (h : InvP ops wrs R I G a0 w0 p listed a w) (hp : p ≤ wrs.length) (hi : ops[i]? = some o) (hu : listed.getD i false = false)
    (hall : ∀ e ∈ o.after, Region.binds .any e = true → listed.getD e.on false = true) (hO : ownB ops wrs = true) : p ∈ phasesOf ops wrs i := by
  unfold phasesOf
  rw [List.mem_filter]
  refine ⟨List.mem_range.2 (by omega), ?_⟩
  unfold mayB
  rw [List.all_eq_true]
  intro k hk
  have hk := List.mem_range.1 hk
  have hwk : wrs[k]? = some wrs[k] := List.getElem?_eq_getElem hk
  rw [hwk]
  simp only [Bool.and_eq_true, Bool.or_eq_true, Bool.not_eq_true', decide_eq_true_eq, decide_eq_false_iff_not, bne_iff_ne, ne_eq]
  have hw := h.here k _ hwk
  refine ⟨?_, ?_⟩
  · cases hb : waitsB ops ops.size i wrs[k] with
    | false => exact .inl rfl
    | true => exact .inr (hw.1 (waits_listed h.closed _ _ _ o hi hall hb))
  · by_cases hkp : k < p
    · right
      have hl := hw.2 hkp
      refine ⟨?_, fun e => ?_⟩
      · cases hb : waitsB ops ops.size wrs[k] i with
        | false => rfl
        | true =>
          exfalso
          have hlt := (own_at_wr hO hwk).2
          have hok : ops[wrs[k]]? = some ops[wrs[k]] := Array.getElem?_eq_getElem hlt
          have := waits_listed h.closed _ _ _ _ hok (h.closed _ _ hok hl) hb
          rw [hu] at this
          cases this
      · rw [e, hu] at hl
        cases hl
    · exact .inl hkp

theorem wp_of_okP {o : Oper} {a : Act} {w : World} {K : Act → World → Prop} {Q : Exit → Act → World → Prop} {p : Value → World → Prop} (h : OkP P o a w p) (hK : ∀ v w', p v w' → K (a.put o.dst v) w') : o.wp P a w K Q := by
  unfold OkP at h
  unfold Oper.wp
  generalize (execOp a.eval o).run P w = r at *
  cases r with
  | ok nx w' =>
    cases nx with
    | value v => exact hK _ _ h
    | skip => exact hK _ _ h
    | enter f args => exact h.mono fun e w'' ⟨v, he, hp⟩ => by subst he; exact hK _ _ hp
    | _ => exact h.elim
  | halt x w' => exact h.elim

theorem invP_put (hRt : ∀ a b c, R a b → R b c → R a c) {a0 : Act} {w0 : World} {p : Nat} {listed : Array Bool} {a : Act} {w w' : World} {i : Nat} {o : Oper} {v : Value} (hB : flowB ops a0.tmps.size = true) (hO : ownB ops wrs = true) (hi : ops[i]? = some o)
    (hph : p ∈ phasesOf ops wrs i)
    (hall : ∀ e ∈ o.after, Region.binds .any e = true → listed.getD e.on false = true)
    (h : InvP ops wrs R I G a0 w0 p listed a w) (hp : PPost R I G (bif wrs.contains i then p + 1 else p) o.dst w v w') : InvP ops wrs R I G a0 w0 (bif wrs.contains i then p + 1 else p) (listed.setIfInBounds i true) (a.put o.dst v) w' := by
  obtain ⟨hac, -, hlt, hone⟩ := flow_at hB hi
  obtain ⟨hr, hI, hd⟩ := hp
  have hil : i < listed.size := by rw [h.listedSize]; exact (Array.getElem?_eq_some_iff.1 hi).1
  refine ⟨hRt _ _ _ h.reach hr, hI, by rw [defers_put, h.defers], by rw [size_put, h.size], fun t ht => ?_, fun t ht => ?_, by simpa using h.listedSize, fun k q hk hlk e he hb => ?_, fun k j hk => ?_⟩
  · by_cases hdt : o.dst = some t
    · rw [hdt] at hd ⊢
      rw [eval_put_same (by rw [h.size]; exact hlt t hdt)]
      exact hd
    · rw [eval_put_other hdt]
      refine (h.facts t fun j q hj hq => ?_).reach hRt hr
      have hne : i ≠ j := fun e => by
        subst e
        rw [hi] at hj
        injection hj with hj
        subst hj
        exact hdt hq
      have := ht j q hj hq
      rwa [getD_set_ne false hne] at this
  · rw [eval_put_other (ht i o hi)]
    exact h.others t ht
  · have hold : listed.getD e.on false = true → (listed.setIfInBounds i true).getD e.on false = true := getD_set_true
    by_cases hki : i = k
    · subst hki
      rw [hi] at hk
      injection hk with hk
      subst hk
      exact hold (hall e he hb)
    · rw [getD_set_ne false hki] at hlk
      exact hold (h.closed k q hk hlk e he hb)
  · have hw := h.here k j hk
    by_cases hij : i = j
    · subst hij
      have hc : wrs.contains i = true := by
        rw [List.contains_iff_mem]
        exact List.mem_of_getElem? hk
      rw [hc]
      have := (own_at_wr hO hk).1
      rw [this] at hph
      have hpk : p = k := by simpa using hph
      subst hpk
      simp [hil]
    · rw [getD_set_ne false hij, hw]
      cases hc : wrs.contains i with
      | false => simp
      | true =>
        rw [List.contains_iff_mem] at hc
        obtain ⟨k', hk'⟩ := List.mem_iff_getElem?.1 hc
        have := (own_at_wr hO hk').1
        rw [this] at hph
        have hpk : p = k' := by simpa using hph
        subst hpk
        have hne : k ≠ p := fun e => by
          subst e
          rw [hk] at hk'
          injection hk' with hk'
          exact hij hk'.symm
        simp only [cond_true]
        omega

theorem any_of_invP (hRr : ∀ w, R w w) (hRt : ∀ a b c, R a b → R b c → R a c) {a0 : Act} {w0 : World} {Q : Exit → Act → World → Prop} (hB : flowB ops a0.tmps.size = true) (hO : ownB ops wrs = true) (hreq : PReq P R I G w0 ops.toList (rowsOf ops wrs))
    (hend : ∀ a w, (∀ listed : Array Bool, (∀ j, j < ops.size → listed.getD j false = true) → InvP ops wrs R I G a0 w0 wrs.length listed a w → Q .normal a w)) :
    ∀ (fuel p : Nat) (listed : Array Bool) (a : Act) (w : World), p ≤ wrs.length → listed.toList.count false ≤ fuel → InvP ops wrs R I G a0 w0 p listed a w → wpAny P .any ops Q fuel listed a w := by
  have fin : ∀ (p : Nat) (listed : Array Bool) (a : Act) (w : World), InvP ops wrs R I G a0 w0 p listed a w → Region.ready .any ops listed = [] → ∀ j, j < ops.size → listed.getD j false = true := fun p listed a w h hr => by
    intro j
    induction j using Nat.strongRecOn with
    | _ j ih =>
      intro hj
      cases hl : listed.getD j false with
      | true => rfl
      | false =>
        exfalso
        have hjo : ops[j]? = some ops[j] := Array.getElem?_eq_getElem hj
        have : j ∈ Region.ready .any ops listed := mem_ready.2 ⟨by rw [listed_two (by rw [h.listedSize]; exact hj)]; exact hl, ops[j], hjo, fun e he hb => by
          have hlt := (flow_at hB hjo).1 e he hb
          exact ih e.on hlt (by omega)⟩
        rw [hr] at this
        cases this
  have done : ∀ (p : Nat) (listed : Array Bool) (a : Act) (w : World), p ≤ wrs.length → InvP ops wrs R I G a0 w0 p listed a w → (∀ j, j < ops.size → listed.getD j false = true) → Q .normal a w := fun p listed a w hp h hall => by
    have e : p = wrs.length := by
      rcases Nat.lt_or_ge p wrs.length with hlt | hge
      · exfalso
        have hk : wrs[p]? = some wrs[p] := List.getElem?_eq_getElem hlt
        have := (h.here p _ hk).1 (hall _ (own_at_wr hO hk).2)
        omega
      · omega
    subst e
    exact hend a w listed hall h
  intro fuel
  induction fuel with
  | zero =>
    intro p listed a w hp hc h
    have h0 : ∀ j, j < ops.size → listed.getD j false = true := fun j hj => by
      cases hl : listed.getD j false with
      | true => rfl
      | false =>
        exfalso
        have hb : j < listed.size := by rw [h.listedSize]; exact hj
        have : (false : Bool) ∈ listed.toList := by
          have e : listed[j] = false := by simpa [hb] using hl
          rw [← e]
          exact Array.getElem_mem_toList hb
        have := List.count_pos_iff.2 this
        omega
    refine ⟨?_, done p listed a w hp h h0⟩
    cases hr : Region.ready .any ops listed with
    | nil => rfl
    | cons i r =>
      exfalso
      obtain ⟨hu, o, ho, -⟩ := ready_at h.listedSize (show i ∈ Region.ready .any ops listed by rw [hr]; simp)
      rw [h0 i (Array.getElem?_eq_some_iff.1 ho).1] at hu
      cases hu
  | succ fuel ih =>
    intro p listed a w hp hc h
    refine ⟨fun hr => done p listed a w hp h (fin p listed a w h hr), fun i hm => ?_⟩
    obtain ⟨hu, o, ho, hall⟩ := ready_at h.listedSize hm
    have hil : i < ops.size := (Array.getElem?_eq_some_iff.1 ho).1
    have hlt : i < listed.size := by rw [h.listedSize]; exact hil
    have hcount : (listed.setIfInBounds i true).toList.count false ≤ fuel := by
      have e : listed.toList[i]? = some false := by
        have : listed[i] = false := by simpa [hlt] using hu
        simp [hlt, this]
      have := count_set listed.toList i e
      simp only [Array.toList_setIfInBounds]
      omega
    obtain ⟨hacyc, hguard, hdlt, hflow⟩ := flow_at hB ho
    have hph := may_of h hp ho hu hall hO
    obtain ⟨m, hm1, hm2⟩ := preq_at ops.toList (rowsOf ops wrs) hreq i o (by simpa using ho)
    have hme : m = (o.looksAt ops, guardOf ops o, phasesOf ops wrs i, wrs.contains i) := by
      unfold rowsOf at hm1
      rw [List.getElem?_map, List.getElem?_range hil] at hm1
      simp only [Option.map_some] at hm1
      injection hm1 with hm1
      rw [← hm1]
      unfold rowOf
      rw [ho]
    subst hme
    have hk : Knows G a w (o.looksAt ops) := knows_of _ fun t ht => (h.facts t fun j q hj hq => by
      obtain ⟨e, he, hb, rfl⟩ := (hflow j q t hj hq).1 ht
      exact hall e he hb) w (hRr w)
    have hreq' := hm2 p hph a w h.reach h.inv hk
    have hle : (bif wrs.contains i then p + 1 else p) ≤ wrs.length := by
      cases hc : wrs.contains i with
      | false => exact hp
      | true =>
        rw [List.contains_iff_mem] at hc
        obtain ⟨k', hk'⟩ := List.mem_iff_getElem?.1 hc
        have h1 := (own_at_wr hO hk').1
        rw [h1] at hph
        have hpk : p = k' := by simpa using hph
        subst hpk
        have := (List.getElem?_eq_some_iff.1 hk').1
        simp only [cond_true]
        omega
    unfold wpOp
    simp only [ho]
    have go : ∀ v w', PPost R I G (bif wrs.contains i then p + 1 else p) o.dst w v w' → wpAny P .any ops Q fuel (listed.setIfInBounds i true) (a.put o.dst v) w' := fun v w' hq =>
      ih _ _ _ _ hle hcount (invP_put hRt hB hO ho hph hall h hq)
    unfold POpReq guardOf at hreq'
    cases hgd : o.guard with
    | none =>
      rw [hgd] at hreq'
      have hw : Region.wanted o (yielded ops a.tmps) = true := by unfold Region.wanted; rw [hgd]
      rw [if_pos hw]
      exact .inl (wp_of_okP hreq' go)
    | some gb =>
      obtain ⟨g, b⟩ := gb
      obtain ⟨q, d, hq, hqd⟩ := hguard g b hgd
      rw [hgd] at hreq'
      have hbind : (ops[g]?).bind (·.dst) = some d := by rw [hq]; exact hqd
      simp only [hbind, Option.map_some] at hreq'
      rw [← eval_slot] at hreq'
      rcases hreq' with ⟨he, hok⟩ | ⟨he, hp'⟩
      · have hw := wanted_of (ops := ops) hgd hbind he
        rw [if_pos (by rw [hw]; simp)]
        exact .inl (wp_of_okP hok go)
      · have hw := wanted_of (ops := ops) hgd hbind he
        rw [if_neg (by rw [hw]; cases b <;> simp)]
        exact go _ _ hp'

/-- **The law**: behind the region, whatever the order, all writers have been, and of each operation's slot is known what was to be shown. -/
theorem wp_region_phase {id : Nat} {Q : Exit → Act → World → Prop} {a0 : Act} {w : World} {l : List Oper} (R : World → World → Prop) (hRr : ∀ w, R w w) (hRt : ∀ a b c, R a b → R b c → R a c) (I : Nat → World → Prop) (G : Fact) (wrs : List Nat) (dsts : List Tmp) (ms : List Row) (size m : Nat) (hm : P.follows .mixedOrders = true)
    (hB : (flowB l.toArray size && ownB l.toArray wrs && (rowsOf l.toArray wrs == ms) && (dstsOf l.toArray == dsts) && (wrs.length == m)) = true) (hsz : a0.tmps.size = size)
    (hRd : R w w.drew) (hI0 : I 0 w.drew) (h0 : ∀ t W, t ∉ dsts → R w W → G t (a0.eval (.tmp t)) W) (hreq : PReq P R I G w l ms)
    (hend : ∀ (x : Tmp → Value) (w' : World), R w w' → I m w' → (∀ d ∈ dsts, HoldsR R G d (x d) w') → Q .normal (putAll x dsts a0) w') : (Code.region id l.toArray true).wp P Q a0 w := by
  simp only [Bool.and_eq_true, beq_iff_eq] at hB
  obtain ⟨⟨⟨⟨hf, hO⟩, hme⟩, hde⟩, hwm⟩ := hB
  subst hsz hwm
  have hmem : ∀ t : Tmp, t ∈ dsts ↔ ∃ (j : Nat) (o : Oper), l.toArray[j]? = some o ∧ o.dst = some t := fun t => by
    rw [← hde]
    unfold dstsOf
    simp only [List.mem_filterMap]
    constructor
    · rintro ⟨o, ho, hd⟩
      obtain ⟨j, hj⟩ := List.mem_iff_getElem?.1 ho
      exact ⟨j, o, by simpa using hj, hd⟩
    · rintro ⟨j, o, hj, hd⟩
      exact ⟨o, List.mem_iff_getElem?.2 ⟨j, by simpa using hj⟩, hd⟩
  refine wp_region_any hm (any_of_invP (wrs := wrs) (I := I) (G := G) (a0 := a0) (w0 := w) hRr hRt hf hO (by rw [hme]; simpa using hreq) ?_ _ 0 _ _ _ (Nat.zero_le _) ?_ ?_)
  · intro a w' listed hall hinv
    have e : a = putAll (fun t => a.eval (.tmp t)) dsts a0 := by
      have hsz := hinv.size
      have hdf := hinv.defers
      have ht : a.tmps = (putAll (fun t => a.eval (.tmp t)) dsts a0).tmps := by
        apply Array.ext_getElem?
        intro t
        by_cases hlt : t < a0.tmps.size
        · rw [putAll_get _ _ _ _ hlt]
          have hat : a.tmps[t]? = some (a.eval (.tmp t)) := by
            have : t < a.tmps.size := by rw [hsz]; exact hlt
            simp [Act.eval, this]
          by_cases hd : t ∈ dsts
          · rw [if_pos hd, hat]
          · rw [if_neg hd, hat, hinv.others t (fun j o hj hq => hd ((hmem t).2 ⟨j, o, hj, hq⟩))]
            simp [Act.eval, hlt]
        · rw [Array.getElem?_eq_none (by rw [hsz]; omega), Array.getElem?_eq_none (by rw [putAll_size]; omega)]
      have hdd : a.defers = (putAll (fun t => a.eval (.tmp t)) dsts a0).defers := by rw [putAll_defers, hdf]
      exact act_ext ht hdd
    rw [e]
    refine hend _ _ hinv.reach hinv.inv fun d hd => ?_
    exact hinv.facts d fun j o hj _ => hall j (Array.getElem?_eq_some_iff.1 hj).1
  · simp
  · refine ⟨hRd, hI0, rfl, rfl, fun t ht => ?_, fun _ _ => rfl, by simp, fun k o hk hl => ?_, fun k i hk => ?_⟩
    · have hnd : t ∉ dsts := fun hd => by
        obtain ⟨j, o, hj, hq⟩ := (hmem t).1 hd
        have := ht j o hj hq
        have hlt := (Array.getElem?_eq_some_iff.1 hj).1
        simp at hlt
        simp [hlt] at this
      exact fun W hW => h0 t W hnd (hRt _ _ _ hRd hW)
    · have hlt := (Array.getElem?_eq_some_iff.1 hk).1
      simp at hlt
      simp [hlt] at hl
    · by_cases hlt : i < l.length
      · simp [hlt]
      · simp [hlt]
end
end Go.Proofs.Ytcmnbeodejphkaa.Gw

/-! What is written lies in some blocks alone; blocks whose cells are known. -/
namespace Go.Proofs.Ytcmnbeodejphkaa
open Go.RowKit Me

/-- Outside S all that was there is as it was. -/
structure Out (S : Nat → Prop) (w w' : World) : Prop where
  os : w'.os = w.os
  tape : w'.tape = w.tape
  output : w'.output = w.output
  size : w.heap.size ≤ w'.heap.size
  block : ∀ k, k < w.heap.size → ¬ S k → w'.heap[k]? = w.heap[k]?
section
variable {S S' : Nat → Prop} {w w' a b c : World}
theorem Out.refl (S : Nat → Prop) (w : World) : Out S w w := ⟨rfl, rfl, rfl, Nat.le_refl _, fun _ _ _ => rfl⟩
theorem Out.more (h : Out S w w') (hs : ∀ k, k < w.heap.size → S k → S' k) : Out S' w w' := ⟨h.os, h.tape, h.output, h.size, fun k hk hn => h.block k hk fun hS => hn (hs k hk hS)⟩
theorem Out.trans' (h : Out S a b) (k : Out S' b c) (hs : ∀ j, S' j → S j ∨ a.heap.size ≤ j) : Out S a c :=
  ⟨k.os.trans h.os, k.tape.trans h.tape, k.output.trans h.output, Nat.le_trans h.size k.size, fun i hi hn =>
    (k.block i (Nat.lt_of_lt_of_le hi h.size) fun hS => (hs i hS).elim hn (fun h1 => by omega)).trans (h.block i hi hn)⟩
theorem Out.trans (h : Out S a b) (k : Out S b c) : Out S a c := h.trans' k fun _ hj => .inl hj
theorem Out.of_grown {row : Option Nat} (h : w.grownBy w' row) (hr : ∀ k, row = some k → k < w.heap.size → S k) : Out S w w' :=
  ⟨h.os, h.tape, h.output, h.size, fun k hk hn => h.block k hk fun e => hn (hr k e.symm hk)⟩
theorem Out.of_below (h : Below w.heap.size w w') : Out S w w' := ⟨h.os, h.tape, h.output, h.size, fun k hk _ => h.block k hk⟩
theorem Out.alloc (h : Out S w w') (o : Obj) : Out S w (w'.alloc o) := h.trans (.of_below ((Below.refl _ _).alloc (Nat.le_refl _) o))
theorem Out.setCell (h : Out S w w') {p : Addr} (hp : S p.block ∨ w.heap.size ≤ p.block) (u : Value) : Out S w (w'.setCell p u) :=
  h.trans' (S' := fun k => k = p.block) (.of_grown (grownBy_set w' p u) fun _ e _ => by injection e with e; exact e.symm) fun j hj => by subst hj; exact hp
theorem Out.below {B : Nat} (h : Out S w w') (hS : ∀ k, k < w.heap.size → S k → B ≤ k) (hB : B ≤ w.heap.size) : Below B w w' :=
  ⟨h.os, h.tape, h.output, h.size, fun k hk => h.block k (by omega) fun hs => by have := hS k (by omega) hs; omega⟩
theorem Out.cell (h : Out S w w') {p : Addr} (hp : p.block < w.heap.size) (hn : ¬ S p.block) : w'.cell? p = w.cell? p := World.cell?_of_block (h.block _ hp hn)
theorem Out.frozen (h : Out S w w') {p : Addr} (hp : p.block < w.heap.size) (hn : ¬ S p.block) : w'.frozen? p = w.frozen? p := World.frozen?_of_block (h.block _ hp hn)
theorem Out.setCells (b : Nat) : ∀ (vs : List Value) (o : Nat) {w w' : World}, Out S w w' → (S b ∨ w.heap.size ≤ b) → Out S w (w'.setCells b o vs)
  | [], _, _, _, h, _ => h
  | _ :: vs, o, _, _, h, hb => Out.setCells b vs (o + 1) (h.setCell (p := ⟨b, o, none⟩) hb _) hb
theorem Out.grown {row : Option Nat} (h : Out S w a) (hg : a.grownBy b row) (hr : ∀ k, row = some k → S k ∨ w.heap.size ≤ k) : Out S w b :=
  h.trans' (S' := fun k => row = some k) (.of_grown hg fun _ e _ => e) fun j hj => hr j hj
theorem out_drew (S : Nat → Prop) (w : World) : Out S w w.drew := ⟨rfl, rfl, rfl, Nat.le_refl _, fun _ _ _ => rfl⟩
end
/-- What holds, and goes on to hold whatever is written in T and in new memory. -/
def Kk (T : Nat → Prop) (p : World → Prop) (w : World) : Prop := ∀ w', Out T w w' → p w'
section
variable {T T' : Nat → Prop} {p q : World → Prop} {w w' : World}
theorem Kk.out (h : Kk T p w) (ho : Out T w w') : Kk T p w' := fun w2 h2 => h w2 (ho.trans h2)
theorem Kk.past (h : Kk T p w) (hb : Below w.heap.size w w') : Kk T p w' := h.out (.of_below hb)
theorem Kk.now (h : Kk T p w) : p w := h w (.refl _ _)
theorem Kk.next (h : Kk T p w) (ho : Out T w w') (hs : ∀ j, T' j → T j ∨ w.heap.size ≤ j) : Kk T' p w' := fun w2 h2 => h w2 (ho.trans' h2 hs)
theorem Kk.less (h : Kk T p w) (hs : ∀ k, k < w.heap.size → T' k → T k) : Kk T' p w := fun w2 h2 => h w2 (h2.more hs)
theorem Kk.imp (h : Kk T p w) (hs : ∀ W, Out T w W → p W → q W) : Kk T q w := fun w2 h2 => hs w2 h2 (h w2 h2)
end

/-- The cells of a block are these; it may be written. -/
def Blk (w : World) (b : Nat) (cs : List Value) : Prop := ∃ t, w.heap[b]? = some (.cells cs.toArray t (0, 0))
section
variable {S : Nat → Prop} {w w' : World} {b : Nat} {cs : List Value}
theorem Blk.lt (h : Blk w b cs) : b < w.heap.size := by obtain ⟨t, h⟩ := h; exact (Array.getElem?_eq_some_iff.1 h).1
theorem Blk.keep (h : Blk w b cs) (hk : w'.heap[b]? = w.heap[b]?) : Blk w' b cs := by obtain ⟨t, h⟩ := h; exact ⟨t, hk.trans h⟩
theorem Blk.out (h : Blk w b cs) (ho : Out S w w') (hn : ¬ S b) : Blk w' b cs := h.keep (ho.block b h.lt hn)
theorem Blk.past (h : Blk w b cs) (hb : Below w.heap.size w w') : Blk w' b cs := h.keep (hb.block b h.lt)
theorem Blk.grown {row : Option Nat} (h : Blk w b cs) (hg : w.grownBy w' row) (hne : row ≠ some b) : Blk w' b cs := h.keep (hg.block b h.lt fun e => hne e.symm)
theorem Blk.alloc (h : Blk w b cs) (o : Obj) : Blk (w.alloc o) b cs := h.keep (Below.heap_alloc w o b h.lt)
theorem Blk.drew (h : Blk w b cs) : Blk w.drew b cs := h
theorem Blk.new (w : World) (cs : List Value) (t : TypeId) : Blk (w.alloc (.cells cs.toArray t)) w.heap.size cs := ⟨t, heap_alloc_new w _⟩
theorem Blk.new' (w : World) (cs : List Value) (t : TypeId) {H : Nat} (hH : w.heap.size = H) : Blk (w.alloc (.cells cs.toArray t)) H cs := by subst hH; exact Blk.new w cs t
theorem Blk.cell (h : Blk w b cs) {i : Nat} {v : Value} (hi : cs[i]? = some v) : w.cell? ⟨b, i, none⟩ = some v := by
  obtain ⟨t, h⟩ := h
  rw [cell_of_row w b i _ t _ h]
  simpa using hi
theorem Blk.frozen (h : Blk w b cs) (i : Nat) : w.frozen? ⟨b, i, none⟩ = false := by
  obtain ⟨t, h⟩ := h
  exact frozen_of_row w b i _ t h
theorem Blk.set (h : Blk w b cs) (i : Nat) (v : Value) : Blk (w.setCell ⟨b, i, none⟩ v) b (cs.set i v) := by
  obtain ⟨t, h⟩ := h
  refine ⟨t, ?_⟩
  rw [heap_setCell_same w b i _ t v h]
  simp
theorem Blk.other (h : Blk w b cs) {p : Addr} (hp : p.block ≠ b) (v : Value) : Blk (w.setCell p v) b cs := h.keep (Below.heap_setCell _ _ _ _ (Ne.symm hp))
theorem Blk.range (h : Blk w b cs) (o n : Nat) : w.rangeAt b o ((cs.drop o).take n) := fun j v hv => by
  refine h.cell ?_
  rw [List.getElem?_take] at hv
  split at hv
  · rw [List.getElem?_drop] at hv; exact hv
  · cases hv
theorem Blk.there (h : Blk w b cs) {o n : Nat} (hn : o + n ≤ cs.length) : w.there b o n := fun j hj =>
  ⟨by rw [h.cell (List.getElem?_eq_getElem (show o + j < cs.length by omega))]; rfl, h.frozen _⟩
theorem Blk.sets {vs : List Value} {o : Nat} (h : Blk w b cs) (hn : o + vs.length ≤ cs.length) : Blk (w.setCells b o vs) b (splice cs o vs) := by
  induction vs generalizing w cs o with
  | nil =>
    have e : splice cs o [] = cs := by simp [splice]
    rw [e]
    exact h
  | cons v vs ih =>
    have := ih (h.set o v) (o := o + 1) (by simp at hn ⊢; omega)
    have e : splice (cs.set o v) (o + 1) vs = splice cs o (v :: vs) := by
      simp only [List.length_cons] at hn
      have e1 : (cs.set o v).take (o + 1) = cs.take o ++ [v] := by
        rw [List.take_add_one, List.getElem?_set_self (by omega), List.take_set_of_le (Nat.le_refl _)]
        rfl
      have e2 : (cs.set o v).drop (o + 1 + vs.length) = cs.drop (o + (vs.length + 1)) := by
        rw [List.drop_set_of_lt (by omega)]
        congr 1
        omega
      unfold splice
      rw [e1, e2]
      simp
    rw [e] at this
    exact this
theorem Blk.five {a0 a1 a2 a3 a4 : Value} (h : Blk w b [a0, a1, a2, a3, a4]) :
    w.cell? ⟨b, 0, none⟩ = some a0 ∧ w.cell? ⟨b, 1, none⟩ = some a1 ∧ w.cell? ⟨b, 2, none⟩ = some a2 ∧ w.cell? ⟨b, 3, none⟩ = some a3 ∧ w.cell? ⟨b, 4, none⟩ = some a4 :=
  ⟨h.cell rfl, h.cell rfl, h.cell rfl, h.cell rfl, h.cell rfl⟩
theorem Blk.five_free {a0 a1 a2 a3 a4 : Value} (h : Blk w b [a0, a1, a2, a3, a4]) :
    w.frozen? ⟨b, 0, none⟩ = false ∧ w.frozen? ⟨b, 1, none⟩ = false ∧ w.frozen? ⟨b, 2, none⟩ = false ∧ w.frozen? ⟨b, 3, none⟩ = false ∧ w.frozen? ⟨b, 4, none⟩ = false :=
  ⟨h.frozen _, h.frozen _, h.frozen _, h.frozen _, h.frozen _⟩
theorem Blk.set5 {a0 a1 a2 a3 a4 : Value} (h : Blk w b [a0, a1, a2, a3, a4]) (v0 v1 v2 v3 v4 : Value) :
    Blk (((((w.setCell ⟨b, 0, none⟩ v0).setCell ⟨b, 1, none⟩ v1).setCell ⟨b, 2, none⟩ v2).setCell ⟨b, 3, none⟩ v3).setCell ⟨b, 4, none⟩ v4) b [v0, v1, v2, v3, v4] :=
  ((((h.set 0 v0).set 1 v1).set 2 v2).set 3 v3).set 4 v4
theorem Blk.four {a0 a1 a2 a3 : Value} (h : Blk w b [a0, a1, a2, a3]) :
    w.cell? ⟨b, 0, none⟩ = some a0 ∧ w.cell? ⟨b, 1, none⟩ = some a1 ∧ w.cell? ⟨b, 2, none⟩ = some a2 ∧ w.cell? ⟨b, 3, none⟩ = some a3 :=
  ⟨h.cell rfl, h.cell rfl, h.cell rfl, h.cell rfl⟩
theorem Blk.four_free {a0 a1 a2 a3 : Value} (h : Blk w b [a0, a1, a2, a3]) :
    w.frozen? ⟨b, 0, none⟩ = false ∧ w.frozen? ⟨b, 1, none⟩ = false ∧ w.frozen? ⟨b, 2, none⟩ = false ∧ w.frozen? ⟨b, 3, none⟩ = false :=
  ⟨h.frozen _, h.frozen _, h.frozen _, h.frozen _⟩
end
/-- A row of one's own, behind writes elsewhere. -/
theorem own_out {S : Nat → Prop} {w w' : World} {base size n : Nat} {e : TypeId} {v : Value} {xs : List Value} (h : w.ownsRow base e size v n xs) (ho : Out S w w') (hn : ∀ k, v.ownBlock = some k → ¬ S k) : w'.ownsRow base e size v n xs := by
  refine ⟨h.1, ?_⟩
  rcases h.2 with hn' | ⟨g, cap, cur, rfl, hb, hgg, rest⟩
  · exact .inl hn'
  · refine .inr ⟨g, cap, cur, rfl, hb, ?_, rest⟩
    rw [ho.block g (Array.getElem?_eq_some_iff.1 hgg).1 (hn g rfl)]
    exact hgg
/-- What is kept behind an append to a row of one's own, whatever the elements' size. -/
theorem below_app' {B : Nat} {a w w' : World} {v : Value} {base n size : Nat} {e : TypeId} {xs : List Value} (h : Below B a w) (hown : w.ownsRow base e size v n xs) (hB : B ≤ base) (hs : B ≤ w.heap.size) (hg : w.grownBy w' v.ownBlock) : Below B a w' :=
  h.grown hg hs fun k hk => by have := (hown.lt k hk).1; omega
theorem results_cell_mid {P : Program} {fn : Func} {p : Tmp} {ty : TypeId} (h : fn.results = #[.cell p ty]) (tmps : Array Value) (w : World) (b o : Nat) (cs : List Value) (d : TypeDesc)
    (hp : tmps.getD p undef = .pointer (some ⟨b, o, none⟩)) (hc : w.rangeAt b o cs) (hu : P.underlying ty = some d) (hd : d.isRow = true) (hi : (P.info? ty).map (·.size) = some cs.length) :
    (results fn tmps).run P w = .ok (.agg cs.toArray) w := by
  have hp' : tmps[p]?.getD undef = .pointer (some ⟨b, o, none⟩) := by simpa using hp
  simp [results, h, hp', asAddr, run_loadVar_mid w b o ty cs d hc hu hd hi]
/-- Cells somewhere outside S. -/
def Cz (w : World) (S : Nat → Prop) (A : Option Addr) (vs : List Value) : Prop :=
  0 < vs.length → ∃ a, A = some a ∧ a.block < w.heap.size ∧ ¬ S a.block ∧ ∀ i v, vs[i]? = some v → w.cell? (a.add i) = some v
section
variable {S S' : Nat → Prop} {w w' : World} {A : Option Addr} {vs : List Value}
theorem Cz.cs (h : Cz w S A vs) : Cs w w.heap.size A vs := fun hn => by obtain ⟨a, e, hb, -, hc⟩ := h hn; exact ⟨a, e, hb, hc⟩
theorem Cz.empty : Cz w S A [] := fun h => by simp at h
theorem Cz.out (h : Cz w S A vs) (ho : Out S w w') : Cz w' S A vs := fun hn => by
  obtain ⟨a, e, hb, hs, hc⟩ := h hn
  exact ⟨a, e, Nat.lt_of_lt_of_le hb ho.size, hs, fun j u hu => (ho.cell (p := a.add j) (by rw [block_add]; exact hb) (by rw [block_add]; exact hs)).trans (hc j u hu)⟩
theorem Cz.past (h : Cz w S A vs) (hb : Below w.heap.size w w') : Cz w' S A vs := h.out (.of_below hb)
theorem Cz.less (h : Cz w S A vs) (hs : ∀ k, k < w.heap.size → S' k → S k) : Cz w S' A vs := fun hn => by
  obtain ⟨a, e, hb, hn', hc⟩ := h hn
  exact ⟨a, e, hb, fun hS => hn' (hs _ hb hS), hc⟩
theorem Cz.of_own {base size n c : Nat} {e : TypeId} (h : w.ownsRow base e size (.slice A n c) n vs) (hs : ∀ k, base ≤ k → k < w.heap.size → ¬ S k) : Cz w S A vs := fun hn => by
  obtain ⟨a, e', hb, hc⟩ := Cs.of_own h hn
  refine ⟨a, e', hb, hs _ ?_ hb, hc⟩
  subst e'
  exact (h.lt _ rfl).1
end
end Go.Proofs.Ytcmnbeodejphkaa

/-! A struct stored into a block of its own: the world behind it is a letter of which the block is known. -/
namespace Go.Proofs.Ytcmnbeodejphkaa
open Go.RowKit

section
variable {P : Program}
theorem run_store_blk {w : World} {b : Nat} {old : List Value} {ty : TypeId} {vs : Array Value} (hb : Blk w b old) (hl : old.length = vs.size) (hi : (P.info? ty).map (·.size) = some vs.size) (h1 : vs.all (·.oneCell') = true) :
    ∃ w', (storeVar ty ⟨b, 0, none⟩ (.agg vs)).run P w = .ok () w' ∧ Blk w' b vs.toList ∧ Out (fun k => k = b) w w' := by
  refine ⟨_, run_storeVar_mid w b 0 ty vs (hb.there (by omega)) hi h1, ?_, Out.setCells b _ _ (Out.refl _ _) (.inl rfl)⟩
  have := hb.sets (o := 0) (vs := vs.toList) (by simp [hl])
  have e : splice old 0 vs.toList = vs.toList := by
    unfold splice
    rw [List.take_zero, List.nil_append, Nat.zero_add, List.drop_of_length_le (by simp [hl]), List.append_nil]
  rwa [e] at this
theorem wpList_store_blk {ops : Array Oper} {rest : List Oper} {op : Oper} {a : Act} {w : World} {Q : Exit → Act → World → Prop} (hgd : op.guard = none) (ty : TypeId) (x y : Operand) (ho : op.op = .store ty x y)
    (b : Nat) (old : List Value) (vs : Array Value) (hx : a.eval x = .pointer (some ⟨b, 0, none⟩)) (hy : a.eval y = .agg vs) (hb : Blk w b old) (hl : old.length = vs.size) (hi : (P.info? ty).map (·.size) = some vs.size) (h1 : vs.all (·.oneCell') = true)
    (h : ∀ w', Blk w' b vs.toList → Out (fun k => k = b) w w' → wpList P ops Q rest (a.put op.dst undef) w') : wpList P ops Q (op :: rest) a w := by
  refine wpList_plain hgd fun K hK => ?_
  obtain ⟨w', hrun, h2, h3⟩ := run_store_blk (P := P) hb hl hi h1
  unfold Oper.wp execOp
  simp only [ho, hx, hy, Instr.storeAt, Instr.sureAddr, Sem.run_bind, Sem.run_pure, Result.andThen_ok, hrun]
  exact hK _ _ (h w' h2 h3)
/-- .. as an operation of a region's tail. -/
theorem wp_store_blk {op : Oper} {a : Act} {w : World} {K : Act → World → Prop} {Q : Exit → Act → World → Prop} (ty : TypeId) (x y : Operand) (ho : op.op = .store ty x y)
    (b : Nat) (old : List Value) (vs : Array Value) (hx : a.eval x = .pointer (some ⟨b, 0, none⟩)) (hy : a.eval y = .agg vs) (hb : Blk w b old) (hl : old.length = vs.size) (hi : (P.info? ty).map (·.size) = some vs.size) (h1 : vs.all (·.oneCell') = true)
    (h : ∀ w', Blk w' b vs.toList → Out (fun k => k = b) w w' → K (a.put op.dst undef) w') : Oper.wp P op a w K Q := by
  obtain ⟨w', hrun, h2, h3⟩ := run_store_blk (P := P) hb hl hi h1
  unfold Oper.wp execOp
  simp only [ho, hx, hy, Instr.storeAt, Instr.sureAddr, Sem.run_bind, Sem.run_pure, Result.andThen_ok, hrun]
  exact h w' h2 h3
/-- An append whose run is known. -/
theorem wpList_append_run {ops : Array Oper} {rest : List Oper} {op : Oper} {a : Act} {w w' : World} {Q : Exit → Act → World → Prop} (hgd : op.guard = none) (s x : Operand) (t : TypeId)
    (ho : op.op = .call { callee := .builtin .append, args := #[s, x], argTypes := #[t, t] }) (v u r : Value) (hs : a.eval s = v) (hx : a.eval x = u)
    (hr : (Builtin.append_ #[t, t] op.type #[v, u]).run P w = .ok r w') (h : wpList P ops Q rest (a.put op.dst r) w') : wpList P ops Q (op :: rest) a w := by
  refine wpList_plain hgd fun K hK => ?_
  unfold Oper.wp execOp
  simp only [ho, resolve, invoke, builtin, Sem.run_bind, Sem.run_pure, Result.andThen_ok, List.map_toArray, List.map_cons, List.map_nil, hs, hx, hr]
  exact hK _ _ h
/-- A conversion whose run is known. -/
theorem wpList_convert_run {ops : Array Oper} {rest : List Oper} {op : Oper} {a : Act} {w w' : World} {Q : Exit → Act → World → Prop} (hgd : op.guard = none) (src dst : TypeId) (x : Operand)
    (ho : op.op = .convert src dst x) (v r : Value) (hx : a.eval x = v)
    (hr : (convert src dst v).run P w = .ok r w') (h : wpList P ops Q rest (a.put op.dst r) w') : wpList P ops Q (op :: rest) a w := by
  refine wpList_plain hgd fun K hK => ?_
  unfold Oper.wp execOp
  simp only [ho, hx, hr, Sem.run_bind, Sem.run_pure, Result.andThen_ok]
  exact hK _ _ h
/-- A string's bytes, new memory. -/
theorem run_conv {P : Program} (src dst e : TypeId) (hs : P.underlying src = some .string) (hd : P.underlying dst = some (.slice e)) (he : P.underlying e = some (.int .u8)) (w : World) (l : List UInt8) :
    ∃ w' c, (convert src dst (.string ⟨l.toArray⟩)).run P w = .ok (.slice (some ⟨w.heap.size, 0, none⟩) l.length c) w' ∧ Below w.heap.size w w' ∧ w.heap.size < w'.heap.size ∧
      (∀ j u, l[j]? = some u → w'.cell? ⟨w.heap.size, j, none⟩ = some (.int .u8 (u.toNat : Int))) ∧ (∀ j, j < l.length → w'.frozen? ⟨w.heap.size, j, none⟩ = false) := by
  have hrun := run_bytes_of_string (P := P) w src dst e ⟨l.toArray⟩ hs hd he
  have hsz : (⟨l.toArray⟩ : ByteArray).size = l.length := by simp [ByteArray.size]
  rw [hsz] at hrun
  refine ⟨_, _, hrun, ?_, by simp, fun j u hu => ?_, fun j hj => ?_⟩
  · exact ((Below.refl w.heap.size w).drew).alloc (Nat.le_refl _) _
  · have hh := heap_alloc_new w.drew (.cells (bytesRow ⟨l.toArray⟩ (grownCap w l.length 0 e)) e ((bytesRow ⟨l.toArray⟩ (grownCap w l.length 0 e)).size, (bytesRow ⟨l.toArray⟩ (grownCap w l.length 0 e)).size + 1))
    have hd' : w.drew.heap.size = w.heap.size := rfl
    rw [hd'] at hh
    rw [cell_of_row _ _ _ _ _ _ hh]
    have hj := (List.getElem?_eq_some_iff.1 hu).1
    unfold bytesRow
    rw [Array.getElem?_append_left (by simpa using hj)]
    simp [hu]
  · have hh := heap_alloc_new w.drew (.cells (bytesRow ⟨l.toArray⟩ (grownCap w l.length 0 e)) e ((bytesRow ⟨l.toArray⟩ (grownCap w l.length 0 e)).size, (bytesRow ⟨l.toArray⟩ (grownCap w l.length 0 e)).size + 1))
    have hd' : w.drew.heap.size = w.heap.size := rfl
    rw [hd'] at hh
    unfold World.frozen?
    rw [hh]
    have : j < (bytesRow ⟨l.toArray⟩ (grownCap w l.length 0 e)).size := by unfold bytesRow; simp; omega
    simp
    omega
/-- A goal that nobody reckons: what is asked of a region's tail. -/
structure Tl (p : Prop) : Prop where
  out : p
theorem tl_nil {a : Act} {w : World} {Q : Exit → Act → World → Prop} (h : Q .normal a w) : Tl (Gw.seqTail P Q [] a w) := ⟨h⟩
theorem tl_store {op : Oper} {rest : List Oper} {a : Act} {w : World} {Q : Exit → Act → World → Prop} (ty : TypeId) (x y : Operand) (ho : op.op = .store ty x y)
    (b : Nat) (old : List Value) (vs : Array Value) (hx : a.eval x = .pointer (some ⟨b, 0, none⟩)) (hy : a.eval y = .agg vs) (hb : Blk w b old) (hl : old.length = vs.size) (hi : (P.info? ty).map (·.size) = some vs.size) (h1 : vs.all (·.oneCell') = true)
    (h : ∀ w', Blk w' b vs.toList → Out (fun k => k = b) w w' → Tl (Gw.seqTail P Q rest (a.put op.dst undef) w')) : Tl (Gw.seqTail P Q (op :: rest) a w) :=
  ⟨wp_store_blk ty x y ho b old vs hx hy hb hl hi h1 fun w' h2 h3 => (h w' h2 h3).out⟩
/-- XTail's law, its tail behind a name. -/
theorem wp_region_tl {id : Nat} {Q : Exit → Act → World → Prop} {a0 : Act} {w : World} {l tail : List Oper} (n : Nat) (G : Gw.Fact) (dsts : List Tmp) (ms : List (List Tmp × Option (Tmp × Bool))) (size : Nat) (hm : P.follows .mixedOrders = true)
    (hB : (Gw.flowB l.toArray size && Gw.tailB l.toArray n && decide (n ≤ l.length) && (ms == (Gw.metaOf l.toArray).take n) && ((l.take n).filterMap (·.dst) == dsts)) = true) (hsz : a0.tmps.size = size)
    (h0 : ∀ t W, t ∉ dsts → Gw.Grows w W → G t (a0.eval (.tmp t)) W) (hreq : Gw.Req P G w (l.take n) ms)
    (htail : l.drop n = tail)
    (hend : ∀ (x : Tmp → Value) (w' : World), Gw.Grows w w' → (∀ d ∈ dsts, Gw.Holds G d (x d) w') → Tl (Gw.seqTail P Q tail (Gw.putAll x dsts a0) w')) : (Code.region id l.toArray true).wp P Q a0 w :=
  Gw.wp_region_tail n G dsts ms size hm hB hsz h0 hreq htail fun x w' hg hx => (hend x w' hg hx).out
end
end Go.Proofs.Ytcmnbeodejphkaa

/-! Rows of elements of some cells each: plain mathematics. -/
namespace Go.Proofs.Ytcmnbeodejphkaa.Rw

/-- The cells of a row. -/
def rows {α : Type} (f : α → List Value) (l : List α) : List Value := l.flatMap f
section
variable {α : Type} {f : α → List Value} {s : Nat}
theorem rows_nil : rows f [] = [] := rfl
theorem rows_cons (x : α) (l : List α) : rows f (x :: l) = f x ++ rows f l := by simp [rows]
theorem rows_append (l m : List α) : rows f (l ++ m) = rows f l ++ rows f m := by simp [rows]
theorem rows_snoc (l : List α) (x : α) : rows f (l ++ [x]) = rows f l ++ f x := by simp [rows]
theorem rows_length : ∀ {l : List α}, (∀ x ∈ l, (f x).length = s) → (rows f l).length = l.length * s
  | [], _ => by simp [rows]
  | x :: l, h => by
    rw [rows_cons, List.length_append, h x (by simp), rows_length fun y hy => h y (by simp [hy]), List.length_cons, Nat.add_mul]
    omega
theorem rows_drop : ∀ {l : List α} {k : Nat}, (∀ x ∈ l, (f x).length = s) → (rows f l).drop (k * s) = rows f (l.drop k)
  | [], k, _ => by simp [rows]
  | x :: l, 0, _ => by simp
  | x :: l, k + 1, h => by
    rw [rows_cons, List.drop_succ_cons, ← rows_drop (l := l) (k := k) fun y hy => h y (by simp [hy])]
    rw [show (k + 1) * s = (f x).length + k * s by rw [h x (by simp), Nat.add_mul]; omega]
    rw [← List.drop_drop, List.drop_left']
    rfl
theorem rows_part {l : List α} {k : Nat} {x : α} (h : ∀ x ∈ l, (f x).length = s) (hk : l[k]? = some x) : ((rows f l).drop (k * s)).take s = f x := by
  obtain ⟨hlt, e⟩ := List.getElem?_eq_some_iff.1 hk
  have hx : (f x).length = s := h x (by rw [← e]; exact List.getElem_mem _)
  rw [rows_drop h, List.drop_eq_getElem_cons hlt, e, rows_cons, ← hx, List.take_left']
  rfl
theorem rows_get {l : List α} {k j : Nat} {x : α} (h : ∀ x ∈ l, (f x).length = s) (hk : l[k]? = some x) (hj : j < s) : (rows f l)[k * s + j]? = (f x)[j]? := by
  rw [← rows_part h hk, List.getElem?_take, if_pos hj, List.getElem?_drop]
theorem rows_set : ∀ {l : List α} {k : Nat} {x : α}, (∀ x ∈ l, (f x).length = s) → (f x).length = s → k < l.length → rows f (l.set k x) = splice (rows f l) (k * s) (f x)
  | [], k, _, _, _, hk => by simp at hk
  | y :: l, 0, x, h, hx, _ => by
    have hy := h y (by simp)
    rw [List.set_cons_zero, rows_cons, rows_cons]
    unfold splice
    rw [Nat.zero_mul, List.take_zero, List.nil_append, hx, Nat.zero_add, ← hy, List.drop_left']
    rfl
  | y :: l, k + 1, x, h, hx, hk => by
    have hy := h y (by simp)
    rw [List.set_cons_succ, rows_cons, rows_cons, rows_set (fun z hz => h z (by simp [hz])) hx (by simpa using hk)]
    unfold splice
    have e : (k + 1) * s = (f y).length + k * s := by rw [hy, Nat.add_mul]; omega
    rw [e, List.take_append, List.drop_append]
    have e1 : (f y).take ((f y).length + k * s) = f y := List.take_of_length_le (by omega)
    have e2 : (f y).drop ((f y).length + k * s + (f x).length) = [] := List.drop_of_length_le (by omega)
    rw [e1, e2, List.nil_append, List.append_assoc]
    congr 3
    · congr 1; omega
    · congr 2; omega
end
theorem set_splice {L p : List Value} {o j : Nat} (v : Value) (hp : (L.drop o).take p.length = p) (ho : o + p.length ≤ L.length) (hj : j < p.length) : L.set (o + j) v = splice L o (p.set j v) := by
  have e : L = L.take o ++ (p ++ L.drop (o + p.length)) := by
    have h1 : L.drop o = p ++ L.drop (o + p.length) := by
      rw [← List.drop_drop]
      conv => lhs; rw [← List.take_append_drop p.length (L.drop o), hp]
    rw [← h1, List.take_append_drop]
  have hl : (L.take o).length = o := by rw [List.length_take]; omega
  unfold splice
  rw [List.length_set]
  conv => lhs; rw [e]
  rw [List.set_append_right _ _ (by omega), hl, Nat.add_sub_cancel_left, List.set_append_left _ _ hj]
end Go.Proofs.Ytcmnbeodejphkaa.Rw
