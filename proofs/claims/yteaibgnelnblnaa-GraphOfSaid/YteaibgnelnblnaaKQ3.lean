/- Texts put together, for a law: Byts, Arc, EdM, EdS. -/
import Derived.WalkKit
import Derived.WalkSpells
import Derived.Lib.Hide
import Derived.Lib.SliceRun
import Derived.WalkLawsBesides
import Derived.Laws.CopyOwn
import Derived.Maps.AppendAt
import Derived.Deep.RegionLaw
import Derived.RegionTactic
import Derived.Test.YteaibgnelnblnaaKQ2
section
/-! Bytes at this program: how a law's bytes are opened, bytes read as a string, a copy of bytes. -/
namespace Go.Proofs.Yteaibgnelnblnaa
open Go.RowKit Me

theorem u8_info : (Try.prog.info? 5).map (fun i => (i.zero, i.size, i.bytes)) = some (some (.int .u8 0), 1, 1) := by kernel_rfl
/-- New memory is answered that reads as these bytes; nothing that was there has turned. -/
def News (w : World) (l : List UInt8) (e : Ending) (w' : World) : Prop :=
  ∃ v n, e = .returned v ∧ w'.ownsRow w.heap.size 5 1 v n (cellsOf l) ∧ Below w.heap.size w w'
theorem News.open {w w' : World} {l : List UInt8} {e : Ending} (h : News w l e w') :
    ∃ A n c, e = .returned (.slice A n c) ∧ l.length = n ∧ n ≤ c ∧ w'.ownsRow w.heap.size 5 1 (.slice A n c) n (cellsOf l) ∧ Rd w' w'.heap.size A l ∧ Below w.heap.size w w' := by
  obtain ⟨v, n, he, ho, hb⟩ := h
  obtain ⟨A, c, rfl⟩ := own_slice ho
  have hn := ho.1
  rw [cellsOf_length, Nat.mul_one] at hn
  refine ⟨A, n, c, he, hn, ?_, ho, Rd.of_own ho, hb⟩
  rcases Nat.eq_zero_or_pos n with h0 | h0
  · omega
  · exact own_cap ho h0

end Go.Proofs.Yteaibgnelnblnaa

/-! A copy of bytes: bytes.Clone. -/
namespace Go.Proofs.Yteaibgnelnblnaa
open Go.RowKit Me

end Go.Proofs.Yteaibgnelnblnaa

/-! Bytes of one's own that are answered with an error's number. -/
namespace Go.Proofs.Yteaibgnelnblnaa
open Go.RowKit Me

/-- Bytes of one's own and an error's number are answered. -/
def PutPost (w : World) (l : List UInt8) (x : Int) (e : Ending) (w' : World) : Prop :=
  ∃ v n, e = .returned (.tuple #[v, .int .i64 x]) ∧ w'.ownsRow w.heap.size 5 1 v n (cellsOf l) ∧ Below w.heap.size w w'
theorem PutPost.open {w w' : World} {l : List UInt8} {x : Int} {e : Ending} (h : PutPost w l x e w') :
    ∃ A n c, e = .returned (.tuple #[.slice A n c, .int .i64 x]) ∧ l.length = n ∧ n ≤ c ∧ w'.ownsRow w.heap.size 5 1 (.slice A n c) n (cellsOf l) ∧ Rd w' w'.heap.size A l ∧ Below w.heap.size w w' := by
  obtain ⟨v, n, he, ho, hb⟩ := h
  obtain ⟨A, n', c, e2, h1, h2, h3, h4, h5⟩ := News.open (w := w) (w' := w') (l := l) (e := .returned v) ⟨v, n, rfl, ho, hb⟩
  injection e2 with e2
  subst e2
  exact ⟨A, n', c, he, h1, h2, h3, h4, h5⟩
end Go.Proofs.Yteaibgnelnblnaa

/-! Equality of bytes: bytes.Equal. -/
namespace Go.Proofs.Yteaibgnelnblnaa
open Go.RowKit Me

end Go.Proofs.Yteaibgnelnblnaa

/-! Bytes copied into a row of bytes of one's own. -/
namespace Go.Proofs.Yteaibgnelnblnaa
open Go.RowKit Me

end Go.Proofs.Yteaibgnelnblnaa

/-! An append to a row of one's own as one step of a region that draws its order. -/
namespace Go.Proofs.Yteaibgnelnblnaa
open Go.RowKit Me

end Go.Proofs.Yteaibgnelnblnaa
end
section
namespace Go.Proofs.Yteaibgnelnblnaa
open Go.RowKit Me

/-- An arc: where it leads, and its weight. -/
structure ArcD where
  to : Nat
  weight : Nat
def ArcD.fits (p : ArcD) : Prop := p.to < 4294967296 ∧ p.weight < 4294967296
/-- The cells of arcs. -/
def arcCells : List ArcD → List Value
  | [] => []
  | p :: l => .int .u32 (p.to : Int) :: .int .u32 (p.weight : Int) :: arcCells l
theorem arcCells_length : ∀ l : List ArcD, (arcCells l).length = l.length * 2
  | [] => rfl
  | p :: l => by simp only [arcCells, List.length_cons, arcCells_length l]; omega
theorem arcCells_append : ∀ l m : List ArcD, arcCells (l ++ m) = arcCells l ++ arcCells m
  | [], m => rfl
  | p :: l, m => by simp only [arcCells, List.cons_append, arcCells_append l m]
theorem arcCells_get : ∀ {l : List ArcD} {k : Nat} {p : ArcD}, l[k]? = some p → (arcCells l)[k * 2]? = some (.int .u32 (p.to : Int)) ∧ (arcCells l)[k * 2 + 1]? = some (.int .u32 (p.weight : Int))
  | [], k, p, h => by simp at h
  | q :: l, 0, p, h => by
    simp at h
    subst h
    exact ⟨rfl, rfl⟩
  | q :: l, k + 1, p, h => by
    have := arcCells_get (l := l) (k := k) (p := p) (by simpa using h)
    rw [show (k + 1) * 2 = k * 2 + 1 + 1 by omega]
    simpa only [arcCells, List.getElem?_cons_succ] using this
theorem arcCells_one : ∀ {l : List ArcD}, ∀ v ∈ arcCells l, v.oneCell' = true
  | [], v, h => by simp [arcCells] at h
  | p :: l, v, h => by
    simp only [arcCells, List.mem_cons] at h
    rcases h with rfl | rfl | h
    · rfl
    · rfl
    · exact arcCells_one v h

/-- Arcs in a row, at L. -/
def Arcs (w : World) (B : Nat) (L : Option Addr) (l : List ArcD) : Prop := Cs w B L (arcCells l) ∧ ∀ p ∈ l, p.fits
section
variable {w w' : World} {B B' : Nat} {L : Option Addr} {l : List ArcD}
theorem Arcs.empty : Arcs w B L [] := ⟨Cs.empty, fun p h => by simp at h⟩
theorem Arcs.below (h : Arcs w B L l) (hb : Below B w w') : Arcs w' B L l := ⟨h.1.below hb, h.2⟩
theorem Arcs.more (h : Arcs w B L l) (hB : B ≤ B') : Arcs w B' L l := ⟨h.1.more hB, h.2⟩
theorem Arcs.of_own {base : Nat} {e : TypeId} {n c : Nat} (h : w.ownsRow base e 2 (.slice L n c) n (arcCells l)) (hf : ∀ p ∈ l, p.fits) : Arcs w w.heap.size L l := ⟨Cs.of_own h, hf⟩
theorem Arcs.at {k : Nat} (h : Arcs w B L l) (hk : k < l.length) :
    ∃ a p, L = some a ∧ l[k]? = some p ∧ a.block < B ∧ w.cell? (a.add (k * 2)) = some (.int .u32 (p.to : Int)) ∧ w.cell? ⟨(a.add (k * 2)).block, (a.add (k * 2)).off + 1, none⟩ = some (.int .u32 (p.weight : Int)) ∧
      p.to < 4294967296 ∧ p.weight < 4294967296 := by
  obtain ⟨a, rfl, hb, hc⟩ := h.1 (by rw [arcCells_length]; omega)
  have hp : l[k]? = some l[k] := List.getElem?_eq_getElem hk
  obtain ⟨h0, h1⟩ := arcCells_get hp
  have hf := h.2 l[k] (List.getElem_mem hk)
  have g1 := hc _ _ h1
  rw [add_field a (k * 2) 0] at g1
  exact ⟨a, l[k], rfl, hp, hb, hc _ _ h0, g1, hf.1, hf.2⟩
end
open Go.ChangeShapes Go.WideShapes
end Go.Proofs.Yteaibgnelnblnaa
end
section
namespace Go.Proofs.Yteaibgnelnblnaa
open Go.RowKit Me Tx Ed

/-- The cells of edges. -/
def edCells : List EdD → List Value
  | [] => []
  | p :: l => .int .u32 (p.src : Int) :: .int .u32 (p.dst : Int) :: .int .u32 (p.wgt : Int) :: edCells l
theorem edCells_length : ∀ l : List EdD, (edCells l).length = l.length * 3
  | [] => rfl
  | p :: l => by simp only [edCells, List.length_cons, edCells_length l]; omega
theorem edCells_append : ∀ l m : List EdD, edCells (l ++ m) = edCells l ++ edCells m
  | [], m => rfl
  | p :: l, m => by simp only [edCells, List.cons_append, edCells_append l m]
theorem edCells_get : ∀ {l : List EdD} {k : Nat} {p : EdD}, l[k]? = some p → (edCells l)[k * 3]? = some (.int .u32 (p.src : Int)) ∧ (edCells l)[k * 3 + 1]? = some (.int .u32 (p.dst : Int)) ∧ (edCells l)[k * 3 + 2]? = some (.int .u32 (p.wgt : Int))
  | [], k, p, h => by simp at h
  | q :: l, 0, p, h => by
    simp at h
    subst h
    exact ⟨rfl, rfl, rfl⟩
  | q :: l, k + 1, p, h => by
    have := edCells_get (l := l) (k := k) (p := p) (by simpa using h)
    rw [show (k + 1) * 3 = k * 3 + 1 + 1 + 1 by omega]
    simpa only [edCells, List.getElem?_cons_succ] using this
theorem edCells_one : ∀ {l : List EdD}, ∀ v ∈ edCells l, v.oneCell' = true
  | [], v, h => by simp [edCells] at h
  | p :: l, v, h => by
    simp only [edCells, List.mem_cons] at h
    rcases h with rfl | rfl | rfl | h
    · rfl
    · rfl
    · rfl
    · exact edCells_one v h
theorem edCells_drop : ∀ (l : List EdD) (k : Nat), (edCells l).drop (k * 3) = edCells (l.drop k)
  | l, 0 => by simp
  | [], k + 1 => by simp [edCells]
  | p :: l, k + 1 => by
    rw [show (k + 1) * 3 = k * 3 + 1 + 1 + 1 by omega]
    simp only [edCells, List.drop_succ_cons]
    exact edCells_drop l k
theorem edCells_take : ∀ (l : List EdD) (k : Nat), (edCells l).take (k * 3) = edCells (l.take k)
  | l, 0 => by simp [edCells]
  | [], k + 1 => by simp [edCells]
  | p :: l, k + 1 => by
    rw [show (k + 1) * 3 = k * 3 + 1 + 1 + 1 by omega]
    simp only [edCells, List.take_succ_cons]
    rw [edCells_take l k]

/-- Edges in a row, at L. -/
def Eds (w : World) (B : Nat) (L : Option Addr) (l : List EdD) : Prop := Cs w B L (edCells l) ∧ ∀ p ∈ l, Fits p
section
variable {w w' : World} {B B' : Nat} {L : Option Addr} {l : List EdD}
theorem Eds.empty : Eds w B L [] := ⟨Cs.empty, fun p h => by simp at h⟩
theorem Eds.below (h : Eds w B L l) (hb : Below B w w') : Eds w' B L l := ⟨h.1.below hb, h.2⟩
theorem Eds.more (h : Eds w B L l) (hB : B ≤ B') : Eds w B' L l := ⟨h.1.more hB, h.2⟩
theorem Eds.of_own {base : Nat} {e : TypeId} {n c : Nat} (h : w.ownsRow base e 3 (.slice L n c) n (edCells l)) (hf : ∀ p ∈ l, Fits p) : Eds w w.heap.size L l := ⟨Cs.of_own h, hf⟩
theorem Eds.at {k : Nat} (h : Eds w B L l) (hk : k < l.length) :
    ∃ a p, L = some a ∧ l[k]? = some p ∧ a.block < B ∧ w.cell? (a.add (k * 3)) = some (.int .u32 (p.src : Int)) ∧ w.cell? ⟨(a.add (k * 3)).block, (a.add (k * 3)).off + 1, none⟩ = some (.int .u32 (p.dst : Int)) ∧ w.cell? ⟨(a.add (k * 3)).block, (a.add (k * 3)).off + 2, none⟩ = some (.int .u32 (p.wgt : Int)) ∧ Fits p := by
  obtain ⟨a, rfl, hb, hc⟩ := h.1 (by rw [edCells_length]; omega)
  have hp : l[k]? = some l[k] := List.getElem?_eq_getElem hk
  obtain ⟨h0, h1, h2⟩ := edCells_get hp
  have hf := h.2 l[k] (List.getElem_mem hk)
  have g1 := hc _ _ h1
  have g2 := hc _ _ h2
  rw [add_field a (k * 3) 0] at g1
  rw [add_field a (k * 3) 1] at g2
  exact ⟨a, l[k], rfl, hp, hb, hc _ _ h0, g1, g2, hf⟩
/-- The edges from the k-th one on. -/
theorem Eds.drop {k c : Nat} (h : Eds w B L l) (hc : l.length ≤ c) : Eds w B (if c = k then L else L.map (·.add (k * 3))) (l.drop k) := by
  refine ⟨fun hn => ?_, fun p hp => h.2 p (List.mem_of_mem_drop hp)⟩
  rw [edCells_length, List.length_drop] at hn
  obtain ⟨a, rfl, hb, hcl⟩ := h.1 (by rw [edCells_length]; omega)
  rw [if_neg (by omega)]
  refine ⟨_, rfl, by rw [Me.block_add]; exact hb, fun i v hv => ?_⟩
  rw [Me.add_add]
  refine hcl _ _ ?_
  rw [← edCells_drop, List.getElem?_drop] at hv
  exact hv
theorem Eds.take {k : Nat} (h : Eds w B L l) : Eds w B L (l.take k) := by
  refine ⟨fun hn => ?_, fun p hp => h.2 p (List.mem_of_mem_take hp)⟩
  rw [edCells_length, List.length_take] at hn
  obtain ⟨a, rfl, hb, hcl⟩ := h.1 (by rw [edCells_length]; omega)
  refine ⟨_, rfl, hb, fun i v hv => hcl _ _ ?_⟩
  rw [← edCells_take, List.getElem?_take] at hv
  split at hv
  · exact hv
  · cases hv
end
open Go.ChangeShapes Go.WideShapes
theorem open_eds {H : Type} {enc : TypeId × Value → H} {P : Program} {W : World} {b0 : Nat} {t e tu : TypeId} {f0 f1 f2 : Field} {v : Value} {d : DataW H} {ps : List MemPlace} (ht : P.underlying t = some (.slice e)) (he : P.underlying e = some (.struct #[f0, f1, f2]))
    (hone : Go.Deep.oneCellFields P #[f0, f1, f2] = true) (hC : P.cellsOf e = 3) (h0 : f0.type = tu) (h1 : f1.type = tu) (h2 : f2.type = tu) (hu : P.underlying tu = some (.int .u32))
    (hv : Value.okWide P W .any b0 t v) (h : DataW.Trod enc P W 0 (fun _ => true) true t v d ps) :
    ∃ A n c l, v = .slice A n c ∧ l.length = n ∧ n ≤ c ∧ c ≤ 9223372036854775807 ∧ Eds W W.heap.size A l := by
  obtain ⟨A, n, c, rfl⟩ := WideShapes.okWide_slice ht hv
  obtain ⟨fuel, hf⟩ := h
  rcases Go.Deep.open_slice ht hf with ⟨hcs, hx⟩ | ⟨a, len, cap, m, n', D, Pl, hcs, hb, hl, hm, hmm, hx, hi'⟩
  · simp [Value.cells] at hcs
    obtain ⟨rfl, rfl, rfl⟩ := hcs
    exact ⟨_, _, _, [], rfl, rfl, Nat.le_refl _, by omega, Eds.empty⟩
  · simp [Value.cells] at hcs
    obtain ⟨rfl, rfl, rfl⟩ := hcs
    have hone' : ∀ i, i < n → ∃ p : EdD, (W.cell? (a.add (i * 3)) = some (.int .u32 (p.src : Int)) ∧ W.cell? (a.add (i * 3 + 1)) = some (.int .u32 (p.dst : Int)) ∧ W.cell? (a.add (i * 3 + 2)) = some (.int .u32 (p.wgt : Int)) ∧ Fits p) := by
      intro i hin
      obtain ⟨cs', hc, ht'⟩ := hi' i (by rw [hmm]; simp; omega)
      rw [hC] at hc
      obtain ⟨ys, n2, hn2, hy, hlen, hyl, hfld⟩ := DataW.trod_struct he ht'
      obtain ⟨_, hcl, hat⟩ := World.cells?_some hc
      obtain ⟨o0, k0⟩ := Go.Deep.hone_of hone 0 f0 rfl
      obtain ⟨o1, k1⟩ := Go.Deep.hone_of hone 1 f1 rfl
      obtain ⟨o2, k2⟩ := Go.Deep.hone_of hone 2 f2 rfl
      match cs', hcl, hat with
      | [c0, c1, c2], _, hat =>
        match ys, hyl with
        | [y0, y1, y2], _ =>
          have g0 := hfld 0 f0 rfl
          have g1 := hfld 1 f1 rfl
          have g2 := hfld 2 f2 rfl
          rw [o0, k0, h0] at g0
          rw [o1, k1, h1] at g1
          rw [o2, k2, h2] at g2
          obtain ⟨z0, e0, -, w0⟩ := DataW.trod_int hu g0
          obtain ⟨z1, e1, -, w1⟩ := DataW.trod_int hu g1
          obtain ⟨z2, e2, -, w2⟩ := DataW.trod_int hu g2
          simp at e0 e1 e2
          simp [Lit.wf, IntKind.min, IntKind.max, IntKind.bits, IntKind.signed] at w0 w1 w2
          have a0 := hat 0 (by omega)
          have a1 := hat 1 (by omega)
          have a2 := hat 2 (by omega)
          simp only [add_add, Nat.add_zero] at a0 a1 a2
          refine ⟨⟨z0.toNat, z1.toNat, z2.toNat⟩, ?_, ?_, ?_, ?_, ?_, ?_⟩
          · rw [a0]; simp only [List.getElem?_cons_zero]; rw [e0]; congr 2; omega
          · rw [a1]; simp only [List.getElem?_cons_succ, List.getElem?_cons_zero]; rw [e1]; congr 2; omega
          · rw [a2]; simp only [List.getElem?_cons_succ, List.getElem?_cons_zero]; rw [e2]; congr 2; omega
          · show z0.toNat < _; omega
          · show z1.toNat < _; omega
          · show z2.toNat < _; omega
    have key : ∀ i p, ((List.range n).map (fun i => if h : i < n then (hone' i h).choose else noEd))[i]? = some p → W.cell? (a.add (i * 3)) = some (.int .u32 (p.src : Int)) ∧ W.cell? (a.add (i * 3 + 1)) = some (.int .u32 (p.dst : Int)) ∧ W.cell? (a.add (i * 3 + 2)) = some (.int .u32 (p.wgt : Int)) ∧ Fits p := by
      intro i p hp
      rw [List.getElem?_map] at hp
      by_cases hin : i < n
      · simp [hin] at hp
        subst hp
        exact (hone' i hin).choose_spec
      · simp [hin] at hp
    generalize hL : (List.range n).map (fun i => if h : i < n then (hone' i h).choose else noEd) = L at key
    have hlen : L.length = n := by rw [← hL]; simp
    refine ⟨_, n, c, L, rfl, hlen, hl, by unfold maxLen at hm; omega, ⟨fun hn => ?_, fun p hp => ?_⟩⟩
    · rw [edCells_length, hlen] at hn
      have hn0 : 0 < n := by omega
      refine ⟨a, rfl, ?_, fun i v hv => ?_⟩
      · have := block_lt_of_cell (hone' 0 hn0).choose_spec.1
        rwa [Me.block_add] at this
      · have hi : i < n * 3 := by
          have := (List.getElem?_eq_some_iff.1 hv).1
          rw [edCells_length, hlen] at this
          exact this
        have hk : i / 3 < L.length := by omega
        have hp := List.getElem?_eq_getElem hk
        obtain ⟨q0, q1, q2⟩ := edCells_get hp
        obtain ⟨c0, c1, c2, -⟩ := key _ _ hp
        rcases (show i % 3 = 0 ∨ i % 3 = 1 ∨ i % 3 = 2 by omega) with e | e | e
        · have ei : i = i / 3 * 3 := by omega
          rw [← ei] at q0 c0
          rw [q0] at hv
          injection hv with hv
          rw [c0, hv]
        · have ei : i = i / 3 * 3 + 1 := by omega
          rw [← ei] at q1 c1
          rw [q1] at hv
          injection hv with hv
          rw [c1, hv]
        · have ei : i = i / 3 * 3 + 2 := by omega
          rw [← ei] at q2 c2
          rw [q2] at hv
          injection hv with hv
          rw [c2, hv]
    · obtain ⟨k, hk, e⟩ := List.getElem_of_mem hp
      exact (key k p (by rw [← e]; exact List.getElem?_eq_getElem hk)).2.2.2
/-- The value of an edge. -/
abbrev Ed.agg (e : EdD) : Value := .agg #[.int .u32 (e.src : Int), .int .u32 (e.dst : Int), .int .u32 (e.wgt : Int)]
/-- Edges of one's own are answered. -/
def EdsPost (w : World) (l : List EdD) (e : Ending) (w' : World) : Prop :=
  ∃ A c, e = .returned (.slice A l.length c) ∧ l.length ≤ c ∧ w'.ownsRow w.heap.size 58 3 (.slice A l.length c) l.length (edCells l) ∧ Below w.heap.size w w'
end Go.Proofs.Yteaibgnelnblnaa
end
section
namespace Go.Proofs.Yteaibgnelnblnaa
open Go.RowKit Me Tx Ed

set_option maxRecDepth 100000 in
set_option maxHeartbeats 400000 in
theorem esame_any (A A' : Option Addr) (n c c' : Nat) (l : List EdD) (w : World) (hl : l.length = n) (hn : n ≤ 4294967296) (h : Eds w w.heap.size A l) (h' : Eds w w.heap.size A' l) :
    Calls Try.prog 19 #[.slice A n c, .slice A' n c'] w fun e w' => e = .returned (.bool true) ∧ Below w.heap.size w w' := by
  have HL := Lib.hid hl
  have HA := Lib.hid h
  have HA' := Lib.hid h'
  have d0 : ((n : Int) != (n : Int)) = false := by simp
  clear hl h h'
  go_enter Try.func19, Try.ntmps19
  go_wp2
  go_loopw [13] (fun i wr => ∃ k : Nat, k ≤ n ∧ i = .int .i64 k ∧ Hid (Below w.heap.size w wr)) (fun i _ => n - (intOf i).toNat)
  case atStart => exact ⟨0, Nat.zero_le _, rfl, Lib.hid (Below.refl _ _)⟩
  case round =>
    obtain ⟨k, hk, rfl, HB⟩ := hrel
    by_cases hlt : k < n
    · have hlt' : k < l.length := by rw [HL.out]; exact hlt
      obtain ⟨a, p, rfl, hp, -, h0, h1, h2, h3⟩ := (HA.out.below HB.out).at hlt'
      obtain ⟨a', p', rfl, hp', -, g0, g1, g2, -⟩ := (HA'.out.below HB.out).at hlt'
      rw [hp] at hp'
      injection hp' with hp'
      subst hp'
      clear hp hlt' h3
      go_wp2
      go_region
      all_goals
        go_wp2
        go_roundw
        case rel => exact ⟨k + 1, by omega, by go_num, Lib.hid HB.out.drew⟩
        case measure => simp [intOf]; omega
    · go_wp2
      go_ret
      exact ⟨rfl, HB.out⟩
end Go.Proofs.Yteaibgnelnblnaa
end
