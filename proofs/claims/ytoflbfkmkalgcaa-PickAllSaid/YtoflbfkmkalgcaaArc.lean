/- Arcs in memory: a row of structs of two numbers; as an argument, and of one's own. -/
import Derived.Test.YtoflbfkmkalgcaaByts
namespace Go.Proofs.Ytoflbfkmkalgcaa
open Go.RowKit Me

/-- An arc: where it leads, and its weight. -/
structure ArcD where
  to : Nat
  weight : Nat
def ArcD.fits (p : ArcD) : Prop := p.to < 4294967296 ∧ p.weight < 4294967296
/-- The cells of arcs. -/
def arcCells : List ArcD → List Value
  | [] => []
  | p :: l => .int .u32 (p.to : Int) :: .int .u32 (p.weight : Int) :: arcCells l
theorem arcCells_length : ∀ l : List ArcD, (arcCells l).length = l.length * 2
  | [] => rfl
  | p :: l => by simp only [arcCells, List.length_cons, arcCells_length l]; omega
theorem arcCells_append : ∀ l m : List ArcD, arcCells (l ++ m) = arcCells l ++ arcCells m
  | [], m => rfl
  | p :: l, m => by simp only [arcCells, List.cons_append, arcCells_append l m]
theorem arcCells_get : ∀ {l : List ArcD} {k : Nat} {p : ArcD}, l[k]? = some p → (arcCells l)[k * 2]? = some (.int .u32 (p.to : Int)) ∧ (arcCells l)[k * 2 + 1]? = some (.int .u32 (p.weight : Int))
  | [], k, p, h => by simp at h
  | q :: l, 0, p, h => by
    simp at h
    subst h
    exact ⟨rfl, rfl⟩
  | q :: l, k + 1, p, h => by
    have := arcCells_get (l := l) (k := k) (p := p) (by simpa using h)
    rw [show (k + 1) * 2 = k * 2 + 1 + 1 by omega]
    simpa only [arcCells, List.getElem?_cons_succ] using this
theorem arcCells_one : ∀ {l : List ArcD}, ∀ v ∈ arcCells l, v.oneCell' = true
  | [], v, h => by simp [arcCells] at h
  | p :: l, v, h => by
    simp only [arcCells, List.mem_cons] at h
    rcases h with rfl | rfl | h
    · rfl
    · rfl
    · exact arcCells_one v h

/-- Arcs in a row, at L. -/
def Arcs (w : World) (B : Nat) (L : Option Addr) (l : List ArcD) : Prop := Cs w B L (arcCells l) ∧ ∀ p ∈ l, p.fits
section
variable {w w' : World} {B B' : Nat} {L : Option Addr} {l : List ArcD}
theorem Arcs.empty : Arcs w B L [] := ⟨Cs.empty, fun p h => by simp at h⟩
theorem Arcs.below (h : Arcs w B L l) (hb : Below B w w') : Arcs w' B L l := ⟨h.1.below hb, h.2⟩
theorem Arcs.more (h : Arcs w B L l) (hB : B ≤ B') : Arcs w B' L l := ⟨h.1.more hB, h.2⟩
theorem Arcs.of_own {base : Nat} {e : TypeId} {n c : Nat} (h : w.ownsRow base e 2 (.slice L n c) n (arcCells l)) (hf : ∀ p ∈ l, p.fits) : Arcs w w.heap.size L l := ⟨Cs.of_own h, hf⟩
theorem Arcs.at {k : Nat} (h : Arcs w B L l) (hk : k < l.length) :
    ∃ a p, L = some a ∧ l[k]? = some p ∧ a.block < B ∧ w.cell? (a.add (k * 2)) = some (.int .u32 (p.to : Int)) ∧ w.cell? ⟨(a.add (k * 2)).block, (a.add (k * 2)).off + 1, none⟩ = some (.int .u32 (p.weight : Int)) ∧
      p.to < 4294967296 ∧ p.weight < 4294967296 := by
  obtain ⟨a, rfl, hb, hc⟩ := h.1 (by rw [arcCells_length]; omega)
  have hp : l[k]? = some l[k] := List.getElem?_eq_getElem hk
  obtain ⟨h0, h1⟩ := arcCells_get hp
  have hf := h.2 l[k] (List.getElem_mem hk)
  have g1 := hc _ _ h1
  rw [add_field a (k * 2) 0] at g1
  exact ⟨a, l[k], rfl, hp, hb, hc _ _ h0, g1, hf.1, hf.2⟩
end
open Go.ChangeShapes Go.WideShapes
theorem open_arcs {H : Type} {enc : TypeId × Value → H} {P : Program} {W : World} {b0 : Nat} {t e tu : TypeId} {f0 f1 : Field} {v : Value} {d : DataW H} {ps : List MemPlace} (ht : P.underlying t = some (.slice e)) (he : P.underlying e = some (.struct #[f0, f1]))
    (hone : Go.Deep.oneCellFields P #[f0, f1] = true) (hC : P.cellsOf e = 2) (h0 : f0.type = tu) (h1 : f1.type = tu) (hu : P.underlying tu = some (.int .u32))
    (hv : Value.okWide P W .any b0 t v) (h : DataW.Trod enc P W 0 (fun _ => true) true t v d ps) :
    ∃ A n c l, v = .slice A n c ∧ l.length = n ∧ n ≤ c ∧ c ≤ 9223372036854775807 ∧ Arcs W W.heap.size A l := by
  obtain ⟨A, n, c, rfl⟩ := WideShapes.okWide_slice ht hv
  obtain ⟨fuel, hf⟩ := h
  rcases Go.Deep.open_slice ht hf with ⟨hcs, hx⟩ | ⟨a, len, cap, m, n', D, Pl, hcs, hb, hl, hm, hmm, hx, hi'⟩
  · simp [Value.cells] at hcs
    obtain ⟨rfl, rfl, rfl⟩ := hcs
    exact ⟨_, _, _, [], rfl, rfl, Nat.le_refl _, by omega, Arcs.empty⟩
  · simp [Value.cells] at hcs
    obtain ⟨rfl, rfl, rfl⟩ := hcs
    have hone' : ∀ i, i < n → ∃ p : ArcD, (W.cell? (a.add (i * 2)) = some (.int .u32 (p.to : Int)) ∧ W.cell? (a.add (i * 2 + 1)) = some (.int .u32 (p.weight : Int)) ∧ p.fits) := by
      intro i hin
      obtain ⟨cs', hc, ht'⟩ := hi' i (by rw [hmm]; simp; omega)
      rw [hC] at hc
      obtain ⟨ys, n2, hn2, hy, hlen, hyl, hfld⟩ := DataW.trod_struct he ht'
      obtain ⟨_, hcl, hat⟩ := World.cells?_some hc
      obtain ⟨o0, k0⟩ := Go.Deep.hone_of hone 0 f0 rfl
      obtain ⟨o1, k1⟩ := Go.Deep.hone_of hone 1 f1 rfl
      match cs', hcl, hat with
      | [c0, c1], _, hat =>
        match ys, hyl with
        | [y0, y1], _ =>
          have g0 := hfld 0 f0 rfl
          have g1 := hfld 1 f1 rfl
          rw [o0, k0, h0] at g0
          rw [o1, k1, h1] at g1
          obtain ⟨z0, e0, -, w0⟩ := DataW.trod_int hu g0
          obtain ⟨z1, e1, -, w1⟩ := DataW.trod_int hu g1
          simp at e0 e1
          simp [Lit.wf, IntKind.min, IntKind.max, IntKind.bits, IntKind.signed] at w0 w1
          have a0 := hat 0 (by omega)
          have a1 := hat 1 (by omega)
          simp only [add_add, Nat.add_zero] at a0 a1
          refine ⟨⟨z0.toNat, z1.toNat⟩, ?_, ?_, ?_, ?_⟩
          · rw [a0]; simp only [List.getElem?_cons_zero]; rw [e0]; congr 2; omega
          · rw [a1]; simp only [List.getElem?_cons_succ, List.getElem?_cons_zero]; rw [e1]; congr 2; omega
          · show z0.toNat < _; omega
          · show z1.toNat < _; omega
    have key : ∀ i p, ((List.range n).map (fun i => if h : i < n then (hone' i h).choose else ⟨0, 0⟩))[i]? = some p → W.cell? (a.add (i * 2)) = some (.int .u32 (p.to : Int)) ∧ W.cell? (a.add (i * 2 + 1)) = some (.int .u32 (p.weight : Int)) ∧ p.fits := by
      intro i p hp
      rw [List.getElem?_map] at hp
      by_cases hin : i < n
      · simp [hin] at hp
        subst hp
        exact (hone' i hin).choose_spec
      · simp [hin] at hp
    generalize hL : (List.range n).map (fun i => if h : i < n then (hone' i h).choose else ⟨0, 0⟩) = L at key
    have hlen : L.length = n := by rw [← hL]; simp
    refine ⟨_, n, c, L, rfl, hlen, hl, by unfold maxLen at hm; omega, ⟨fun hn => ?_, fun p hp => ?_⟩⟩
    · rw [arcCells_length, hlen] at hn
      have hn0 : 0 < n := by omega
      refine ⟨a, rfl, ?_, fun i v hv => ?_⟩
      · have := block_lt_of_cell (hone' 0 hn0).choose_spec.1
        rwa [Me.block_add] at this
      · have hi : i < n * 2 := by
          have := (List.getElem?_eq_some_iff.1 hv).1
          rw [arcCells_length, hlen] at this
          exact this
        have hk : i / 2 < L.length := by omega
        have hp := List.getElem?_eq_getElem hk
        obtain ⟨q0, q1⟩ := arcCells_get hp
        obtain ⟨c0, c1, -⟩ := key _ _ hp
        rcases Nat.mod_two_eq_zero_or_one i with e | e
        · have ei : i = i / 2 * 2 := by omega
          rw [← ei] at q0 c0
          rw [q0] at hv
          injection hv with hv
          rw [c0, hv]
        · have ei : i = i / 2 * 2 + 1 := by omega
          rw [← ei] at q1 c1
          rw [q1] at hv
          injection hv with hv
          rw [c1, hv]
    · obtain ⟨k, hk, e⟩ := List.getElem_of_mem hp
      exact (key k p (by rw [← e]; exact List.getElem?_eq_getElem hk)).2.2
end Go.Proofs.Ytoflbfkmkalgcaa
