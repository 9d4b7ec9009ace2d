/- Cells as an argument. -/
import Derived.Test.YtoflbfkmkalgcaaAlA
namespace Go.Proofs.Ytoflbfkmkalgcaa
open Go.RowKit Me Va Al

open Go.ChangeShapes Go.WideShapes
theorem open_cels {H : Type} {enc : TypeId × Value → H} {P : Program} {W : World} {b0 : Nat} {t e tu tv : TypeId} {f0 f1 : Field} {v : Value} {d : DataW H} {ps : List MemPlace} (ht : P.underlying t = some (.slice e)) (he : P.underlying e = some (.struct #[f0, f1]))
    (hone : Go.Deep.oneCellFields P #[f0, f1] = true) (hC : P.cellsOf e = 2) (h0 : f0.type = tu) (h1 : f1.type = tv) (hu : P.underlying tu = some (.int .u64)) (hv1 : P.underlying tv = some (.int .u32))
    (hv : Value.okWide P W .any b0 t v) (h : DataW.Trod enc P W 0 (fun _ => true) true t v d ps) :
    ∃ A n c l, v = .slice A n c ∧ l.length = n ∧ n ≤ c ∧ c ≤ 9223372036854775807 ∧ Cels W W.heap.size A l := by
  obtain ⟨A, n, c, rfl⟩ := WideShapes.okWide_slice ht hv
  obtain ⟨fuel, hf⟩ := h
  rcases Go.Deep.open_slice ht hf with ⟨hcs, hx⟩ | ⟨a, len, cap, m, n', D, Pl, hcs, hb, hl, hm, hmm, hx, hi'⟩
  · simp [Value.cells] at hcs
    obtain ⟨rfl, rfl, rfl⟩ := hcs
    exact ⟨_, _, _, [], rfl, rfl, Nat.le_refl _, by omega, ⟨Cs.empty, fun p h => by simp at h⟩⟩
  · simp [Value.cells] at hcs
    obtain ⟨rfl, rfl, rfl⟩ := hcs
    have hone' : ∀ i, i < n → ∃ p : CelD, (W.cell? (a.add (i * 2)) = some (.int .u64 (p.cut : Int)) ∧ W.cell? (a.add (i * 2 + 1)) = some (.int .u32 (p.oth : Int)) ∧ (p.cut < 18446744073709551616 ∧ p.oth < 4294967296)) := by
      intro i hin
      obtain ⟨cs', hc, ht'⟩ := hi' i (by rw [hmm]; simp; omega)
      rw [hC] at hc
      obtain ⟨ys, n2, hn2, hy, hlen, hyl, hfld⟩ := DataW.trod_struct he ht'
      obtain ⟨_, hcl, hat⟩ := World.cells?_some hc
      obtain ⟨o0, k0⟩ := Go.Deep.hone_of hone 0 f0 rfl
      obtain ⟨o1, k1⟩ := Go.Deep.hone_of hone 1 f1 rfl
      match cs', hcl, hat with
      | [c0, c1], _, hat =>
        match ys, hyl with
        | [y0, y1], _ =>
          have g0 := hfld 0 f0 rfl
          have g1 := hfld 1 f1 rfl
          rw [o0, k0, h0] at g0
          rw [o1, k1, h1] at g1
          obtain ⟨z0, e0, -, w0⟩ := DataW.trod_int hu g0
          obtain ⟨z1, e1, -, w1⟩ := DataW.trod_int hv1 g1
          simp at e0 e1
          simp [Lit.wf, IntKind.min, IntKind.max, IntKind.bits, IntKind.signed] at w0 w1
          have a0 := hat 0 (by omega)
          have a1 := hat 1 (by omega)
          simp only [add_add, Nat.add_zero] at a0 a1
          refine ⟨⟨z0.toNat, z1.toNat⟩, ?_, ?_, ?_, ?_⟩
          · rw [a0]; simp only [List.getElem?_cons_zero]; rw [e0]; congr 2; omega
          · rw [a1]; simp only [List.getElem?_cons_succ, List.getElem?_cons_zero]; rw [e1]; congr 2; omega
          · show z0.toNat < _; omega
          · show z1.toNat < _; omega
    have key : ∀ i p, ((List.range n).map (fun i => if h : i < n then (hone' i h).choose else ⟨0, 0⟩))[i]? = some p → W.cell? (a.add (i * 2)) = some (.int .u64 (p.cut : Int)) ∧ W.cell? (a.add (i * 2 + 1)) = some (.int .u32 (p.oth : Int)) ∧ (p.cut < 18446744073709551616 ∧ p.oth < 4294967296) := by
      intro i p hp
      rw [List.getElem?_map] at hp
      by_cases hin : i < n
      · simp [hin] at hp
        subst hp
        exact (hone' i hin).choose_spec
      · simp [hin] at hp
    generalize hL : (List.range n).map (fun i => if h : i < n then (hone' i h).choose else ⟨0, 0⟩) = L at key
    have hlen : L.length = n := by rw [← hL]; simp
    refine ⟨_, n, c, L, rfl, hlen, hl, by unfold maxLen at hm; omega, ⟨fun hn => ?_, fun p hp => ?_⟩⟩
    · rw [cCells_length, hlen] at hn
      have hn0 : 0 < n := by omega
      refine ⟨a, rfl, ?_, fun i v hv => ?_⟩
      · have := block_lt_of_cell (hone' 0 hn0).choose_spec.1
        rwa [Me.block_add] at this
      · have hi : i < n * 2 := by
          have := (List.getElem?_eq_some_iff.1 hv).1
          rw [cCells_length, hlen] at this
          exact this
        have hk : i / 2 < L.length := by omega
        have hp := List.getElem?_eq_getElem hk
        obtain ⟨q0, q1⟩ := cCells_get hp
        obtain ⟨c0, c1, -⟩ := key _ _ hp
        rcases Nat.mod_two_eq_zero_or_one i with e | e
        · have ei : i = i / 2 * 2 := by omega
          rw [← ei] at q0 c0
          rw [q0] at hv
          injection hv with hv
          rw [c0, hv]
        · have ei : i = i / 2 * 2 + 1 := by omega
          rw [← ei] at q1 c1
          rw [q1] at hv
          injection hv with hv
          rw [c1, hv]
    · obtain ⟨k, hk, e⟩ := List.getElem_of_mem hp
      exact (key k p (by rw [← e]; exact List.getElem?_eq_getElem hk)).2.2
end Go.Proofs.Ytoflbfkmkalgcaa
