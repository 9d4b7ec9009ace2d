/- Texts put together, for a law: RwO. -/
import Derived.Test.YteaibgnelnblnaaKG4
section
namespace Go.Proofs.Yteaibgnelnblnaa
open Go.RowKit Me Tx Ed Mg
open Go.ChangeShapes Go.WideShapes

/-- Arcs out of a slice's cell. -/
theorem arcs_of_trod {H : Type} {enc : TypeId × Value → H} {P : Program} {W : World} {t e tu : TypeId} {f0 f1 : Field} {fuel : Nat} {cs : List Value} {x : DataW H × List MemPlace} (ht : P.underlying t = some (.slice e)) (he : P.underlying e = some (.struct #[f0, f1]))
    (hone : Go.Deep.oneCellFields P #[f0, f1] = true) (hC : P.cellsOf e = 2) (h0 : f0.type = tu) (h1 : f1.type = tu) (hu : P.underlying tu = some (.int .u32))
    (hf : DataW.trod enc P W 0 (fun _ => true) true fuel t cs = some x) :
    ∃ A n c l, cs = [.slice A n c] ∧ l.length = n ∧ n ≤ c ∧ c ≤ 9223372036854775807 ∧ Arcs W W.heap.size A l := by
  rcases Go.Deep.open_slice ht hf with ⟨hcs, hx⟩ | ⟨a, n, c, m, n', D, Pl, hcs, hb, hl, hm, hmm, hx, hi'⟩
  · exact ⟨_, _, _, [], hcs, rfl, Nat.le_refl _, by omega, Arcs.empty⟩
  · have hone' : ∀ i, i < n → ∃ p : ArcD, (W.cell? (a.add (i * 2)) = some (.int .u32 (p.to : Int)) ∧ W.cell? (a.add (i * 2 + 1)) = some (.int .u32 (p.weight : Int)) ∧ p.fits) := by
      intro i hin
      obtain ⟨cs', hc, ht'⟩ := hi' i (by rw [hmm]; simp; omega)
      rw [hC] at hc
      obtain ⟨ys, n2, hn2, hy, hlen, hyl, hfld⟩ := DataW.trod_struct he ht'
      obtain ⟨_, hcl, hat⟩ := World.cells?_some hc
      obtain ⟨o0, k0⟩ := Go.Deep.hone_of hone 0 f0 rfl
      obtain ⟨o1, k1⟩ := Go.Deep.hone_of hone 1 f1 rfl
      match cs', hcl, hat with
      | [c0, c1], _, hat =>
        match ys, hyl with
        | [y0, y1], _ =>
          have g0 := hfld 0 f0 rfl
          have g1 := hfld 1 f1 rfl
          rw [o0, k0, h0] at g0
          rw [o1, k1, h1] at g1
          obtain ⟨z0, e0, -, w0⟩ := DataW.trod_int hu g0
          obtain ⟨z1, e1, -, w1⟩ := DataW.trod_int hu g1
          simp at e0 e1
          simp [Lit.wf, IntKind.min, IntKind.max, IntKind.bits, IntKind.signed] at w0 w1
          have a0 := hat 0 (by omega)
          have a1 := hat 1 (by omega)
          simp only [add_add, Nat.add_zero] at a0 a1
          refine ⟨⟨z0.toNat, z1.toNat⟩, ?_, ?_, ?_, ?_⟩
          · rw [a0]; simp only [List.getElem?_cons_zero]; rw [e0]; congr 2; omega
          · rw [a1]; simp only [List.getElem?_cons_succ, List.getElem?_cons_zero]; rw [e1]; congr 2; omega
          · show z0.toNat < _; omega
          · show z1.toNat < _; omega
    have key : ∀ k, k ≤ n → ∃ l : List ArcD, l.length = k ∧ (∀ p ∈ l, p.fits) ∧ ∀ i u, (arcCells l)[i]? = some u → W.cell? (a.add i) = some u := by
      intro k
      induction k with
      | zero => exact fun _ => ⟨[], rfl, fun p h => (by cases h), fun i u h => by simp [arcCells] at h⟩
      | succ k ih =>
        intro hk
        obtain ⟨l, hl1, hl2, hl3⟩ := ih (by omega)
        obtain ⟨p, c0, c1, hp⟩ := hone' k (by omega)
        have hlen : (arcCells l).length = k * 2 := by rw [arcCells_length, hl1]
        refine ⟨l ++ [p], by simp [hl1], fun q hq => ?_, fun i u hu => ?_⟩
        · rcases List.mem_append.1 hq with h | h
          · exact hl2 q h
          · rw [List.mem_singleton.1 h]; exact hp
        · rw [arcCells_append] at hu
          by_cases hi : i < (arcCells l).length
          · rw [List.getElem?_append_left hi] at hu
            exact hl3 i u hu
          · rw [List.getElem?_append_right (by omega), hlen] at hu
            obtain ⟨j, hj⟩ : ∃ j, i = k * 2 + j := ⟨i - k * 2, by omega⟩
            subst hj
            rw [Nat.add_sub_cancel_left] at hu
            match j, hu with
            | 0, hu => injection hu with hu; rw [← hu]; exact c0
            | 1, hu => injection hu with hu; rw [← hu]; exact c1
            | j + 2, hu => simp [arcCells] at hu
    obtain ⟨l, hl1, hl2, hl3⟩ := key n (Nat.le_refl _)
    refine ⟨some a, n, c, l, hcs, hl1, hl, by unfold maxLen at hm; omega, fun hn => ⟨a, rfl, ?_, hl3⟩, hl2⟩
    have := block_lt_of_cell (hl3 0 _ (List.getElem?_eq_getElem hn))
    rwa [Me.block_add] at this
/-- Rows as an argument. -/
theorem open_rows {H : Type} {enc : TypeId × Value → H} {P : Program} {W : World} {b0 : Nat} {t e tu ta ea : TypeId} {f0 f1 g0 g1 : Field} {v : Value} {d : DataW H} {ps : List MemPlace} (ht : P.underlying t = some (.slice e)) (he : P.underlying e = some (.struct #[f0, f1]))
    (hone : Go.Deep.oneCellFields P #[f0, f1] = true) (hC : P.cellsOf e = 2) (h0 : f0.type = tu) (h1 : f1.type = ta) (hu : P.underlying tu = some (.int .u32))
    (hta : P.underlying ta = some (.slice ea)) (hea : P.underlying ea = some (.struct #[g0, g1])) (hone2 : Go.Deep.oneCellFields P #[g0, g1] = true) (hC2 : P.cellsOf ea = 2) (k0 : g0.type = tu) (k1 : g1.type = tu)
    (hv : Value.okWide P W .any b0 t v) (h : DataW.Trod enc P W 0 (fun _ => true) true t v d ps) :
    ∃ A n c l, v = .slice A n c ∧ l.length = n ∧ n ≤ c ∧ c ≤ 9223372036854775807 ∧ RowsAt W 0 W.heap.size A l := by
  obtain ⟨A, n, c, rfl⟩ := WideShapes.okWide_slice ht hv
  obtain ⟨fuel, hf⟩ := h
  rcases Go.Deep.open_slice ht hf with ⟨hcs, hx⟩ | ⟨a, len, cap, m, n', D, Pl, hcs, hba, hl, hm, hmm, hx, hi'⟩
  · simp [Value.cells] at hcs
    obtain ⟨rfl, rfl, rfl⟩ := hcs
    exact ⟨_, _, _, [], rfl, rfl, Nat.le_refl _, by omega, RowsAt.nil⟩
  · simp [Value.cells] at hcs
    obtain ⟨rfl, rfl, rfl⟩ := hcs
    have hone' : ∀ i, i < n → ∃ (p : RwV) (r : RwD), W.cell? (a.add (i * 2)) = some (.int .u32 (p.1 : Int)) ∧ W.cell? (a.add (i * 2 + 1)) = some (.slice p.2.1 p.2.2.1 p.2.2.2) ∧ RwAt W 0 W.heap.size p r := by
      intro i hin
      obtain ⟨cs', hc, ht'⟩ := hi' i (by rw [hmm]; simp; omega)
      rw [hC] at hc
      obtain ⟨ys, n2, hn2, hy, hlen, hyl, hfld⟩ := DataW.trod_struct he ht'
      obtain ⟨_, hcl, hat⟩ := World.cells?_some hc
      obtain ⟨o0, q0⟩ := Go.Deep.hone_of hone 0 f0 rfl
      obtain ⟨o1, q1⟩ := Go.Deep.hone_of hone 1 f1 rfl
      match cs', hcl, hat with
      | [c0, c1], _, hat =>
        match ys, hyl with
        | [y0, y1], _ =>
          have e0 := hfld 0 f0 rfl
          have e1 := hfld 1 f1 rfl
          rw [o0, q0, h0] at e0
          rw [o1, q1, h1] at e1
          obtain ⟨z0, d0, -, w0⟩ := DataW.trod_int hu e0
          obtain ⟨A2, n2', c2', l2, d1, hl2, hn2', hc2', har⟩ := arcs_of_trod hta hea hone2 hC2 k0 k1 hu e1
          simp at d0 d1
          simp [Lit.wf, IntKind.min, IntKind.max, IntKind.bits, IntKind.signed] at w0
          have a0 := hat 0 (by omega)
          have a1 := hat 1 (by omega)
          simp only [add_add, Nat.add_zero] at a0 a1
          refine ⟨(z0.toNat, A2, n2', c2'), (z0.toNat, l2), ?_, ?_, ⟨fun _ _ => Nat.zero_le _, rfl, ?_, hl2, ⟨hn2', hc2'⟩, har⟩⟩
          · rw [a0]; simp only [List.getElem?_cons_zero]; rw [d0]; congr 2; omega
          · rw [a1]; simp only [List.getElem?_cons_succ, List.getElem?_cons_zero]; rw [d1]
          · show z0.toNat < _; omega
    have key : ∀ k, k ≤ n → ∃ (vs : List RwV) (l : List RwD), vs.length = k ∧ l.length = k ∧ (∀ (i : Nat) (p : RwV) (r : RwD), vs[i]? = some p → l[i]? = some r → RwAt W 0 W.heap.size p r) ∧ ∀ i u, (rvCells vs)[i]? = some u → W.cell? (a.add i) = some u := by
      intro k
      induction k with
      | zero => exact fun _ => ⟨[], [], rfl, rfl, fun i p r h => (by simp at h), fun i u h => by simp [rvCells] at h⟩
      | succ k ih =>
        intro hk
        obtain ⟨vs, l, hv1, hl1, hl2, hl3⟩ := ih (by omega)
        obtain ⟨p, r, c0, c1, hp⟩ := hone' k (by omega)
        have hlen : (rvCells vs).length = k * 2 := by rw [rvCells_length, hv1]
        refine ⟨vs ++ [p], l ++ [r], by simp [hv1], by simp [hl1], fun i p' r' hp' hr' => ?_, fun i u hu => ?_⟩
        · by_cases hi : i < k
          · rw [List.getElem?_append_left (by omega)] at hp' hr'
            exact hl2 i p' r' hp' hr'
          · have hik : i = k := by
              have := (List.getElem?_eq_some_iff.1 hp').1
              simp [hv1] at this
              omega
            subst hik
            rw [List.getElem?_append_right (by omega), hv1, Nat.sub_self] at hp'
            rw [List.getElem?_append_right (by omega), hl1, Nat.sub_self] at hr'
            injection hp' with hp'
            injection hr' with hr'
            subst hp' hr'
            exact hp
        · rw [rvCells_append] at hu
          by_cases hi : i < (rvCells vs).length
          · rw [List.getElem?_append_left hi] at hu
            exact hl3 i u hu
          · rw [List.getElem?_append_right (by omega), hlen] at hu
            obtain ⟨j, hj⟩ : ∃ j, i = k * 2 + j := ⟨i - k * 2, by omega⟩
            subst hj
            rw [Nat.add_sub_cancel_left] at hu
            match j, hu with
            | 0, hu => injection hu with hu; rw [← hu]; exact c0
            | 1, hu => injection hu with hu; rw [← hu]; exact c1
            | j + 2, hu => simp [rvCells] at hu
    obtain ⟨vs, l, hv1, hl1, hl2, hl3⟩ := key n (Nat.le_refl _)
    refine ⟨_, n, c, l, rfl, hl1, hl, by unfold maxLen at hm; omega, ⟨⟨vs, fun hn => ⟨a, rfl, ?_, hl3⟩, hv1.trans hl1.symm, hl2⟩, fun _ _ _ => Nat.zero_le _⟩⟩
    have := block_lt_of_cell (hl3 0 _ (List.getElem?_eq_getElem hn))
    rwa [Me.block_add] at this
end Go.Proofs.Yteaibgnelnblnaa
end
