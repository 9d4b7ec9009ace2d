/- A row of acts, as an argument. -/
import Derived.Test.YtpdhnkmihlgdjaaCel
import Derived.Test.YtpdhnkmihlgdjaaDRel
import Derived.Deep.Grids
namespace Go.Proofs.Ytpdhnkmihlgdjaa
open Go.RowKit Me Ds

/-- An act's cells, at a place. -/
def ActAt (w : World) (a : Addr) (p : AD) : Prop := (∀ j v, (aVs p)[j]? = some v → w.cell? (a.add j) = some v) ∧ p.good
/-- Acts in a row, at L. -/
def Ads (w : World) (B : Nat) (L : Option Addr) (acts : List AD) : Prop := 0 < acts.length → ∃ a, L = some a ∧ a.block < B ∧ ∀ i p, acts[i]? = some p → ActAt w (a.add (i * 7)) p
theorem Ads.below {w w' : World} {B : Nat} {L : Option Addr} {acts : List AD} (h : Ads w B L acts) (hb : Below B w w') : Ads w' B L acts := fun hn => by
  obtain ⟨a, rfl, h1, hc⟩ := h hn
  refine ⟨a, rfl, h1, fun i p hp => ?_⟩
  obtain ⟨g1, g2⟩ := hc i p hp
  exact ⟨fun j v hv => (hb.cell (by rw [block_add, block_add]; exact h1)).trans (g1 j v hv), g2⟩
open Go.ChangeShapes Go.WideShapes
set_option maxRecDepth 100000 in
theorem open_ads {H : Type} {enc : TypeId × Value → H} {P : Program} {W : World} {b0 : Nat} {t e ti tb to tu : TypeId} {f0 f1 f2 f3 f4 f5 f6 : Field} {v : Value} {d : DataW H} {ps : List MemPlace} (ht : P.underlying t = some (.slice e)) (he : P.underlying e = some (.struct #[f0, f1, f2, f3, f4, f5, f6]))
    (hone : Go.Deep.oneCellFields P #[f0, f1, f2, f3, f4, f5, f6] = true) (hC : P.cellsOf e = 7) (h0 : f0.type = ti) (h1 : f1.type = ti) (h2 : f2.type = ti) (h3 : f3.type = tb) (h4 : f4.type = to) (h5 : f5.type = tu) (h6 : f6.type = tu) (hi : P.underlying ti = some (.int .i64)) (hb8 : P.underlying tb = some (.int .u8)) (hbo : P.underlying to = some .bool) (hu : P.underlying tu = some (.int .u64))
    (hv : Value.okWide P W .any b0 t v) (h : DataW.Trod enc P W 0 (fun _ => true) true t v d ps) :
    ∃ A n c acts, v = .slice A n c ∧ acts.length = n ∧ n ≤ c ∧ c ≤ 9223372036854775807 ∧ Ads W W.heap.size A acts := by
  obtain ⟨A, n, c, rfl⟩ := WideShapes.okWide_slice ht hv
  obtain ⟨fuel, hf⟩ := h
  rcases Go.Deep.open_slice ht hf with ⟨hcs, hx⟩ | ⟨a, len, cap, m, n', D, Pl, hcs, hb, hl, hm, hmm, hx, hi'⟩
  · simp [Value.cells] at hcs
    obtain ⟨rfl, rfl, rfl⟩ := hcs
    exact ⟨_, _, _, [], rfl, rfl, Nat.le_refl _, by omega, fun hn => by simp at hn⟩
  · simp [Value.cells] at hcs
    obtain ⟨rfl, rfl, rfl⟩ := hcs
    have hone' : ∀ i, i < n → ∃ p : AD, ActAt W (a.add (i * 7)) p := by
      intro i hin
      obtain ⟨cs', hc, ht'⟩ := hi' i (by rw [hmm]; simp; omega)
      rw [hC] at hc
      obtain ⟨ys, n2, hn2, hy, hlen, hyl, hfld⟩ := DataW.trod_struct he ht'
      obtain ⟨_, hcl, hat⟩ := World.cells?_some hc
      obtain ⟨o0, k0⟩ := Go.Deep.hone_of hone 0 f0 rfl
      obtain ⟨o1, k1⟩ := Go.Deep.hone_of hone 1 f1 rfl
      obtain ⟨o2, k2⟩ := Go.Deep.hone_of hone 2 f2 rfl
      obtain ⟨o3, k3⟩ := Go.Deep.hone_of hone 3 f3 rfl
      obtain ⟨o4, k4⟩ := Go.Deep.hone_of hone 4 f4 rfl
      obtain ⟨o5, k5⟩ := Go.Deep.hone_of hone 5 f5 rfl
      obtain ⟨o6, k6⟩ := Go.Deep.hone_of hone 6 f6 rfl
      match cs', hcl, hat with
      | [c0, c1, c2, c3, c4, c5, c6], _, hat =>
        match ys, hyl with
        | [y0, y1, y2, y3, y4, y5, y6], _ =>
          have g0 := hfld 0 f0 rfl
          have g1 := hfld 1 f1 rfl
          have g2 := hfld 2 f2 rfl
          have g3 := hfld 3 f3 rfl
          have g4 := hfld 4 f4 rfl
          have g5 := hfld 5 f5 rfl
          have g6 := hfld 6 f6 rfl
          rw [o0, k0, h0] at g0
          rw [o1, k1, h1] at g1
          rw [o2, k2, h2] at g2
          rw [o3, k3, h3] at g3
          rw [o4, k4, h4] at g4
          rw [o5, k5, h5] at g5
          rw [o6, k6, h6] at g6
          obtain ⟨z0, e0, -, w0⟩ := DataW.trod_int hi g0
          obtain ⟨z1, e1, -, w1⟩ := DataW.trod_int hi g1
          obtain ⟨z2, e2, -, w2⟩ := DataW.trod_int hi g2
          obtain ⟨z3, e3, -, w3⟩ := DataW.trod_int hb8 g3
          obtain ⟨z4, e4, -⟩ := DataW.trod_bool hbo g4
          obtain ⟨z5, e5, -, w5⟩ := DataW.trod_int hu g5
          obtain ⟨z6, e6, -, w6⟩ := DataW.trod_int hu g6
          simp at e0 e1 e2 e3 e4 e5 e6
          simp [Lit.wf, IntKind.min, IntKind.max, IntKind.bits, IntKind.signed] at w2 w3 w5 w6
          subst e0 e1 e2 e3 e4 e5 e6
          refine ⟨⟨z0, z1, z2, UInt8.ofNat z3.toNat, z4, z5.toNat, z6.toNat⟩, fun j v hv => ?_, w2.1, by have := w2.2; show z2 ≤ _; omega, by show z5.toNat < _; omega, by show z6.toNat < _; omega⟩
          have h8 : ((UInt8.ofNat z3.toNat).toNat : Int) = z3 := by rw [UInt8.toNat_ofNat']; omega
          have h9 : ((z5.toNat : Nat) : Int) = z5 := by omega
          have h10 : ((z6.toNat : Nat) : Int) = z6 := by omega
          have hj : j < 7 := by
            have := (List.getElem?_eq_some_iff.1 hv).1
            rwa [aVs_length] at this
          unfold aVs at hv
          simp only [h8, h9, h10] at hv
          rw [hat j (by simpa using hj)]
          exact hv
    refine ⟨_, n, c, (List.range n).map (fun i => if h : i < n then (hone' i h).choose else ⟨0, 0, 0, 0, false, 0, 0⟩), rfl, by simp, hl, by unfold maxLen at hm; omega, fun hn => ?_⟩
    have hn0 : 0 < n := by simpa using hn
    refine ⟨a, rfl, ?_, fun i p hp => ?_⟩
    · have := block_lt_of_cell ((hone' 0 hn0).choose_spec.1 0 _ rfl)
      rwa [Me.block_add, Me.block_add] at this
    · rw [List.getElem?_map] at hp
      by_cases hin : i < n
      · simp [hin] at hp
        subst hp
        exact (hone' i hin).choose_spec
      · simp [hin] at hp
end Go.Proofs.Ytpdhnkmihlgdjaa
