/- A row of structs of three numbers, as an argument. -/
import Derived.Test.YtclflenaehhbjaaByt
import Derived.Deep.Slices
import Derived.Deep.Fields
import Derived.ChangeSame
namespace Go.Proofs.Ytclflenaehhbjaa
open Go.RowKit Me

/-- The numbers of an act: two of 64 bits with a sign, one without. -/
structure ActD where
  kind : Int
  n : Int
  most : Nat
/-- Structs in a row, at L. -/
def Acts (w : World) (B : Nat) (L : Option Addr) (acts : List ActD) : Prop :=
  0 < acts.length → ∃ a, L = some a ∧ a.block < B ∧ ∀ i p, acts[i]? = some p → w.cell? (a.add (i * 3)) = some (.int .i64 p.kind) ∧ w.cell? (a.add (i * 3 + 1)) = some (.int .i64 p.n) ∧ w.cell? (a.add (i * 3 + 2)) = some (.int .u64 (p.most : Int)) ∧
    -9223372036854775808 ≤ p.n ∧ p.n ≤ 9223372036854775807 ∧ p.most < 18446744073709551616
theorem Acts.below {w w' : World} {B : Nat} {L : Option Addr} {acts : List ActD} (h : Acts w B L acts) (hb : Below B w w') : Acts w' B L acts := fun hn => by
  obtain ⟨a, rfl, h1, hc⟩ := h hn
  refine ⟨a, rfl, h1, fun i p hp => ?_⟩
  obtain ⟨g1, g2, g3, g4⟩ := hc i p hp
  have k : ∀ j, w'.cell? (a.add j) = w.cell? (a.add j) := fun j => hb.cell (by rw [block_add]; exact h1)
  exact ⟨by rw [k]; exact g1, by rw [k]; exact g2, by rw [k]; exact g3, g4⟩
theorem add_field (a : Addr) (j i : Nat) : a.add (j + (i + 1)) = ⟨(a.add j).block, (a.add j).off + (i + 1), none⟩ := by
  rw [← add_add]
  generalize a.add j = b
  unfold Addr.add
  rw [if_neg (by omega)]
theorem Acts.at {w : World} {B : Nat} {L : Option Addr} {acts : List ActD} {k : Nat} (h : Acts w B L acts) (hk : k < acts.length) :
    ∃ a p, L = some a ∧ acts[k]? = some p ∧ a.block < B ∧ w.cell? (a.add (k * 3)) = some (.int .i64 p.kind) ∧ w.cell? ⟨(a.add (k * 3)).block, (a.add (k * 3)).off + 1, none⟩ = some (.int .i64 p.n) ∧ w.cell? ⟨(a.add (k * 3)).block, (a.add (k * 3)).off + 2, none⟩ = some (.int .u64 (p.most : Int)) ∧
    -9223372036854775808 ≤ p.n ∧ p.n ≤ 9223372036854775807 ∧ p.most < 18446744073709551616 := by
  obtain ⟨a, rfl, hb, hc⟩ := h (by omega)
  have := hc k _ (List.getElem?_eq_getElem hk)
  rw [add_field a (k * 3) 0, add_field a (k * 3) 1] at this
  exact ⟨a, acts[k], rfl, List.getElem?_eq_getElem hk, hb, this⟩
open Go.ChangeShapes Go.WideShapes
theorem open_acts {H : Type} {enc : TypeId × Value → H} {P : Program} {W : World} {b0 : Nat} {t e ti tu : TypeId} {f0 f1 f2 : Field} {v : Value} {d : DataW H} {ps : List MemPlace} (ht : P.underlying t = some (.slice e)) (he : P.underlying e = some (.struct #[f0, f1, f2]))
    (hone : Go.Deep.oneCellFields P #[f0, f1, f2] = true) (hC : P.cellsOf e = 3) (h0 : f0.type = ti) (h1 : f1.type = ti) (h2 : f2.type = tu) (hi : P.underlying ti = some (.int .i64)) (hu : P.underlying tu = some (.int .u64))
    (hv : Value.okWide P W .any b0 t v) (h : DataW.Trod enc P W 0 (fun _ => true) true t v d ps) :
    ∃ A n c acts, v = .slice A n c ∧ acts.length = n ∧ n ≤ c ∧ c ≤ 9223372036854775807 ∧ Acts W W.heap.size A acts := by
  obtain ⟨A, n, c, rfl⟩ := WideShapes.okWide_slice ht hv
  obtain ⟨fuel, hf⟩ := h
  rcases Go.Deep.open_slice ht hf with ⟨hcs, hx⟩ | ⟨a, len, cap, m, n', D, Pl, hcs, hb, hl, hm, hmm, hx, hi'⟩
  · simp [Value.cells] at hcs
    obtain ⟨rfl, rfl, rfl⟩ := hcs
    exact ⟨_, _, _, [], rfl, rfl, Nat.le_refl _, by omega, fun hn => by simp at hn⟩
  · simp [Value.cells] at hcs
    obtain ⟨rfl, rfl, rfl⟩ := hcs
    have hone' : ∀ i, i < n → ∃ p : ActD, (W.cell? (a.add (i * 3)) = some (.int .i64 p.kind) ∧ W.cell? (a.add (i * 3 + 1)) = some (.int .i64 p.n) ∧ W.cell? (a.add (i * 3 + 2)) = some (.int .u64 (p.most : Int)) ∧
        -9223372036854775808 ≤ p.n ∧ p.n ≤ 9223372036854775807 ∧ p.most < 18446744073709551616) := by
      intro i hin
      obtain ⟨cs', hc, ht'⟩ := hi' i (by rw [hmm]; simp; omega)
      rw [hC] at hc
      obtain ⟨ys, n2, hn2, hy, hlen, hyl, hfld⟩ := DataW.trod_struct he ht'
      obtain ⟨_, hcl, hat⟩ := World.cells?_some hc
      obtain ⟨o0, k0⟩ := Go.Deep.hone_of hone 0 f0 rfl
      obtain ⟨o1, k1⟩ := Go.Deep.hone_of hone 1 f1 rfl
      obtain ⟨o2, k2⟩ := Go.Deep.hone_of hone 2 f2 rfl
      match cs', hcl, hat with
      | [c0, c1, c2], _, hat =>
        match ys, hyl with
        | [y0, y1, y2], _ =>
          have g0 := hfld 0 f0 rfl
          have g1 := hfld 1 f1 rfl
          have g2 := hfld 2 f2 rfl
          rw [o0, k0, h0] at g0
          rw [o1, k1, h1] at g1
          rw [o2, k2, h2] at g2
          obtain ⟨z0, e0, -, w0⟩ := DataW.trod_int hi g0
          obtain ⟨z1, e1, -, w1⟩ := DataW.trod_int hi g1
          obtain ⟨z2, e2, -, w2⟩ := DataW.trod_int hu g2
          simp at e0 e1 e2
          simp [Lit.wf, IntKind.min, IntKind.max, IntKind.bits, IntKind.signed] at w1 w2
          have a0 := hat 0 (by omega)
          have a1 := hat 1 (by omega)
          have a2 := hat 2 (by omega)
          simp only [add_add, Nat.add_zero] at a0 a1 a2
          refine ⟨⟨z0, z1, z2.toNat⟩, ?_, ?_, ?_, w1.1, by have := w1.2; show z1 ≤ _; omega, ?_⟩
          · rw [a0, ← e0]; rfl
          · rw [a1, ← e1]; rfl
          · rw [a2]; simp only [List.getElem?_cons_succ, List.getElem?_cons_zero]; rw [e2]; congr 2; omega
          · show z2.toNat < _; omega
    refine ⟨_, n, c, (List.range n).map (fun i => if h : i < n then (hone' i h).choose else ⟨0, 0, 0⟩), rfl, by simp, hl, by unfold maxLen at hm; omega, fun hn => ?_⟩
    have hn0 : 0 < n := by simpa using hn
    refine ⟨a, rfl, ?_, fun i p hp => ?_⟩
    · have := block_lt_of_cell (hone' 0 hn0).choose_spec.1
      rwa [Me.block_add] at this
    · rw [List.getElem?_map] at hp
      by_cases hin : i < n
      · simp [hin] at hp
        subst hp
        exact (hone' i hin).choose_spec
      · simp [hin] at hp
end Go.Proofs.Ytclflenaehhbjaa
