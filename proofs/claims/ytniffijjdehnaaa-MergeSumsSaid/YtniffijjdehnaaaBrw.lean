/- Rows of bytes in memory, as an argument. -/
import Derived.Test.YtniffijjdehnaaaByts
import Derived.Deep.Grids
namespace Go.Proofs.Ytniffijjdehnaaa
open Go.RowKit Me
variable {w w' : World}

/-- A slice of bytes, the bytes. -/
abbrev Pc := Value × List UInt8
/-- It lies below a block. -/
def PcAt (w : World) (B : Nat) (p : Pc) : Prop := ∃ A n c, p.1 = .slice A n c ∧ p.2.length = n ∧ n ≤ c ∧ c ≤ 9223372036854775807 ∧ Rd w B A p.2
theorem PcAt.keep {B : Nat} {p : Pc} (h : PcAt w B p) (hk : ∀ a : Addr, a.block < B → w'.cell? a = w.cell? a) : PcAt w' B p := by
  obtain ⟨A, n, c, h1, h2, h3, h4, h5⟩ := h
  exact ⟨A, n, c, h1, h2, h3, h4, h5.keep hk⟩
open Go.ChangeShapes Go.WideShapes
/-- Bytes out of a slice's cell, their room too. -/
theorem pc_of_trod {H : Type} {enc : TypeId × Value → H} {P : Program} {W : World} {t e : TypeId} {fuel : Nat} {cs : List Value} {x : DataW H × List MemPlace} (ht : P.underlying t = some (.slice e)) (he : P.underlying e = some (.int .u8)) (hc : P.cellsOf e = 1)
    (hf : DataW.trod enc P W 0 (fun _ => true) true fuel t cs = some x) : ∃ p : Pc, cs = [p.1] ∧ PcAt W W.heap.size p := by
  rcases ChangeShapes.open_ints ht he hc hf with ⟨hcs, hx⟩ | ⟨a, len, cap, zs, hcs, _, hl, hm, hz, hx, hcell, hwz⟩
  · exact ⟨(_, []), hcs, none, 0, 0, rfl, rfl, Nat.le_refl _, by omega, Rd.empty⟩
  · simp only [if_true] at hz
    refine ⟨(_, (zs.take len).map (fun z => UInt8.ofNat z.toNat)), hcs, some a, len, cap, rfl, by simp; omega, hl, by unfold maxLen at hm; omega, fun hn => ?_⟩
    have hn' : 0 < len := by simp at hn; omega
    have h0 := hcell 0 (by omega)
    have hb := block_lt_of_cell h0
    rw [Me.block_add] at hb
    refine ⟨a, rfl, hb, fun i u hu => ?_⟩
    have hu : ((zs.take len).map (fun z => UInt8.ofNat z.toNat))[i]? = some u := hu
    rw [List.getElem?_map] at hu
    have hi : i < len := by
      rcases Nat.lt_or_ge i len with h | h
      · exact h
      · rw [List.getElem?_take, if_neg (by omega)] at hu; cases hu
    rw [List.getElem?_take, if_pos hi, List.getElem?_eq_getElem (by omega)] at hu
    injection hu with hu
    have hw := hwz zs[i] (List.getElem_mem _)
    have e1 : zs.getD i 0 = zs[i] := by rw [List.getD_eq_getElem?_getD, List.getElem?_eq_getElem (by omega)]; rfl
    rw [hcell i (by omega), e1, ← hu]
    simp [Lit.wf, IntKind.min, IntKind.max, IntKind.bits, IntKind.signed] at hw
    congr 2
    rw [UInt8.toNat_ofNat']
    omega
theorem cells_bs : Try.prog.cellsOf 25 = 1 := by kernel_rfl
/-- Rows of bytes in a row. -/
structure BRows (w : World) (B : Nat) (A : Option Addr) (es : List Pc) : Prop where
  row : Cs w B A (es.map Prod.fst)
  all : ∀ p ∈ es, PcAt w B p
theorem BRows.below {w w' : World} {B : Nat} {A : Option Addr} {es : List Pc} (h : BRows w B A es) (hb : Below B w w') : BRows w' B A es :=
  ⟨h.row.below hb, fun p hp => (h.all p hp).keep fun a ha => hb.cell ha⟩
/-- One of them. -/
theorem BRows.at {w : World} {B : Nat} {A : Option Addr} {es : List Pc} (h : BRows w B A es) {i : Nat} {p : Pc} (hi : es[i]? = some p) : ∃ a A1 n c, A = some a ∧ a.block < B ∧ w.cell? (a.add i) = some (.slice A1 n c) ∧ p.2.length = n ∧ n ≤ c ∧ c ≤ 9223372036854775807 ∧ Rd w B A1 p.2 := by
  obtain ⟨a, e, hb, hc⟩ := h.row (by rw [List.length_map]; have := (List.getElem?_eq_some_iff.1 hi).1; omega)
  obtain ⟨A1, n, c, e1, h1, h2, h3, h4⟩ := h.all p (List.mem_of_getElem? hi)
  exact ⟨a, A1, n, c, e, hb, hc i _ (by rw [List.getElem?_map, hi]; exact congrArg some e1), h1, h2, h3, h4⟩
set_option maxRecDepth 100000 in
theorem open_brows {H : Type} {enc : TypeId × Value → H} {W : World} {b0 : Nat} {v : Value} {d : DataW H} {ps : List MemPlace}
    (hv : Value.okWide Try.prog W .any b0 35 v) (h : DataW.Trod enc Try.prog W 0 (fun _ => true) true 35 v d ps) :
    ∃ (A : Option Addr) (n c : Nat) (es : List Pc), v = .slice A n c ∧ es.length = n ∧ n ≤ c ∧ c ≤ 9223372036854775807 ∧ BRows W W.heap.size A es := by
  obtain ⟨A, n, c, rfl⟩ := WideShapes.okWide_slice Try.underlying35 hv
  obtain ⟨fuel, hf⟩ := h
  rcases Go.Deep.open_slice1 Try.underlying35 cells_bs hf with ⟨hcs, hx⟩ | ⟨a, len, cap, m, n', V, D, Pl, hcs, hb, hl, hm, hmm, hx, hi⟩
  · simp [Value.cells] at hcs
    obtain ⟨rfl, rfl, rfl⟩ := hcs
    exact ⟨_, _, _, [], rfl, rfl, Nat.le_refl _, by omega, Cs.empty, fun p hp => by cases hp⟩
  · simp [Value.cells] at hcs
    obtain ⟨rfl, rfl, rfl⟩ := hcs
    simp only [if_true] at hmm
    have each : ∀ i, ∃ p : Pc, i < n → V i = p.1 ∧ PcAt W W.heap.size p := fun i => by
      by_cases hin : i < n
      · obtain ⟨p, h1, h2⟩ := pc_of_trod Try.underlying25 Try.underlying5 cells_u8 (hi i (by omega)).2
        exact ⟨p, fun _ => ⟨by simpa using h1, h2⟩⟩
      · exact ⟨(.nilFunc, []), fun h => absurd h hin⟩
    refine ⟨_, n, _, (List.range n).map fun i => (each i).choose, rfl, by simp, hl, by unfold maxLen at hm; omega, fun hn => ?_, fun p hp => ?_⟩
    · have h0 : 0 < n := by simpa using hn
      have hc0 := (hi 0 (by omega)).1
      have hb' := block_lt_of_cell hc0
      rw [Me.block_add] at hb'
      refine ⟨a, rfl, hb', fun i u hu => ?_⟩
      rw [List.map_map, List.getElem?_map] at hu
      by_cases hin : i < n
      · rw [List.getElem?_range hin] at hu
        have hu : (each i).choose.1 = u := by simpa using hu
        rw [(hi i (by omega)).1, ((each i).choose_spec hin).1, hu]
      · rw [List.getElem?_eq_none (by simp; omega)] at hu
        cases hu
    · obtain ⟨i, hir, rfl⟩ := List.mem_map.1 hp
      exact ((each i).choose_spec (List.mem_range.1 hir)).2
end Go.Proofs.Ytniffijjdehnaaa
