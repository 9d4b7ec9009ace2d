/- A row of acts with numbers of blocks, as an argument. -/
import Derived.Test.YtjphjlbbeammnaaFun
import Derived.Deep.Grids
namespace Go.Proofs.Ytjphjlbbeammnaa
open Go.RowKit Me Ex

/-- An act. -/
structure AE where
  kind : Int
  n : Int
  l : List Int
/-- An act's cells, at a place. -/
def ActAt (w : World) (B : Nat) (x : Addr) (p : AE) : Prop := ∃ A n c, w.cell? x = some (.int .i64 p.kind) ∧ w.cell? ⟨x.block, x.off + 1, none⟩ = some (.int .i64 p.n) ∧ w.cell? ⟨x.block, x.off + 2, none⟩ = some (.slice A n c) ∧
  p.l.length = n ∧ n ≤ c ∧ n ≤ 9223372036854775807 ∧ Cs w B A (icells p.l)
/-- Acts in a row, at L. -/
def Acts (w : World) (B : Nat) (L : Option Addr) (acts : List AE) : Prop := 0 < acts.length → ∃ a, L = some a ∧ a.block < B ∧ ∀ i p, acts[i]? = some p → ActAt w B (a.add (i * 3)) p
theorem ActAt.below {w w' : World} {B : Nat} {x : Addr} {p : AE} (h : ActAt w B x p) (hx : x.block < B) (hb : Below B w w') : ActAt w' B x p := by
  obtain ⟨A, n, c, h1, h2, h3, h4, h5, h6, h7⟩ := h
  exact ⟨A, n, c, (hb.cell hx).trans h1, (hb.cell (p := ⟨x.block, x.off + 1, none⟩) hx).trans h2, (hb.cell (p := ⟨x.block, x.off + 2, none⟩) hx).trans h3, h4, h5, h6, h7.below hb⟩
theorem Acts.below {w w' : World} {B : Nat} {L : Option Addr} {acts : List AE} (h : Acts w B L acts) (hb : Below B w w') : Acts w' B L acts := fun hn => by
  obtain ⟨a, rfl, h1, hc⟩ := h hn
  exact ⟨a, rfl, h1, fun i p hp => (hc i p hp).below (by rw [block_add]; exact h1) hb⟩
theorem Acts.at {w : World} {B : Nat} {L : Option Addr} {acts : List AE} (h : Acts w B L acts) {i : Nat} (hi : i < acts.length) : ∃ a p, L = some a ∧ a.block < B ∧ acts[i]? = some p ∧ ActAt w B (a.add (i * 3)) p := by
  obtain ⟨a, e, h1, hc⟩ := h (by omega)
  exact ⟨a, acts[i], e, h1, List.getElem?_eq_getElem hi, hc i _ (List.getElem?_eq_getElem hi)⟩
open Go.ChangeShapes Go.WideShapes
/-- Numbers out of a slice's cell. -/
theorem ints_of_trod {H : Type} {enc : TypeId × Value → H} {P : Program} {W : World} {t e : TypeId} {fuel : Nat} {cs : List Value} {x : DataW H × List MemPlace} (ht : P.underlying t = some (.slice e)) (he : P.underlying e = some (.int .i64)) (hc : P.cellsOf e = 1)
    (hf : DataW.trod enc P W 0 (fun _ => true) true fuel t cs = some x) : ∃ A n c l, cs = [.slice A n c] ∧ l.length = n ∧ n ≤ c ∧ n ≤ 9223372036854775807 ∧ Cs W W.heap.size A (icells l) := by
  rcases ChangeShapes.open_ints ht he hc hf with ⟨hcs, hx⟩ | ⟨a, len, cap, zs, hcs, _, hl, hm, hz, hx, hcell, hwz⟩
  · exact ⟨_, _, _, [], hcs, rfl, by omega, by omega, Cs.empty⟩
  · simp only [if_true] at hz
    refine ⟨_, _, _, zs.take len, hcs, by simp; omega, hl, by unfold maxLen at hm; omega, fun hn => ?_⟩
    have hn' : 0 < len := by rw [icells_length] at hn; simp at hn; omega
    have h0 := hcell 0 (by omega)
    have hb := block_lt_of_cell h0
    rw [Me.block_add] at hb
    refine ⟨a, rfl, hb, fun i u hu => ?_⟩
    unfold icells at hu
    rw [List.getElem?_map] at hu
    have hi : i < len := by
      rcases Nat.lt_or_ge i len with h | h
      · exact h
      · rw [List.getElem?_take, if_neg (by omega)] at hu; cases hu
    rw [List.getElem?_take, if_pos hi, List.getElem?_eq_getElem (by omega)] at hu
    injection hu with hu
    have e1 : zs.getD i 0 = zs[i] := by rw [List.getD_eq_getElem?_getD, List.getElem?_eq_getElem (by omega)]; rfl
    rw [hcell i (by omega), e1, ← hu]
theorem add_at (x : Addr) (j : Nat) : x.add (j + 1) = ⟨x.block, x.off + (j + 1), none⟩ := by
  have := add_field x 0 j
  rw [Nat.zero_add] at this
  rw [this]
  unfold Addr.add
  simp
set_option maxRecDepth 100000 in
theorem open_acts {H : Type} {enc : TypeId × Value → H} {P : Program} {W : World} {b0 : Nat} {t e ti tl : TypeId} {f0 f1 f2 : Field} {v : Value} {d : DataW H} {ps : List MemPlace} (ht : P.underlying t = some (.slice e)) (he : P.underlying e = some (.struct #[f0, f1, f2]))
    (hone : Go.Deep.oneCellFields P #[f0, f1, f2] = true) (hC : P.cellsOf e = 3) (h0 : f0.type = ti) (h1 : f1.type = ti) (h2 : f2.type = tl) (hi : P.underlying ti = some (.int .i64)) (hc1 : P.cellsOf ti = 1) (hl8 : P.underlying tl = some (.slice ti))
    (hv : Value.okWide P W .any b0 t v) (h : DataW.Trod enc P W 0 (fun _ => true) true t v d ps) :
    ∃ A n c acts, v = .slice A n c ∧ acts.length = n ∧ n ≤ c ∧ c ≤ 9223372036854775807 ∧ Acts W W.heap.size A acts := by
  obtain ⟨A, n, c, rfl⟩ := WideShapes.okWide_slice ht hv
  obtain ⟨fuel, hf⟩ := h
  rcases Go.Deep.open_slice ht hf with ⟨hcs, hx⟩ | ⟨a, len, cap, m, n', D, Pl, hcs, hb, hl, hm, hmm, hx, hi'⟩
  · simp [Value.cells] at hcs
    obtain ⟨rfl, rfl, rfl⟩ := hcs
    exact ⟨_, _, _, [], rfl, rfl, Nat.le_refl _, by omega, fun hn => by simp at hn⟩
  · simp [Value.cells] at hcs
    obtain ⟨rfl, rfl, rfl⟩ := hcs
    have hone' : ∀ i, i < n → ∃ p : AE, ActAt W W.heap.size (a.add (i * 3)) p := by
      intro i hin
      obtain ⟨cs', hc, ht'⟩ := hi' i (by rw [hmm]; simp; omega)
      rw [hC] at hc
      obtain ⟨ys, n2, hn2, hy, hlen, hyl, hfld⟩ := DataW.trod_struct he ht'
      obtain ⟨_, hcl, hat⟩ := World.cells?_some hc
      obtain ⟨o0, k0⟩ := Go.Deep.hone_of hone 0 f0 rfl
      obtain ⟨o1, k1⟩ := Go.Deep.hone_of hone 1 f1 rfl
      obtain ⟨o2, k2⟩ := Go.Deep.hone_of hone 2 f2 rfl
      match cs', hcl, hat with
      | [c0, c1, c2], _, hat =>
        match ys, hyl with
        | [y0, y1, y2], _ =>
          have g0 := hfld 0 f0 rfl
          have g1 := hfld 1 f1 rfl
          have g2 := hfld 2 f2 rfl
          rw [o0, k0, h0] at g0
          rw [o1, k1, h1] at g1
          rw [o2, k2, h2] at g2
          obtain ⟨z0, e0, -, w0⟩ := DataW.trod_int hi g0
          obtain ⟨z1, e1, -, w1⟩ := DataW.trod_int hi g1
          obtain ⟨A, n3, c3, l, e2, q1, q2, q3, q4⟩ := ints_of_trod hl8 hi hc1 g2
          simp at e0 e1 e2
          subst e0 e1 e2
          have a0 := hat 0 (by simp)
          have a1 := hat 1 (by simp)
          have a2 := hat 2 (by simp)
          have ez : (a.add (i * 3)).add 0 = a.add (i * 3) := by unfold Addr.add; simp
          rw [ez] at a0
          rw [add_at _ 0] at a1
          rw [add_at _ 1] at a2
          exact ⟨⟨z0, z1, l⟩, A, n3, c3, a0, a1, a2, q1, q2, q3, q4⟩
    refine ⟨_, n, c, (List.range n).map (fun i => if h : i < n then (hone' i h).choose else ⟨0, 0, []⟩), rfl, by simp, hl, by unfold maxLen at hm; omega, fun hn => ?_⟩
    have hn0 : 0 < n := by simpa using hn
    refine ⟨a, rfl, ?_, fun i p hp => ?_⟩
    · obtain ⟨A, n, c, h1, -⟩ := (hone' 0 hn0).choose_spec
      have := block_lt_of_cell h1
      rwa [Me.block_add] at this
    · rw [List.getElem?_map] at hp
      by_cases hin : i < n
      · simp [hin] at hp
        subst hp
        exact (hone' i hin).choose_spec
      · simp [hin] at hp
/-- Is there more than is gone through? It is told, whatever it is. -/
theorem great_any (count : Int) (A : Option Addr) (n c : Nat) (acts : List AE) (w : World) (B : Nat) (hl : acts.length = n) (hn : n ≤ 9223372036854775807) (h : Acts w B A acts) :
    Calls Try.prog 6 #[.int .i64 count, .slice A n c] w fun e w' => (∃ b, e = .returned (.bool b)) ∧ w = w' := by
  have HL := Lib.hid hl
  have HA := Lib.hid h
  clear hl h
  have hway : (decide (300 < count) = true) ∨ (decide (300 < count) = false ∧ decide ((100 : Int) < (n : Int)) = true) ∨ (decide (300 < count) = false ∧ decide ((100 : Int) < (n : Int)) = false) := by
    by_cases h1 : 300 < count
    · exact .inl (by simp; omega)
    · by_cases h2 : 100 < n
      · exact .inr (.inl ⟨by simp; omega, by simp; omega⟩)
      · exact .inr (.inr ⟨by simp; omega, by simp; omega⟩)
  rcases hway with d0 | ⟨d0, d1⟩ | ⟨d0, d1⟩
  iterate 2
    · go_enter Try.func6, Try.ntmps6
      go_wp2
      go_ret
      exact ⟨⟨_, rfl⟩, rfl⟩
  go_enter Try.func6, Try.ntmps6
  go_wp2
  go_loopw [5] (fun x wr => ∃ j : Nat, x = .int .i64 (j : Int) ∧ j ≤ n ∧ w = wr) (fun x _ => n - (intOf x).toNat)
  case atStart => exact ⟨0, rfl, Nat.zero_le _, rfl⟩
  case round =>
    obtain ⟨j, rfl, hjn, rfl⟩ := hrel
    by_cases hlt : j < n
    · obtain ⟨a, p, rfl, -, -, A2, n2, c2, g0, g1, g2, -⟩ := HA.out.at (i := j) (by rw [HL.out]; exact hlt)
      have hlti : (j : Int) < (n : Int) := by omega
      by_cases h2 : 300 < n2
      · have d3 : decide ((300 : Int) < (n2 : Int)) = true := by simp; omega
        have d4 : decide (300 < n2) = true := by simp; omega
        go_wp2
        go_ret
        exact ⟨⟨_, rfl⟩, rfl⟩
      · have d3 : decide ((300 : Int) < (n2 : Int)) = false := by simp; omega
        have d4 : decide (300 < n2) = false := by simp; omega
        go_wp2
        go_roundw
        case rel => exact ⟨j + 1, by go_num, by omega, trivial⟩
        case measure => simp [intOf]; omega
    · go_wp2
      go_ret
      exact ⟨⟨_, rfl⟩, rfl⟩
end Go.Proofs.Ytjphjlbbeammnaa
