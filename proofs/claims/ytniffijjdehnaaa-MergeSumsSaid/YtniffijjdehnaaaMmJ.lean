/- Rows that are collected while an iterator is gone through. -/
import Derived.Test.YtniffijjdehnaaaMmI
import Derived.Test.YtniffijjdehnaaaApI
import Derived.OneCell
namespace Go.Proofs.Ytniffijjdehnaaa
open Go.RowKit Me Tx Ed Mg Va

theorem mrow_info : (Try.prog.info? 51).map (fun i => (i.zero, i.size, i.bytes)) = some (some (.agg #[.int .u32 0, .slice none 0 0]), 2, 32) := by kernel_rfl
theorem RwAt.kept {T : Nat → Prop} {w w' : World} {lo : Nat} {p : RwV} {r : RwD} (h : RwAt w lo w.heap.size p r) (ho : Out T w w') (hT : 0 < r.2.length → ∀ a, p.2.1 = some a → ¬ T a.block) : RwAt w' lo w'.heap.size p r :=
  { h with arcs := ⟨fun hn => by
      obtain ⟨a, e, hb, hc⟩ := h.arcs.1 hn
      exact ⟨a, e, Nat.lt_of_lt_of_le hb ho.size, fun i v hv => (ho.cell (by rw [block_add]; exact hb) (by rw [block_add]; exact hT (by rw [arcCells_length] at hn; omega) a e)).trans (hc i v hv)⟩, h.arcs.2⟩ }
/-- The rows that have come so far: a box L, a row of one's own, none of it the iterator's. -/
structure ColX (O : Nat → Prop) (B0 B L : Nat) (pre : List RwD) (W : World) (A : Option Addr) (n c : Nat) (vs : List RwV) : Prop where
  box : Blk W L [.slice A n c]
  own : W.ownsRow B0 51 2 (.slice A n c) n (rvCells vs)
  off : (Value.slice A n c).ownBlock ≠ some L
  len : vs.length = pre.length
  num : pre.length = n
  free : ∀ k, (Value.slice A n c).ownBlock = some k → ¬ O k
  rows : ∀ (i : Nat) (p : RwV) (r : RwD), vs[i]? = some p → pre[i]? = some r → RwAt W B W.heap.size p r ∧ (0 < r.2.length → ∀ a, p.2.1 = some a → ¬ O a.block ∧ (Value.slice A n c).ownBlock ≠ some a.block)
theorem ColX.stay {O O' : Nat → Prop} {B0 B L : Nat} {pre : List RwD} {W W' : World} {A : Option Addr} {n c : Nat} {vs : List RwV} (h : ColX O B0 B L pre W A n c vs) (ho : Out O W W') (hk : ∀ k, O' k → O k ∨ W.heap.size ≤ k) (hL : ¬ O L) : ColX O' B0 B L pre W' A n c vs := by
  refine ⟨h.box.out ho hL, own_out h.own ho h.free, h.off, h.len, h.num, fun k hk' hO => ?_, fun i p r hp hr => ?_⟩
  · rcases hk k hO with e | e
    · exact h.free k hk' e
    · have := (h.own.lt k hk').2; omega
  · obtain ⟨h1, h2⟩ := h.rows i p r hp hr
    refine ⟨h1.kept ho fun hn a e => (h2 hn a e).1, fun hn a e => ⟨fun hO => ?_, (h2 hn a e).2⟩⟩
    rcases hk _ hO with e' | e'
    · exact (h2 hn a e).1 e'
    · obtain ⟨a', e2, hlt, -⟩ := h1.arcs.1 (by rw [arcCells_length]; omega)
      rw [e] at e2
      injection e2 with e2
      subst e2
      omega
/-- A row more. -/
theorem ColX.push {O : Nat → Prop} {B0 B L : Nat} {pre : List RwD} {W W6 : World} {A A7 : Option Addr} {n c d7 : Nat} {vs : List RwV} {p : RwV} {r : RwD} (h : ColX O B0 B L pre W A n c vs) (hL : L < B) (hr : RwAt W B W.heap.size p r) (hrO : 0 < r.2.length → ∀ a, p.2.1 = some a → ¬ O a.block) (hrA : ∃ lo, W.ownsRow lo 59 2 (.slice p.2.1 p.2.2.1 p.2.2.2) p.2.2.1 (arcCells r.2))
    (hO : ∀ k, O k → k < W.heap.size) (ho : W6.ownsRow B0 51 2 (.slice A7 (n + 1) d7) (n + 1) (rvCells vs ++ [.int .u32 (p.1 : Int), .slice p.2.1 p.2.2.1 p.2.2.2])) (hg : W.grownBy W6 (Value.slice A n c).ownBlock) (hn : (Value.slice A7 (n + 1) d7).ownBlock = (Value.slice A n c).ownBlock ∨ (Value.slice A7 (n + 1) d7).ownBlock = some W.heap.size) :
    ColX O B0 B L (pre ++ [r]) (W6.setCell ⟨L, 0, none⟩ (.slice A7 (n + 1) d7)) A7 (n + 1) d7 (vs ++ [p]) ∧ Out (fun k => k = L ∨ (B0 ≤ k ∧ ¬ O k)) W (W6.setCell ⟨L, 0, none⟩ (.slice A7 (n + 1) d7)) := by
  have hLn : (Value.slice A n c).ownBlock ≠ some L := h.off
  have hLs : L < W.heap.size := h.box.lt
  have og : Out (fun k => (Value.slice A n c).ownBlock = some k) W W6 := Out.of_grown hg fun k e _ => e
  have oc : Out (fun k => k = L) W6 (W6.setCell ⟨L, 0, none⟩ (.slice A7 (n + 1) d7)) := (Out.refl (fun k => k = L) W6).setCell (p := ⟨L, 0, none⟩) (.inl rfl) _
  have ok : Out (fun k => (Value.slice A n c).ownBlock = some k ∨ k = L) W (W6.setCell ⟨L, 0, none⟩ (.slice A7 (n + 1) d7)) := (og.more fun k _ e => .inl e).trans (oc.more fun k _ e => .inr e)
  have hLB : ∀ {q : RwV} {s : RwD}, RwAt W B W.heap.size q s → ∀ a, q.2.1 = some a → a.block ≠ L := fun hq a e => by have := hq.low a e; omega
  have hrn : 0 < r.2.length → ∀ a, p.2.1 = some a → (Value.slice A n c).ownBlock ≠ some a.block := fun h0 a e e2 => by
    obtain ⟨lo, ha⟩ := hrA
    have hl := hr.len
    obtain ⟨g, cap, hf, -, -⟩ := ha.form (by omega)
    rw [e] at hf ha
    injection hf with f1 f2 f3
    injection f1 with f1
    subst f1
    exact own_apart h.own ha (by decide) e2 rfl
  have hnew : ∀ k, k < W.heap.size → (Value.slice A n c).ownBlock ≠ some k → (Value.slice A7 (n + 1) d7).ownBlock ≠ some k := fun k hk hne e => by
    rcases hn with e' | e'
    · rw [e'] at e; exact hne e
    · rw [e'] at e; injection e with e; omega
  have hlt : ∀ {q : RwV} {s : RwD}, RwAt W B W.heap.size q s → 0 < s.2.length → ∀ a, q.2.1 = some a → a.block < W.heap.size := fun hq h0 a e => by
    obtain ⟨a', e2, hlt, -⟩ := hq.arcs.1 (by rw [arcCells_length]; omega)
    rw [e] at e2
    injection e2 with e2
    subst e2
    exact hlt
  refine ⟨⟨?_, ?_, hnew L hLs hLn, by rw [List.length_append, List.length_append, h.len]; rfl, by rw [List.length_append, h.num]; rfl, fun k hk hO' => ?_, fun i q s hq hs => ?_⟩, ok.more fun k _ e => ?_⟩
  · exact (h.box.grown hg hLn).set 0 _
  · rw [rvCells_append]
    exact ownsRow_setCell_other ho (a := ⟨L, 0, none⟩) (hnew L hLs hLn) _
  · rcases hn with e | e
    · rw [e] at hk; exact h.free k hk hO'
    · rw [e] at hk; injection hk with hk; have := hO k hO'; omega
  · rcases Nat.lt_or_ge i vs.length with hi | hi
    · rw [List.getElem?_append_left hi] at hq
      rw [List.getElem?_append_left (by rw [← h.len]; exact hi)] at hs
      obtain ⟨h1, h2⟩ := h.rows i q s hq hs
      refine ⟨h1.kept ok fun h0 a e => ?_, fun h0 a e => ⟨(h2 h0 a e).1, hnew _ (hlt h1 h0 a e) (h2 h0 a e).2⟩⟩
      rintro (e' | e')
      · exact (h2 h0 a e).2 e'
      · exact hLB h1 a e e'
    · rw [List.getElem?_append_right hi] at hq
      rw [List.getElem?_append_right (by rw [← h.len]; exact hi), ← h.len] at hs
      rcases Nat.eq_zero_or_pos (i - vs.length) with h0 | h0
      · rw [h0] at hq hs
        injection hq with hq
        injection hs with hs
        subst hq hs
        refine ⟨hr.kept ok fun h0 a e => ?_, fun h0 a e => ⟨hrO h0 a e, hnew _ (hlt hr h0 a e) (hrn h0 a e)⟩⟩
        rintro (e' | e')
        · exact hrn h0 a e e'
        · exact hLB hr a e e'
      · obtain ⟨j, hj⟩ : ∃ j, i - vs.length = j + 1 := ⟨i - vs.length - 1, by omega⟩
        rw [hj] at hq
        simp at hq
  · rcases e with e | e
    · exact .inr ⟨(h.own.lt k e).1, h.free k e⟩
    · exact .inl e
end Go.Proofs.Ytniffijjdehnaaa
