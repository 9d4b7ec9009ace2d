/- An act of the law's: what it leaves, what is common to the acts. -/
import Derived.Test.YtpdhnkmihlgdjaaDRel
import Derived.Test.YtpdhnkmihlgdjaaDSyncs
import Derived.Laws.OwnMore
namespace Go.Proofs.Ytpdhnkmihlgdjaa
open Go.RowKit Me Rw Ds

/-- An act is answered as the document says; both disks behind it. -/
def DoesPost (w : World) (B D : Nat) (own : Nat → Prop) (S : Dsk) (m : RefM) (e : Ending) (w' : World) : Prop :=
  ∃ v own', e = .returned (.tuple #[.bool true, v]) ∧ DiskAt w' B D S own' ∧ RVal w' own' m v ∧ Out own w w' ∧ (∀ j, own' j → own j ∨ w.heap.size + 3 ≤ j) ∧ w.heap.size + 3 ≤ w'.heap.size ∧ ∃ cs, Blk w' (w.heap.size + 1) cs ∧ cs.length = 7
theorem does_mid {w w4 w5 : World} {B D : Nat} {S S' : Dsk} {m : RefM} {own : Nat → Prop} {Am Aw : Option Addr} {cm cw : Nat} (hd : DiskAt w B D S own) (hr : RefAt w own m Am cm Aw cw) (hb : Below w.heap.size w w4) (hp : DPost w4 B D S' own w5) :
    ∃ own5 own6, DiskAt w5 B D S' own5 ∧ (∀ j, own5 j → own j ∨ w4.heap.size ≤ j) ∧ Out own w w5 ∧ Out own w4 w5 ∧ (∀ j, own6 j ↔ own j ∨ (w.heap.size ≤ j ∧ j < w5.heap.size)) ∧ RefAt w5 own6 m Am cm Aw cw ∧ ∀ j, own6 j → j < w5.heap.size := by
  obtain ⟨own5, h1, h2, h3⟩ := hp
  have h4 : Out own w w5 := (Out.of_below (S := own) hb).trans h2
  refine ⟨own5, fun j => own j ∨ (w.heap.size ≤ j ∧ j < w5.heap.size), h1, h3, h4, h2, fun _ => Iff.rfl, ?_, fun j hj => ?_⟩
  · refine (hr.less (own' := fun j => own j ∨ (w.heap.size ≤ j ∧ j < w5.heap.size)) fun k hk ho => ?_).out (h4.more fun k _ ho => .inl ho)
    rcases ho with ho | ho
    · exact ho
    · omega
  · rcases hj with hj | hj
    · have := (hd.lt hj).2; have := h4.size; omega
    · exact hj.2
theorem does_fin {w w5 w6 wF : World} {B D : Nat} {S' : Dsk} {m' : RefM} {own own5 own6 T : Nat → Prop} {v : Value} (h3 : w.heap.size + 3 ≤ w5.heap.size) (hb7 : ∃ cs, Blk w5 (w.heap.size + 1) cs ∧ cs.length = 7) (h7 : ¬ T (w.heap.size + 1)) (hd5 : DiskAt w5 B D S' own5) (hn5 : ∀ j, own5 j → own j ∨ w.heap.size + 3 ≤ j) (ho5 : Out own w w5)
    (hO6 : ∀ j, own6 j ↔ own j ∨ (w.heap.size ≤ j ∧ j < w5.heap.size)) (hb6 : Below w5.heap.size w5 w6) (hv : RVal w6 own6 m' v) (hT : Out T w6 wF) (h1 : ∀ j, T j → w.heap.size ≤ j ∧ j < w5.heap.size ∧ ¬ own5 j) :
    DoesPost w B D own S' m' (.returned (.tuple #[.bool true, v])) wF := by
  refine ⟨v, own5, rfl, (hd5.past hb6).out hT fun k hk ht => (h1 k ht).2.2 hk, ?_, ?_, hn5, by have := hb6.size; have := hT.size; omega, by
    obtain ⟨cs, hb, hl⟩ := hb7
    exact ⟨cs, (hb.past hb6).out hT h7, hl⟩⟩
  · refine (hv.out (hT.more fun k _ ht => (hO6 k).2 (.inr ⟨(h1 k ht).1, (h1 k ht).2.1⟩))).less fun k _ hk => (hO6 k).2 ?_
    rcases hn5 k hk with h | h
    · exact .inl h
    · exact .inr ⟨by omega, (hd5.lt hk).2⟩
  · refine (ho5.trans (.of_below hb6)).trans' hT fun j hj => .inr (h1 j hj).1
/-- Bytes that may be written. -/
def Wr (w : World) (g n : Nat) : Prop := ∀ j, j < n → (∃ v, w.cell? ⟨g, j, none⟩ = some v) ∧ w.frozen? ⟨g, j, none⟩ = false
theorem Wr.set {w : World} {g n : Nat} (h : Wr w g n) {k : Nat} (hk : k < n) (v : Value) : Wr (w.setCell ⟨g, k, none⟩ v) g n := fun j hj => by
  obtain ⟨⟨u, hu⟩, hf⟩ := h j hj
  obtain ⟨⟨u', hu'⟩, -⟩ := h k hk
  refine ⟨?_, by rw [World.frozen?_setCell]; exact hf⟩
  by_cases e : k = j
  · subst e; exact ⟨v, World.cell?_setCell_same _ _ _ hu'⟩
  · exact ⟨u, by rw [World.cell?_setCell_other _ _ _ _ (by first | (intro h; injection h with h1 h2; exact e h2) | simp)]; exact hu⟩
theorem Wr.out {w w' : World} {g n : Nat} {T : Nat → Prop} (h : Wr w g n) (ho : Out T w w') (hg : g < w.heap.size) (hn : ¬ T g) : Wr w' g n := fun j hj => by
  obtain ⟨⟨u, hu⟩, hf⟩ := h j hj
  exact ⟨⟨u, by rw [ho.cell (p := ⟨g, j, none⟩) hg hn]; exact hu⟩, by rw [ho.frozen (p := ⟨g, j, none⟩) hg hn]; exact hf⟩
theorem Wr.blk {w : World} {g : Nat} {cs : List Value} (h : Blk w g cs) : Wr w g cs.length := fun j hj => ⟨⟨_, h.cell (List.getElem?_eq_getElem hj)⟩, h.frozen j⟩
theorem Wr.own {w : World} {base g n c : Nat} {l : List UInt8} {e : TypeId} (h : w.ownsRow base e 1 (.slice (some ⟨g, 0, none⟩) n c) n (cellsOf l)) : Wr w g n := by
  have hl := h.1
  rw [cellsOf_length, Nat.mul_one] at hl
  exact fun j hj => ⟨⟨_, by have := h.cells (g := g) rfl j _ (List.getElem?_eq_getElem (by rw [cellsOf_length]; omega)); rwa [Addr.add_mid, Nat.zero_add] at this⟩, h.frozenAt j⟩
end Go.Proofs.Ytpdhnkmihlgdjaa
