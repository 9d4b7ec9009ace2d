/- Neighbours' bytes, the document's; the example; the same arcs. -/
import Derived.Test.YtimladmphcipfaaPutA
import Derived.Test.YtimladmphcipfaaRefMay
namespace Go.Proofs.Ytimladmphcipfaa
open Go.RowKit Me Va

/-- An arc's cells, in a later world. -/
theorem arc_again {w w' : World} {B k : Nat} {a : Addr} {l : List ArcD} {p : ArcD} (h : Arcs w B (some a) l) (hb : Below B w w') (hp : l[k]? = some p) :
    w'.cell? (a.add (k * 2)) = some (.int .u32 (p.to : Int)) ∧ w'.cell? ⟨(a.add (k * 2)).block, (a.add (k * 2)).off + 1, none⟩ = some (.int .u32 (p.weight : Int)) := by
  obtain ⟨a', p', e, hp', -, h0, h1, -, -⟩ := (h.below hb).at (k := k) (List.getElem?_eq_some_iff.1 hp).1
  injection e with e
  subst e
  rw [hp] at hp'
  injection hp' with hp'
  subst hp'
  exact ⟨h0, h1⟩
/-- What stands behind some rounds: the bytes so far. -/
def RefRel (w : World) (l : List ArcD) (k : Nat) (v : Value) (wr : World) : Prop :=
  ∃ m, m ≤ 10 + k * 20 ∧ wr.ownsRow w.heap.size 5 1 v m (cellsOf (enc l.length ++ encGaps 0 (l.take k))) ∧ Below w.heap.size w wr
theorem refrel_next {w wr : World} {l : List ArcD} {k q n1 n2 : Nat} {v : Value} {p : ArcD} {s g u : Nat} (hp : l[k]? = some p) (hs : s = leastOf (l.take k)) (hg : g = p.to - s) (hu : u = p.weight - 1) (h1 : n1 ≤ 10) (h2 : n2 ≤ 10) (hq : q ≤ 10 + k * 20)
    (ho : wr.ownsRow w.heap.size 5 1 v (q + n1 + n2) (cellsOf (enc l.length ++ encGaps 0 (l.take k) ++ enc g ++ enc u))) (hb : Below w.heap.size w wr) : RefRel w l (k + 1) v wr := by
  refine ⟨q + n1 + n2, by omega, ?_, hb⟩
  rw [encGaps_take hp, ← hs, ← hg, ← hu, ← List.append_assoc, ← List.append_assoc]
  exact ho
end Go.Proofs.Ytimladmphcipfaa
