/- Neighbours that are read, the program's. -/
import Derived.Test.YtimladmphcipfaaGetM
import Derived.Test.YtimladmphcipfaaAwakeA
namespace Go.Proofs.Ytimladmphcipfaa
open Go.RowKit Me Va

theorem arc_info : (Try.prog.info? 37).map (fun i => (i.zero, i.size, i.bytes)) = some (some (.agg #[.int .u32 0, .int .u32 0]), 2, 8) := by kernel_rfl
/-- Arcs of one's own are answered, and the reader behind them; nothing else has turned. -/
def GetPost (w : World) (g : Nat) (out : List ArcD) (l : List UInt8) (x : Int) (e : Ending) (w' : World) : Prop :=
  ∃ A n c, e = .returned (.slice A n c) ∧ n ≤ c ∧ w'.ownsRow w.heap.size 37 2 (.slice A n c) n (arcCells out) ∧ (∀ p ∈ out, p.fits) ∧ Rdr w' g l x ∧ w.grownBy w' (some g)
/-- What stands behind some rounds. -/
def GetRel (w : World) (g N : Nat) (R : List ArcD × List UInt8 × Int) (k : Nat) (v : Value) (least sum : Nat) (wr : World) : Prop :=
  ∃ pre l, pre.length = k ∧ least = leastOf pre ∧ sum = sumOf pre ∧ k ≤ sum ∧ sum ≤ 2147483647 ∧ (∀ p ∈ pre, p.fits) ∧ goOn (N - k) pre l = R ∧ wr.ownsRow w.heap.size 37 2 v k (arcCells pre) ∧ Rdr wr g l 0 ∧ w.grownBy wr (some g)
theorem getrel_next {w wr : World} {g N k : Nat} {R : List ArcD × List UInt8 × Int} {v : Value} {pre : List ArcD} {l2 : List UInt8} {t u : Nat} (hk : pre.length = k) (ht : t < 4294967296) (hu : 1 ≤ u) (hs : sumOf pre + u ≤ 2147483647) (hks : k ≤ sumOf pre)
    (hf : ∀ p ∈ pre, p.fits) (hg : goOn (N - (k + 1)) (pre ++ [⟨t, u⟩]) l2 = R) (ho : wr.ownsRow w.heap.size 37 2 v (k + 1) (arcCells pre ++ [.int .u32 (t : Int), .int .u32 (u : Int)])) (hr : Rdr wr g l2 0) (hw : w.grownBy wr (some g)) :
    GetRel w g N R (k + 1) v (t + 1) (sumOf pre + u) wr := by
  refine ⟨pre ++ [⟨t, u⟩], l2, by simp [hk], (leastOf_snoc pre ⟨t, u⟩).symm, by rw [sumOf_append]; simp [sumOf], by omega, hs, fun p hp => ?_, hg, ?_, hr, hw⟩
  · simp only [List.mem_append, List.mem_singleton] at hp
    rcases hp with hp | rfl
    · exact hf p hp
    · exact ⟨ht, by show u < _; omega⟩
  · rw [arcCells_append]; exact ho
theorem get_none {w w' : World} {g : Nat} {l : List UInt8} {x : Int} {R : List ArcD × List UInt8 × Int} (h : ([], l, x) = R) (hr : Rdr w' g l x) (hg : w.grownBy w' (some g)) : GetPost w g R.1 R.2.1 R.2.2 (.returned (.slice none 0 0)) w' := by
  subst h
  exact ⟨none, 0, 0, rfl, Nat.le_refl _, World.ownsRow_nil _ _ _ _, fun p hp => by simp at hp, hr, hg⟩
theorem one_arc {w : World} {t u : Int} {T : TypeId} {H : Nat} (hH : w.heap.size = H) : ∀ (j : Nat) (v : Value), ([.int .u32 t, .int .u32 u] : List Value)[j]? = some v → (w.alloc (.cells #[.int .u32 t, .int .u32 u] T)).cell? ((⟨H, 0, none⟩ : Addr).add j) = some v := by
  intro j v hj
  subst hH
  obtain ⟨a, e, -, hc⟩ := Cs.lit w #[.int .u32 t, .int .u32 u] T (by simp)
  injection e with e
  subst e
  exact hc j v hj
/-- A reader does not feel an append to a row that lies behind it. -/
theorem rdr_app {w3 w4 w5 : World} {g base n size : Nat} {e : TypeId} {v : Value} {xs : List Value} {l : List UInt8} {x : Int} (h : Rdr w4 g l x) (ho : w3.ownsRow base e size v n xs) (hg : w4.grownBy w5 v.ownBlock) (hb : g < base) : Rdr w5 g l x :=
  h.below ((Below.refl (g + 1) w4).grown hg h.here (fun k hk => by have := (ho.lt k hk).1; omega))
theorem one_cells {t u : Int} : ∀ v ∈ ([.int .u32 t, .int .u32 u] : List Value), v.oneCell' = true := by
  intro v hv
  simp only [List.mem_cons, List.not_mem_nil, or_false] at hv
  rcases hv with rfl | rfl <;> rfl
end Go.Proofs.Ytimladmphcipfaa
