/- Texts put together, for a law: MkW, MkV. -/
import Derived.Test.YteaibgnelnblnaaKG4
import Derived.Test.YteaibgnelnblnaaKG15
import Derived.Test.YteaibgnelnblnaaKG9
import Derived.Test.YteaibgnelnblnaaKG2
section
namespace Go.Proofs.Yteaibgnelnblnaa
open Go.RowKit Me Tx Ed Mg

theorem rowM_cons (r : RowR) (l : List RowR) : rowM (r :: l) = rowM l ++ [(r.src, arcM r.arcs)] := by simp [rowM]
theorem arcM_cons (a : ArcR) (l : List ArcR) : arcM (a :: l) = arcM l ++ [(⟨a.dst, a.wgt⟩ : ArcD)] := by simp [arcM]
theorem rowM_length (l : List RowR) : (rowM l).length = l.length := by simp [rowM]
theorem arcM_length (l : List ArcR) : (arcM l).length = l.length := by simp [arcM]
theorem row_info : (Try.prog.info? 51).map (fun i => (i.zero, i.size, i.bytes)) = some (some (.agg #[.int .u32 0, .slice none 0 0]), 2, 32) := by kernel_rfl
theorem arc_info : (Try.prog.info? 55).map (fun i => (i.zero, i.size, i.bytes)) = some (some (.agg #[.int .u32 0, .int .u32 0]), 2, 8) := by kernel_rfl
/-- Rows out of a row of one's own. -/
theorem rows_own {w : World} {lo base n c : Nat} {e : TypeId} {A : Option Addr} {vs : List RwV} {l : List RwD} (h : w.ownsRow base e 2 (.slice A n c) n (rvCells vs)) (hlo : lo ≤ base) (hl : vs.length = l.length) (hat : ∀ (i : Nat) (p : RwV) (r : RwD), vs[i]? = some p → l[i]? = some r → RwAt w lo w.heap.size p r) : RowsAt w lo w.heap.size A l :=
  ⟨⟨vs, Cs.of_own h, hl, hat⟩, fun _ a ha => Nat.le_trans hlo (h.lt a.block (by rw [ha]; rfl)).1⟩
/-- An append that makes new memory alone, in a region that draws its order. -/
theorem okg_append {P : Program} {o : Oper} {a : Act} {w w' : World} {p : Value → World → Prop} {s x : Operand} {t : TypeId} {v u r : Value} (ho : o.op = .call { callee := .builtin .append, args := #[s, x], argTypes := #[t, t] }) (hs : a.eval s = v) (hx : a.eval x = u)
    (hr : (Builtin.append_ #[t, t] o.type #[v, u]).run P w = .ok r w') (hg : Below w.heap.size w w') (h : p r w') : Gw.Ok P o a w p := by
  unfold Gw.Ok execOp
  simp only [ho, resolve, invoke, builtin, Sem.run_bind, Sem.run_pure, Result.andThen_ok, List.map_toArray, List.map_cons, List.map_nil, hs, hx, hr]
  exact ⟨hg, h⟩
/-- What an edge more leads to. -/
def MwPost (w : World) (lo : Nat) (rows : List RowR) (e : Ending) (w' : World) : Prop :=
  ∃ A n c, e = .returned (.slice A n c) ∧ (rowM rows).length = n ∧ n ≤ c ∧ c ≤ 9223372036854775807 ∧ RowsAt w' lo w'.heap.size A (rowM rows) ∧ Below w.heap.size w w'
/-- What is known of each slot where the last row is looked at. -/
def mwG (n c H s src : Nat) (q t : Bool) (L : Option Addr) (a : Addr) : Gw.Fact := fun k v _ =>
  match k with
  | 0 | 14 => v = .slice L n c
  | 3 => v = .pointer (some ⟨H, 0, none⟩)
  | 15 => v = .int .i64 (n : Int)
  | 16 | 17 => v = .bool q
  | 18 | 19 => q = false → v = .slice (some a) n c
  | 20 => q = false → v = .int .i64 (n : Int)
  | 21 => q = false → v = .int .i64 ((n - 1 : Nat) : Int)
  | 22 | 23 => q = false → v = .pointer (some (a.add ((n - 1) * 2)))
  | 24 => q = false → v = .int .u32 (s : Int)
  | 25 => q = false → v = .pointer (some ⟨H, 0, none⟩)
  | 26 => q = false → v = .int .u32 (src : Int)
  | 27 => q = false → v = .bool t
  | 28 => v = .bool (q || t)
  | _ => True
/-- What is known of each slot where a row is put behind. -/
def mwH (H0 n c H src dst wgt : Nat) (L : Option Addr) (vs : List RwV) : Gw.Fact := fun t v W =>
  match t with
  | 0 | 30 => v = .slice L n c
  | 3 | 32 => v = .pointer (some ⟨H, 0, none⟩)
  | 5 => v = .pointer (some ⟨H + 1, 0, none⟩)
  | 33 => v = .int .u32 (src : Int)
  | 34 => v = .agg #[.int .u32 (dst : Int), .int .u32 (wgt : Int)]
  | 29 => ∃ g, v = .slice (some ⟨g, 0, none⟩) 0 0 ∧ W.ownsRow H0 51 2 v 0 []
  | 31 => ∃ (A : Option Addr) (d : Nat), v = .slice A n d ∧ W.ownsRow H0 51 2 v n (rvCells vs)
  | 35 => ∃ g, v = .slice (some ⟨g, 0, none⟩) 1 1 ∧ W.ownsRow H0 55 2 (.slice (some ⟨g, 0, none⟩) 1 1) 1 [.int .u32 (dst : Int), .int .u32 (wgt : Int)]
  | 36 => ∃ g, v = .agg #[.int .u32 (src : Int), .slice (some ⟨g, 0, none⟩) 1 1] ∧ W.ownsRow H0 55 2 (.slice (some ⟨g, 0, none⟩) 1 1) 1 [.int .u32 (dst : Int), .int .u32 (wgt : Int)]
  | 37 => ∃ f g, v = .slice (some ⟨f, 0, none⟩) 1 1 ∧ Cs W W.heap.size (some ⟨f, 0, none⟩) [.int .u32 (src : Int), .slice (some ⟨g, 0, none⟩) 1 1] ∧ W.ownsRow H0 55 2 (.slice (some ⟨g, 0, none⟩) 1 1) 1 [.int .u32 (dst : Int), .int .u32 (wgt : Int)]
  | _ => True
theorem Cs.grow {w w' : World} {A : Option Addr} {vs : List Value} (h : Cs w w.heap.size A vs) (hb : Below w.heap.size w w') : Cs w' w'.heap.size A vs := (h.below hb).more hb.size
theorem cs_new (w : World) (cs : Array Value) (t : TypeId) : Cs (w.alloc (.cells cs t)) (w.alloc (.cells cs t)).heap.size (some ⟨w.heap.size, 0, none⟩) cs.toList := by
  have := Cs.lit w cs t
  rwa [World.size_alloc]
end Go.Proofs.Yteaibgnelnblnaa
end
section
namespace Go.Proofs.Yteaibgnelnblnaa
open Go.RowKit Me Tx Ed Mg

/-- What is known of each slot where the last arc is looked at. -/
def mvG (H g m m2 d7 t dst : Nat) (q : Bool) : Gw.Fact := fun k v _ =>
  match k with
  | 7 | 49 | 50 => v = .slice (some ⟨g, 0, none⟩) m d7
  | 3 => v = .pointer (some ⟨H, 0, none⟩)
  | 51 => v = .int .i64 (m : Int)
  | 52 => v = .int .i64 (m2 : Int)
  | 53 | 54 => v = .pointer (some ⟨g, m2 * 2, none⟩)
  | 55 => v = .int .u32 (t : Int)
  | 56 => v = .pointer (some ⟨H, 1, none⟩)
  | 57 => v = .int .u32 (dst : Int)
  | 58 => v = .bool q
  | _ => True
/-- What is known of each slot where the last arc is given more. -/
def mvH (H g m m2 d7 t wgt u : Nat) : Gw.Fact := fun k v _ =>
  match k with
  | 7 | 59 | 60 | 63 | 64 => v = .slice (some ⟨g, 0, none⟩) m d7
  | 3 => v = .pointer (some ⟨H, 0, none⟩)
  | 61 | 65 => v = .int .i64 (m : Int)
  | 62 | 66 => v = .int .i64 (m2 : Int)
  | 67 | 73 => v = .pointer (some ⟨g, m2 * 2, none⟩)
  | 68 | 74 => v = .pointer (some ⟨g, m2 * 2 + 1, none⟩)
  | 69 => v = .int .u32 (t : Int)
  | 70 => v = .pointer (some ⟨H, 2, none⟩)
  | 71 => v = .int .u32 (wgt : Int)
  | 72 => v = .int .u32 (u : Int)
  | _ => True
end Go.Proofs.Yteaibgnelnblnaa
end
