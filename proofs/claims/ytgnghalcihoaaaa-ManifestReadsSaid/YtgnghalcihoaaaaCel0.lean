/- Cells in memory, of whatever type: rows, blocks of two cells, what is one's own; through calls that make memory, and through writes elsewhere. -/
import Derived.Test.YtgnghalcihoaaaaBas
import Derived.Test.YtgnghalcihoaaaaMem
import Derived.Test.YtgnghalcihoaaaaLaw
import Derived.WalkKit
import Derived.WalkSpells
import Derived.Lib.Hide
import Derived.Lib.SliceRun
import Derived.WalkLawsBesides
import Derived.Deep.Slices
import Derived.Deep.Fields
import Derived.ChangeSame
import Derived.Laws.BitsAllLaws
namespace Go.Proofs.Ytgnghalcihoaaaa
open Go.RowKit Me

/-- Cells in a row, at A, in a block below B. -/
def Cs (w : World) (B : Nat) (A : Option Addr) (vs : List Value) : Prop :=
  0 < vs.length → ∃ a, A = some a ∧ a.block < B ∧ ∀ i v, vs[i]? = some v → w.cell? (a.add i) = some v
section
variable {w w' : World} {B B' : Nat} {A : Option Addr} {vs : List Value}
theorem Cs.empty : Cs w B A [] := fun h => by simp at h
theorem Cs.keep (h : Cs w B A vs) (hk : ∀ p : Addr, p.block < B → w'.cell? p = w.cell? p) : Cs w' B A vs := fun hn => by
  obtain ⟨a, e, hb, hc⟩ := h hn
  exact ⟨a, e, hb, fun j u hu => (hk _ (by rw [block_add]; exact hb)).trans (hc j u hu)⟩
theorem Cs.more (h : Cs w B A vs) (hB : B ≤ B') : Cs w B' A vs := fun hn => by
  obtain ⟨a, e, hb, hc⟩ := h hn
  exact ⟨a, e, by omega, hc⟩
theorem Cs.below (h : Cs w B A vs) (hb : Below B w w') : Cs w' B A vs := h.keep fun _ hp => hb.cell hp
theorem Cs.of_own {base : Nat} {e : TypeId} {size c : Nat} {n : Nat} (h : w.ownsRow base e size (.slice A n c) n vs) : Cs w w.heap.size A vs := fun hn => by
  have hl := h.1
  have hn0 : 0 < n := by
    rcases Nat.eq_zero_or_pos n with e | e
    · subst e; simp at hl; subst hl; simp at hn
    · exact e
  obtain ⟨g, cap, hv, _, hlt⟩ := h.form hn0
  have hA : A = some ⟨g, 0, none⟩ := by injection hv
  subst hA
  exact ⟨_, rfl, hlt, fun i u hu => h.cells (g := g) rfl i _ hu⟩
end

theorem add_field (a : Addr) (j i : Nat) : a.add (j + (i + 1)) = ⟨(a.add j).block, (a.add j).off + (i + 1), none⟩ := by
  rw [← add_add]
  generalize a.add j = b
  unfold Addr.add
  rw [if_neg (by omega)]
theorem Cs.lit (w : World) (cs : Array Value) (t : TypeId) : Cs (w.alloc (.cells cs t)) (w.heap.size + 1) (some ⟨w.heap.size, 0, none⟩) cs.toList := fun _ => by
  have hh := heap_alloc_new w (.cells cs t)
  refine ⟨_, rfl, Nat.lt_succ_self _, fun i u hu => ?_⟩
  have e : (⟨w.heap.size, 0, none⟩ : Addr).add i = ⟨w.heap.size, i, none⟩ := by unfold Addr.add; split <;> simp_all
  rw [e]
  simp only [World.cell?, hh]
  simpa using hu
theorem grownBy_set (w : World) (p : Addr) (u : Value) : w.grownBy (w.setCell p u) (some p.block) :=
  ⟨rfl, rfl, rfl, by simp [World.setCell], fun k _ hne => Below.heap_setCell _ _ _ _ (fun e => hne (by rw [e]))⟩
theorem grown_alloc (w : World) (o : Obj) (row : Option Nat) : w.grownBy (w.alloc o) row :=
  ⟨rfl, rfl, rfl, by simp, fun k hk _ => Below.heap_alloc w o k hk⟩
theorem grown_below {w w' : World} (h : Below w.heap.size w w') (row : Option Nat) : w.grownBy w' row := ⟨h.os, h.tape, h.output, h.size, fun k hk _ => h.block k hk⟩
theorem grown_set {w w' : World} {row : Option Nat} (h : w.grownBy w' row) {p : Addr} (hp : w.heap.size ≤ p.block) (u : Value) : w.grownBy (w'.setCell p u) row :=
  h.andThen (grownBy_set w' p u) (fun j e => by injection e with e; exact .inl (by omega))
/-- A block of two cells. -/
theorem block_two {w : World} {b : Nat} {v v' : Value} {t : TypeId} (hh : w.heap[b]? = some (.cells #[v, v'] t)) :
    w.cell? ⟨b, 0, none⟩ = some v ∧ w.cell? ⟨b, 1, none⟩ = some v' ∧ w.frozen? ⟨b, 0, none⟩ = false ∧ w.frozen? ⟨b, 1, none⟩ = false := by
  refine ⟨?_, ?_, ?_, ?_⟩
  · simp only [World.cell?, hh]; rfl
  · simp only [World.cell?, hh]; rfl
  · unfold World.frozen?; rw [hh]; simp
  · unfold World.frozen?; rw [hh]; simp
/-- Both cells laid anew. -/
theorem cells_set {h : Nat} {w1 : World} {v v' a a' : Value} (q0 : w1.cell? ⟨h, 0, none⟩ = some a) (q1 : w1.cell? ⟨h, 1, none⟩ = some a') :
    ((w1.setCell ⟨h, 0, none⟩ v).setCell ⟨h, 1, none⟩ v').cell? ⟨h, 0, none⟩ = some v ∧ ((w1.setCell ⟨h, 0, none⟩ v).setCell ⟨h, 1, none⟩ v').cell? ⟨h, 1, none⟩ = some v' := by
  have hne : (⟨h, 0, none⟩ : Addr) ≠ ⟨h, 1, none⟩ := by simp
  have hne' : (⟨h, 1, none⟩ : Addr) ≠ ⟨h, 0, none⟩ := by simp
  have e1 : (w1.setCell ⟨h, 0, none⟩ v).cell? ⟨h, 1, none⟩ = some a' := by rw [World.cell?_setCell_other _ _ _ _ hne]; exact q1
  refine ⟨?_, World.cell?_setCell_same _ _ _ e1⟩
  rw [World.cell?_setCell_other _ _ _ _ hne', World.cell?_setCell_same _ _ _ q0]
/-- A row of one's own, behind a call that has written another block. -/
theorem own_past {w w' : World} {base g size : Nat} {e : TypeId} {v : Value} {n : Nat} {xs : List Value} (h : w.ownsRow base e size v n xs) (hg : w.grownBy w' (some g)) (hlt : g < base) : w'.ownsRow base e size v n xs := by
  refine h.kept hg ?_
  cases hv : v.ownBlock with
  | none => exact .inl rfl
  | some k =>
    right
    have := (World.ownsRow.lt h k hv).1
    simp
    omega
theorem below_past {w w' : World} {g B : Nat} (hg : w.grownBy w' (some g)) (hB : B ≤ g) (hs : B ≤ w.heap.size) : Below B w w' :=
  (Below.refl B w).grown hg hs fun k hk => by cases hk; exact hB
/-- What is owned is a slice, of whatever size the elements are. -/
theorem own_slice' {w : World} {base size : Nat} {e : TypeId} {v : Value} {n : Nat} {xs : List Value} (h : w.ownsRow base e size v n xs) : ∃ A c, v = .slice A n c ∧ n ≤ c := by
  rcases h.2 with ⟨rfl, rfl⟩ | ⟨g, cap, cur, rfl, -, -, hc, -⟩
  · exact ⟨_, _, rfl, Nat.le_refl _⟩
  · exact ⟨_, _, rfl, hc⟩
theorem own_below' {w w' : World} {base size : Nat} {e : TypeId} {v : Value} {n : Nat} {xs : List Value} (h : w.ownsRow base e size v n xs) (hb : Below w.heap.size w w') : w'.ownsRow base e size v n xs :=
  h.kept (row := none) ⟨hb.os, hb.tape, hb.output, hb.size, fun k hk _ => hb.block k hk⟩ (by
    rcases h.2 with ⟨rfl, _⟩ | ⟨g, cap, cur, rfl, _⟩
    · exact .inl rfl
    · exact .inr (by simp [Value.ownBlock]))
/-- Both cells of a block. -/
def Two (w : World) (b : Nat) (v v' : Value) : Prop :=
  w.cell? ⟨b, 0, none⟩ = some v ∧ w.cell? ⟨b, 1, none⟩ = some v' ∧ w.frozen? ⟨b, 0, none⟩ = false ∧ w.frozen? ⟨b, 1, none⟩ = false
section
variable {w w' : World} {b B : Nat} {v v' a a' : Value}
theorem Two.here (h : Two w b v v') : b < w.heap.size := block_lt_of_cell h.1
theorem Two.below (h : Two w b v v') (hb : Below B w w') (hlt : b < B) : Two w' b v v' :=
  ⟨(hb.cell (p := ⟨b, 0, none⟩) hlt).trans h.1, (hb.cell (p := ⟨b, 1, none⟩) hlt).trans h.2.1, (hb.frozen (p := ⟨b, 0, none⟩) hlt).trans h.2.2.1, (hb.frozen (p := ⟨b, 1, none⟩) hlt).trans h.2.2.2⟩
theorem Two.past (h : Two w b v v') (hb : Below w.heap.size w w') : Two w' b v v' := h.below hb h.here
theorem Two.grown {row : Option Nat} (h : Two w b v v') (hg : w.grownBy w' row) (hne : row ≠ some b) : Two w' b v v' :=
  have k := hg.block b h.here (fun e => hne e.symm)
  ⟨(World.cell?_of_block (a := ⟨b, 0, none⟩) k).trans h.1, (World.cell?_of_block (a := ⟨b, 1, none⟩) k).trans h.2.1, (World.frozen?_of_block (a := ⟨b, 0, none⟩) k).trans h.2.2.1, (World.frozen?_of_block (a := ⟨b, 1, none⟩) k).trans h.2.2.2⟩
theorem Two.alloc (h : Two w b v v') (o : Obj) : Two (w.alloc o) b v v' := h.past ((Below.refl _ _).alloc (Nat.le_refl _) o)
theorem Two.drew (h : Two w b v v') : Two w.drew b v v' := h.past (Below.refl _ _).drew
theorem Two.setOther (h : Two w b v v') {p : Addr} (hp : p.block ≠ b) (u : Value) : Two (w.setCell p u) b v v' :=
  h.grown (grownBy_set w p u) (by simpa using hp)
theorem Two.set (h : Two w b a a') (v v' : Value) : Two ((w.setCell ⟨b, 0, none⟩ v).setCell ⟨b, 1, none⟩ v') b v v' := by
  obtain ⟨g0, g1⟩ := cells_set (v := v) (v' := v') h.1 h.2.1
  exact ⟨g0, g1, by simpa using h.2.2.1, by simpa using h.2.2.2⟩
theorem Two.new (w : World) (v v' : Value) (t : TypeId) : Two (w.alloc (.cells #[v, v'] t)) w.heap.size v v' := block_two (heap_alloc_new w _)
theorem Two.new' {H : Nat} (w : World) (v v' : Value) (t : TypeId) (hH : w.heap.size = H) : Two (w.alloc (.cells #[v, v'] t)) H v v' := by subst hH; exact Two.new w v v' t
end
theorem rd_back {W w : World} {B : Nat} {A : Option Addr} {l : List UInt8} (h : Rd w B A l) (hb : Below B W w) : Rd W B A l := h.keep fun _ hp => (hb.cell hp).symm
theorem own_cap' {w : World} {base size : Nat} {e : TypeId} {A : Option Addr} {n c : Nat} {xs : List Value} (h : w.ownsRow base e size (.slice A n c) n xs) : n ≤ c := by
  obtain ⟨A', c', e, hc⟩ := own_slice' h
  injection e with _ _ e
  omega
theorem new_two (w : World) (v v' : Value) (t : TypeId) : (w.alloc (.cells #[v, v'] t)).cell? ⟨w.heap.size, 0, none⟩ = some v ∧ (w.alloc (.cells #[v, v'] t)).cell? ⟨w.heap.size, 1, none⟩ = some v' := by
  have hh := heap_alloc_new w (.cells #[v, v'] t)
  exact ⟨by simp only [World.cell?, hh]; rfl, by simp only [World.cell?, hh]; rfl⟩
/-- A cell of another block than the one that is written. -/
theorem cell_past {w w' : World} {row : Option Nat} (hg : w.grownBy w' row) {b o : Nat} (hb : b < w.heap.size) (hne : row ≠ some b) : w'.cell? ⟨b, o, none⟩ = w.cell? ⟨b, o, none⟩ :=
  World.cell?_of_block (a := ⟨b, o, none⟩) (hg.block b hb (fun e => hne e.symm))
/-- What is owned lies ahead of the next block. -/
theorem own_ne {w : World} {base n size : Nat} {e : TypeId} {v : Value} {xs : List Value} (h : w.ownsRow base e size v n xs) : v.ownBlock ≠ some w.heap.size := fun he => by
  have := (h.lt _ he).2
  omega
/-! A row of bytes of one's own that is written into. -/
theorem own_set {w : World} {base : Nat} {e : TypeId} {g n cap : Nat} {l : List UInt8} (h : w.ownsRow base e 1 (.slice (some ⟨g, 0, none⟩) n cap) n (cellsOf l)) (j : Nat) (x : UInt8) :
    (w.setCell ⟨g, j, none⟩ (.int .u8 (x.toNat : Int))).ownsRow base e 1 (.slice (some ⟨g, 0, none⟩) n cap) n (cellsOf (l.set j x)) ∧ w.grownBy (w.setCell ⟨g, j, none⟩ (.int .u8 (x.toNat : Int))) (some g) := by
  have := h.stored j (.int .u8 (x.toNat : Int))
  have e : cellsOf (l.set j x) = (cellsOf l).set j (.int .u8 (x.toNat : Int)) := by simp [cellsOf, List.map_set]
  rw [e]
  exact this
theorem own_at {w : World} {base : Nat} {e : TypeId} {g n cap : Nat} {l : List UInt8} (h : w.ownsRow base e 1 (.slice (some ⟨g, 0, none⟩) n cap) n (cellsOf l)) {j : Nat} (hj : j < n) :
    ∃ u, l[j]? = some u ∧ w.cell? ⟨g, j, none⟩ = some (.int .u8 (u.toNat : Int)) ∧ w.frozen? ⟨g, j, none⟩ = false := by
  have hl := h.1
  rw [cellsOf_length] at hl
  have hg : l[j]? = some l[j] := List.getElem?_eq_getElem (by omega)
  refine ⟨l[j], hg, ?_, h.frozenAt j⟩
  rw [h.cellAt j (by omega)]
  exact cellsOf_get hg
theorem xor_u8 (a b : UInt8) : bits .xor .u8 (a.toNat : Int) (b.toNat : Int) = ((a ^^^ b).toNat : Int) := by
  rw [u8_xor_nat _ _ a.toNat_lt b.toNat_lt, UInt8.toNat_xor]
theorem own_bounds {w : World} {base size : Nat} {e : TypeId} {A : Option Addr} {n c : Nat} {xs : List Value} (h : w.ownsRow base e size (.slice A n c) n xs) : n ≤ c ∧ c ≤ 9223372036854775807 := by
  rcases h.2 with ⟨e, e2⟩ | ⟨g, cap, cur, e, -, -, h1, h2, -⟩
  · injection e with e1 e2 e3; omega
  · injection e with e1 e2 e3
    subst e3
    unfold maxLen at h2
    omega
theorem made_zero (n : Nat) : (madeCells (Value.int .u8 0).cells (n * 1)).toList = cellsOf (List.replicate n 0) := by
  rw [Nat.mul_one]
  have e : (Value.int .u8 0).cells = #[Value.int .u8 0] := rfl
  rw [e]
  unfold madeCells cellsOf
  apply List.ext_getElem?
  intro i
  by_cases hi : i < n
  · simp [hi, Nat.mod_one]
  · simp [hi]
theorem rd_lit {w : World} {l : List UInt8} (cs : Array Value) (t : TypeId) (hc : cs.toList = cellsOf l) {H : Nat} (hH : w.heap.size = H) : Rd (w.alloc (.cells cs t)) (w.alloc (.cells cs t)).heap.size (some ⟨H, 0, none⟩) l := by
  subst hH
  exact (Rd.lit w cs t l hc).more (by simp)
/-- Bytes in a block of their own, behind a store into another one. -/
theorem rd_store {w4 : World} {H B : Nat} {Y : Option Addr} {bo : List UInt8} (hr : Rd w4 w4.heap.size Y bo) (hnw : 0 < bo.length → ∃ a, Y = some a ∧ B ≤ a.block) (hlt : H < B) (u v : Value) :
    Rd ((w4.setCell ⟨H, 0, none⟩ u).setCell ⟨H, 1, none⟩ v) ((w4.setCell ⟨H, 0, none⟩ u).setCell ⟨H, 1, none⟩ v).heap.size Y bo := by
  intro hn
  obtain ⟨g, e, hb, hc⟩ := hr hn
  obtain ⟨g', e', hg'⟩ := hnw hn
  rw [e] at e'
  injection e' with e'
  subst e'
  refine ⟨g, e, by simpa [World.setCell] using hb, fun i u hu => ?_⟩
  have hne : ∀ o, g.add i ≠ ⟨H, o, none⟩ := fun o h => by
    have h1 := congrArg Addr.block h
    rw [block_add] at h1
    have h2 : g.block = H := h1
    omega
  rw [World.cell?_setCell_other _ _ _ _ (hne 1).symm, World.cell?_setCell_other _ _ _ _ (hne 0).symm]
  exact hc i u hu
def sliceLen : Value → Nat
  | .slice _ n _ => n
  | _ => 0
theorem two_lit {w : World} {u v : Value} {T : TypeId} {H : Nat} (hH : w.heap.size = H) : ∀ (j : Nat) (x : Value), ([u, v] : List Value)[j]? = some x → (w.alloc (.cells #[u, v] T)).cell? ((⟨H, 0, none⟩ : Addr).add j) = some x := by
  intro j x hj
  subst hH
  obtain ⟨a, e, -, hc⟩ := Cs.lit w #[u, v] T (by simp)
  injection e with e
  subst e
  exact hc j x hj
end Go.Proofs.Ytgnghalcihoaaaa
