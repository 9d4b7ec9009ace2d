/- Texts put together, for a law: Vari, Gap. -/
import Derived.Laws.BitsAllLaws
import Derived.Maps.AppendAt
import Derived.Deep.RegionHeld
import Derived.RegionTactic
import Derived.Test.YteaibgnelnblnaaKQ2
import Derived.Test.YteaibgnelnblnaaKQ3
section
/-! Numbers as bytes, seven bits a byte: the plain mathematics. -/
namespace Go.Proofs.Yteaibgnelnblnaa.Va

/-- A number's bytes. -/
def enc (n : Nat) : List UInt8 := if n < 128 then [UInt8.ofNat n] else UInt8.ofNat (n % 128 + 128) :: enc (n / 128)
termination_by n
decreasing_by omega
/-- What a byte at place i must not be. -/
def refuses (i : Nat) (u : UInt8) : Bool := decide (9 < i) || (decide (i = 9) && decide (1 < u.toNat % 128)) || (decide (0 < i) && decide (u.toNat = 0))
/-- The number in front: it, its bytes, or the error. -/
def pars (i acc : Nat) : List UInt8 → Nat × Nat × Int
  | [] => (0, 0, 2)
  | u :: l => if refuses i u then (0, 0, 3) else if u.toNat < 128 then (acc + u.toNat % 128 * 128 ^ i, i + 1, 0) else pars (i + 1) (acc + u.toNat % 128 * 128 ^ i) l

/-- The bytes up to k have been gone through, and told acc. -/
structure At (l : List UInt8) (k acc : Nat) : Prop where
  same : pars k acc (l.drop k) = pars 0 0 l
  low : acc < 128 ^ k
  fits : acc < 18446744073709551616
  few : k ≤ 10
theorem At.start (l : List UInt8) : At l 0 0 := ⟨rfl, by decide, by decide, by decide⟩
theorem pow_le_63 {k : Nat} (h : k ≤ 8) : 128 ^ (k + 1) ≤ 9223372036854775808 := by
  have : 128 ^ (k + 1) ≤ 128 ^ 9 := Nat.pow_le_pow_right (by decide) (by omega)
  exact Nat.le_trans this (by decide)
section
variable {l : List UInt8} {k acc : Nat} {u : UInt8}
theorem drop_of (hu : l[k]? = some u) : l.drop k = u :: l.drop (k + 1) := by
  obtain ⟨h, e⟩ := List.getElem?_eq_some_iff.1 hu
  rw [List.drop_eq_getElem_cons h, e]
theorem nine_of (hr : refuses k u = false) : k ≤ 9 ∧ (k = 9 → u.toNat % 128 ≤ 1) ∧ (0 < k → 0 < u.toNat) := by
  unfold refuses at hr
  simp only [Bool.or_eq_false_iff, Bool.and_eq_false_iff, decide_eq_false_iff_not] at hr
  omega
theorem At.next (h : At l k acc) (hr : refuses k u = false) : acc + u.toNat % 128 * 128 ^ k < 128 ^ (k + 1) ∧ acc + u.toNat % 128 * 128 ^ k < 18446744073709551616 ∧ u.toNat % 128 * 128 ^ k < 18446744073709551616 := by
  obtain ⟨h9, h1, -⟩ := nine_of hr
  have hm : u.toNat % 128 < 128 := Nat.mod_lt _ (by decide)
  have hl := h.low
  have hle : u.toNat % 128 * 128 ^ k ≤ 127 * 128 ^ k := Nat.mul_le_mul_right _ (by omega)
  have h2 : acc + u.toNat % 128 * 128 ^ k < 128 ^ (k + 1) := by rw [Nat.pow_succ]; omega
  refine ⟨h2, ?_⟩
  by_cases h8 : k ≤ 8
  · have := pow_le_63 h8
    omega
  · have e : k = 9 := by omega
    subst e
    have := h1 rfl
    have hle1 : u.toNat % 128 * 128 ^ 9 ≤ 1 * 128 ^ 9 := Nat.mul_le_mul_right _ this
    have e9 : (128 : Nat) ^ 9 = 9223372036854775808 := by decide
    rw [e9] at *
    omega
theorem At.done (h : At l k acc) (hu : l[k]? = some u) (hr : refuses k u = false) (hs : u.toNat < 128) : pars 0 0 l = (acc + u.toNat % 128 * 128 ^ k, k + 1, 0) := by
  rw [← h.same, drop_of hu, pars, hr, if_neg (by decide), if_pos hs]
theorem At.step (h : At l k acc) (hu : l[k]? = some u) (hr : refuses k u = false) (hs : ¬ u.toNat < 128) : At l (k + 1) (acc + u.toNat % 128 * 128 ^ k) := by
  obtain ⟨h1, h2, -⟩ := h.next hr
  obtain ⟨h9, -, -⟩ := nine_of hr
  refine ⟨?_, h1, h2, by omega⟩
  rw [← h.same, drop_of hu, pars, hr, if_neg (by decide), if_neg hs]
theorem At.ends (h : At l k acc) (hk : l.length ≤ k) : pars 0 0 l = (0, 0, 2) := by
  rw [← h.same, List.drop_eq_nil_of_le hk, pars]
end
/-- Numbers with a sign, as such without. -/
def zig (n : Int) : Nat := if n < 0 then 2 * (-(n + 1)).toNat + 1 else 2 * n.toNat
def zag (n : Nat) : Int := if n % 2 = 1 then -((n / 2 : Nat) : Int) - 1 else ((n / 2 : Nat) : Int)
end Go.Proofs.Yteaibgnelnblnaa.Va

/-! Numbers put behind bytes: the program's and the document's. -/
namespace Go.Proofs.Yteaibgnelnblnaa
open Go.RowKit Me Va

/-- What stands behind some rounds: the bytes so far, and the number that is left. -/
def PutRel (w : World) (l : List UInt8) (m n r : Nat) (v : Value) (wr : World) : Prop :=
  ∃ pre, pre ++ enc r = enc m ∧ wr.ownsRow w.heap.size 5 1 v (n + pre.length) (cellsOf (l ++ pre)) ∧ Below w.heap.size w wr
end Go.Proofs.Yteaibgnelnblnaa

/-! The number in front of bytes, the program's. -/
namespace Go.Proofs.Yteaibgnelnblnaa
open Go.RowKit Me Va

/-- Too large a byte at place k. -/
def big (k : Nat) (u : UInt8) : Bool := decide (9 < k) || (decide (k = 9) && decide (1 < u.toNat % 128))
theorem ret_bool {a b : Bool} (h : a = b) : Ending.returned (.bool a) = .returned (.bool b) := by rw [h]
/-- What is answered of the number in front. -/
def FirstPost (w : World) (l : List UInt8) (e : Ending) (w' : World) : Prop :=
  e = .returned (.tuple #[.int .u64 ((pars 0 0 l).1 : Int), .int .i64 ((pars 0 0 l).2.1 : Int), .int .i64 (pars 0 0 l).2.2]) ∧ w = w'
end Go.Proofs.Yteaibgnelnblnaa

/-! A reader in memory, and what its methods answer. -/
namespace Go.Proofs.Yteaibgnelnblnaa
open Go.RowKit Me Va

/-- A reader in block g: what it has left, and its error's number. -/
def Rdr (w : World) (g : Nat) (l : List UInt8) (x : Int) : Prop :=
  ∃ A n c, w.cell? ⟨g, 0, none⟩ = some (.slice A n c) ∧ w.cell? ⟨g, 1, none⟩ = some (.int .i64 x) ∧ w.frozen? ⟨g, 0, none⟩ = false ∧ w.frozen? ⟨g, 1, none⟩ = false ∧
    l.length = n ∧ n ≤ c ∧ n ≤ 70368744177664 ∧ Rd w g A l ∧ (x ≠ 0 → l = [])
section
variable {w w' : World} {g : Nat} {l : List UInt8} {x : Int}
theorem Rdr.below (h : Rdr w g l x) (hb : Below (g + 1) w w') : Rdr w' g l x := by
  obtain ⟨A, n, c, h0, h1, f0, f1, hl, hc, hn, hr, hx⟩ := h
  have e0 := hb.cell (p := ⟨g, 0, none⟩) (show g < g + 1 by omega)
  have e1 := hb.cell (p := ⟨g, 1, none⟩) (show g < g + 1 by omega)
  have e2 := hb.frozen (p := ⟨g, 0, none⟩) (show g < g + 1 by omega)
  have e3 := hb.frozen (p := ⟨g, 1, none⟩) (show g < g + 1 by omega)
  exact ⟨A, n, c, e0.trans h0, e1.trans h1, e2.trans f0, e3.trans f1, hl, hc, hn, hr.below (hb.mono (by omega)), hx⟩
/-- A reader whose cells are laid anew. -/
theorem Rdr.set {A : Option Addr} {n c : Nat} {m : List UInt8} {y : Int} (h : Rdr w g l x) (hl : m.length = n) (hc : n ≤ c) (hn : n ≤ 70368744177664) (hr : Rd w g A m) (hy : y ≠ 0 → m = []) :
    Rdr ((w.setCell ⟨g, 0, none⟩ (.slice A n c)).setCell ⟨g, 1, none⟩ (.int .i64 y)) g m y := by
  obtain ⟨A0, n0, c0, h0, h1, f0, f1, -⟩ := h
  have hne : (⟨g, 0, none⟩ : Addr) ≠ ⟨g, 1, none⟩ := by simp
  have hne' : (⟨g, 1, none⟩ : Addr) ≠ ⟨g, 0, none⟩ := by simp
  have e1 : (w.setCell ⟨g, 0, none⟩ (.slice A n c)).cell? ⟨g, 1, none⟩ = some (.int .i64 x) := by rw [World.cell?_setCell_other _ _ _ _ hne]; exact h1
  refine ⟨A, n, c, ?_, World.cell?_setCell_same _ _ _ e1, by simpa using f0, by simpa using f1, hl, hc, hn, (hr.setCell (Nat.le_refl _) _).setCell (Nat.le_refl _) _, hy⟩
  rw [World.cell?_setCell_other _ _ _ _ hne', World.cell?_setCell_same _ _ _ h0]
theorem Rdr.here (h : Rdr w g l x) : g < w.heap.size := by
  obtain ⟨A, n, c, h0, -⟩ := h
  exact block_lt_of_cell h0
end
/-- A method's answer, and the reader behind it; nothing else has turned. -/
def Reads (w : World) (g : Nat) (v : Value) (l : List UInt8) (x : Int) (e : Ending) (w' : World) : Prop := e = .returned v ∧ Rdr w' g l x ∧ w.grownBy w' (some g)
/-- Made bad. -/
def spoil (l : List UInt8) (x y : Int) : List UInt8 × Int := if x ≠ 0 ∨ y = 0 then (l, x) else ([], y)
/-- The end's number. -/
def endOf (l : List UInt8) (x : Int) : Int := if x = 0 ∧ 0 < l.length then 4 else x
/-- A new reader. -/
def NewPost (w : World) (l : List UInt8) (e : Ending) (w' : World) : Prop := ∃ g, e = .returned (.pointer (some ⟨g, 0, none⟩)) ∧ w.heap.size ≤ g ∧ g < w'.heap.size ∧ Rdr w' g l 0 ∧ Below w.heap.size w w'
/-- The next number. -/
def numOf (l : List UInt8) (x : Int) (most : Nat) : Nat × List UInt8 × Int :=
  if x ≠ 0 then (0, l, x) else if (pars 0 0 l).2.2 ≠ 0 then (0, [], (pars 0 0 l).2.2) else if most < (pars 0 0 l).1 then (0, [], 9) else ((pars 0 0 l).1, l.drop (pars 0 0 l).2.1, 0)
end Go.Proofs.Yteaibgnelnblnaa

/-! What else a reader's methods answer: bytes. -/
namespace Go.Proofs.Yteaibgnelnblnaa
open Go.RowKit Me Va

/-- The greatest number. -/
def top : Nat := 18446744073709551615
/-- The next bytes. -/
def bytesOf (l : List UInt8) (x k : Int) : List UInt8 × List UInt8 × Int :=
  if x ≠ 0 then ([], l, x) else if k < 0 then ([], [], 1) else if (l.length : Int) < k then ([], [], 2) else (l.take k.toNat, l.drop k.toNat, 0)
/-- Bytes are answered, in memory of their own; and the reader behind it. -/
def Gives (w : World) (g : Nat) (out l : List UInt8) (x : Int) (e : Ending) (w' : World) : Prop :=
  ∃ A n c, e = .returned (.slice A n c) ∧ out.length = n ∧ n ≤ c ∧ w'.ownsRow w.heap.size 5 1 (.slice A n c) n (cellsOf out) ∧ Rd w' w'.heap.size A out ∧ Rdr w' g l x ∧ w.grownBy w' (some g)
end Go.Proofs.Yteaibgnelnblnaa

/-! The next number of a reader: the plain mathematics. -/
namespace Go.Proofs.Yteaibgnelnblnaa
open Go.RowKit Me Va

end Go.Proofs.Yteaibgnelnblnaa

/-! The document's reader: bytes that are left, and the first error's number. -/
namespace Go.Proofs.Yteaibgnelnblnaa
open Go.RowKit Me Va

/-- A number and what is left are answered. -/
def Tells (w : World) (B : Nat) (v : Value) (l : List UInt8) (x : Int) (e : Ending) (w' : World) : Prop :=
  Below w.heap.size w w' ∧ ∃ A n c, e = .returned (.tuple #[v, .agg #[.slice A n c, .int .i64 x]]) ∧ l.length = n ∧ n ≤ c ∧ Rd w B A l
end Go.Proofs.Yteaibgnelnblnaa

/-! Readers and blocks of two cells, behind writes into other blocks. -/
namespace Go.Proofs.Yteaibgnelnblnaa
open Go.RowKit Me Va

/-- A reader does not feel what is written into another block, if its bytes lie elsewhere too. -/
theorem Rdr.apart {w w' : World} {g b : Nat} {l : List UInt8} {x : Int} (h : Rdr w g l x) (hg : w.grownBy w' (some b)) (hb : g < b) : Rdr w' g l x :=
  h.below ⟨hg.os, hg.tape, hg.output, hg.size, fun k hk => by
    have := h.here
    exact hg.block k (by omega) (fun e => by injection e; omega)⟩
theorem Rdr.alloc {w : World} {g : Nat} {l : List UInt8} {x : Int} (h : Rdr w g l x) (o : Obj) : Rdr (w.alloc o) g l x :=
  h.below ((Below.refl _ _).alloc h.here o)
theorem Rdr.drew {w : World} {g : Nat} {l : List UInt8} {x : Int} (h : Rdr w g l x) : Rdr w.drew g l x := h.below (Below.refl _ _).drew
/-- Behind a call that only made memory. -/
theorem Rdr.past {w w' : World} {g : Nat} {l : List UInt8} {x : Int} (h : Rdr w g l x) (hb : Below w.heap.size w w') : Rdr w' g l x := h.below (hb.mono h.here)
end Go.Proofs.Yteaibgnelnblnaa

/-! The document's reader: bytes, the end. -/
namespace Go.Proofs.Yteaibgnelnblnaa
open Go.RowKit Me Va

/-- Bytes and what is left are answered. -/
def TellsB (w : World) (B : Nat) (out l : List UInt8) (x : Int) (e : Ending) (w' : World) : Prop :=
  Below w.heap.size w w' ∧ ∃ X m d A n c, e = .returned (.tuple #[.slice X m d, .agg #[.slice A n c, .int .i64 x]]) ∧ out.length = m ∧ Rd w B X out ∧ l.length = n ∧ n ≤ c ∧ Rd w B A l
end Go.Proofs.Yteaibgnelnblnaa
end
section
namespace Go.Proofs.Yteaibgnelnblnaa
open Go.RowKit Me Va

/-- The sum of weights. -/
def sumOf : List ArcD → Nat
  | [] => 0
  | p :: l => p.weight + sumOf l
theorem sumOf_append : ∀ l m : List ArcD, sumOf (l ++ m) = sumOf l + sumOf m
  | [], m => by simp [sumOf]
  | p :: l, m => by simp only [List.cons_append, sumOf, sumOf_append l m]; omega
theorem sumOf_take {l : List ArcD} {k : Nat} {p : ArcD} (h : l[k]? = some p) : sumOf (l.take (k + 1)) = sumOf (l.take k) + p.weight := by
  rw [List.take_add_one, h, sumOf_append]
  simp [sumOf]
theorem sumOf_le {l : List ArcD} : (∀ p ∈ l, p.fits) → sumOf l ≤ l.length * 4294967295 := by
  induction l with
  | nil => intro _; simp [sumOf]
  | cons p l ih =>
    intro h
    have h1 := (h p (by simp)).2
    have h2 := ih (fun q hq => h q (by simp [hq]))
    simp only [sumOf, List.length_cons]
    omega
theorem sumOf_take_le (l : List ArcD) (k : Nat) : sumOf (l.take k) ≤ sumOf l := by
  have := sumOf_append (l.take k) (l.drop k)
  rw [List.take_append_drop] at this
  omega
/-- Ends that rise from least on, no weight 0. -/
def rises : Nat → List ArcD → Bool
  | _, [] => true
  | least, p :: l => !(decide (p.to < least) || decide (p.weight = 0)) && rises (p.to + 1) l
/-- The least end behind some arcs. -/
def leastOf (l : List ArcD) : Nat := match l.getLast? with
  | none => 0
  | some p => p.to + 1
theorem leastOf_snoc (l : List ArcD) (p : ArcD) : leastOf (l ++ [p]) = p.to + 1 := by
  unfold leastOf
  rw [List.getLast?_append]
  rfl
theorem rises_append : ∀ (l m : List ArcD) (least : Nat), rises least (l ++ m) = (rises least l && rises (match l.getLast? with | none => least | some p => p.to + 1) m)
  | [], m, least => by simp [rises]
  | [p], m, least => by simp [rises]
  | p :: q :: l, m, least => by
    have h := rises_append (q :: l) m (p.to + 1)
    have e : (p :: q :: l).getLast? = (q :: l).getLast? := by simp
    obtain ⟨z, hz⟩ : ∃ z, (q :: l).getLast? = some z := by
      cases hz : (q :: l).getLast? with
      | none => simp at hz
      | some z => exact ⟨z, rfl⟩
    rw [e]
    rw [List.cons_append, rises, rises, h]
    rw [hz]
    rw [Bool.and_assoc]
theorem rises_more (l m : List ArcD) : rises 0 (l ++ m) = (rises 0 l && rises (leastOf l) m) := rises_append l m 0
theorem rises_one (least : Nat) (p : ArcD) : rises least [p] = !(decide (p.to < least) || decide (p.weight = 0)) := by simp [rises]
theorem rises_snoc (l : List ArcD) (p : ArcD) : rises 0 (l ++ [p]) = (rises 0 l && !(decide (p.to < leastOf l) || decide (p.weight = 0))) := by rw [rises_more, rises_one]
/-- Neighbours. -/
def may (l : List ArcD) : Bool := rises 0 l && decide (sumOf l ≤ 2147483647)
/-- Their bytes, behind so many. -/
def encGaps : Nat → List ArcD → List UInt8
  | _, [] => []
  | least, p :: l => enc (p.to - least) ++ (enc (p.weight - 1) ++ encGaps (p.to + 1) l)
def encArcs (l : List ArcD) : List UInt8 := enc l.length ++ encGaps 0 l
/-- What is read of neighbours: so many more, behind those. -/
def goOn : Nat → List ArcD → List UInt8 → List ArcD × List UInt8 × Int
  | 0, pre, l => (pre, l, 0)
  | n + 1, pre, l =>
    if 4294967295 < leastOf pre ∨ sumOf pre = 2147483647 then ([], [], if l.length = 0 then 2 else 9)
    else
      let r1 := numOf l 0 (4294967295 - leastOf pre)
      let r2 := numOf r1.2.1 r1.2.2 (2147483646 - sumOf pre)
      if r2.2.2 ≠ 0 then ([], r2.2.1, r2.2.2) else goOn n (pre ++ [⟨leastOf pre + r1.1, r2.1 + 1⟩]) r2.2.1
/-- What is read of a reader. -/
def getOf (l : List UInt8) (x : Int) : List ArcD × List UInt8 × Int :=
  let r := numOf l x top
  if r.2.2 ≠ 0 then ([], r.2.1, r.2.2) else goOn r.1 [] r.2.1
end Go.Proofs.Yteaibgnelnblnaa
end
