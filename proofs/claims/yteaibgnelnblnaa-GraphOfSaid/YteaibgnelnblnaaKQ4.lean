/- Texts put together, for a law: MkR. -/
import Derived.RegionTactic
import Derived.Deep.DeepCutAuto
import Derived.Test.YteaibgnelnblnaaKQ2
import Derived.Test.YteaibgnelnblnaaKQ3
section
namespace Go.Proofs.Yteaibgnelnblnaa
open Go.RowKit Me Tx Ed Mg

set_option maxRecDepth 100000 in
set_option maxHeartbeats 1000000 in
theorem asame_any (A A' : Option Addr) (n c c' : Nat) (l : List ArcD) (w : World) (B B' : Nat) (hl : l.length = n) (hn : n ≤ 4294967296) (h : Arcs w B A l) (h' : Arcs w B' A' l) (hB : B ≤ w.heap.size) (hB' : B' ≤ w.heap.size) :
    Calls Try.prog 14 #[.slice A n c, .slice A' n c'] w fun e w' => e = .returned (.bool true) ∧ Below w.heap.size w w' := by
  have HL := Lib.hid hl
  have HA := Lib.hid (h.more hB)
  have HA' := Lib.hid (h'.more hB')
  have d0 : ((n : Int) != (n : Int)) = false := by simp
  clear hl h h'
  go_enter Try.func14, Try.ntmps14
  go_wp2
  go_loopw [13] (fun i wr => ∃ k : Nat, k ≤ n ∧ i = .int .i64 k ∧ Hid (Below w.heap.size w wr)) (fun i _ => n - (intOf i).toNat)
  case atStart => exact ⟨0, Nat.zero_le _, rfl, Lib.hid (Below.refl _ _)⟩
  case round =>
    obtain ⟨k, hk, rfl, HB⟩ := hrel
    by_cases hlt : k < n
    · have hlt' : k < l.length := by rw [HL.out]; exact hlt
      obtain ⟨a, p, rfl, hp, -, h0, h1, h2, h3⟩ := (HA.out.below HB.out).at hlt'
      obtain ⟨a', p', rfl, hp', -, g0, g1, -, -⟩ := (HA'.out.below HB.out).at hlt'
      rw [hp] at hp'
      injection hp' with hp'
      subst hp'
      clear hp hlt'
      go_wp2
      go_region
      all_goals
        go_wp2
        go_roundw
        case rel => exact ⟨k + 1, by omega, by go_num, Lib.hid HB.out.drew⟩
        case measure => simp [intOf]; omega
    · go_wp2
      go_ret
      exact ⟨rfl, HB.out⟩

/-- A row's cells: a vertex, a slice of arcs. -/
abbrev RwV := Nat × Option Addr × Nat × Nat
def rvCells : List RwV → List Value
  | [] => []
  | p :: l => .int .u32 (p.1 : Int) :: .slice p.2.1 p.2.2.1 p.2.2.2 :: rvCells l
theorem rvCells_length : ∀ l : List RwV, (rvCells l).length = l.length * 2
  | [] => rfl
  | p :: l => by rw [rvCells, List.length_cons, List.length_cons, List.length_cons, rvCells_length l]; omega
theorem rvCells_append : ∀ l m : List RwV, rvCells (l ++ m) = rvCells l ++ rvCells m
  | [], m => rfl
  | p :: l, m => by rw [List.cons_append, rvCells, rvCells, rvCells_append l m]; rfl
theorem rvCells_get : ∀ {l : List RwV} {k : Nat} {p : RwV}, l[k]? = some p → (rvCells l)[k * 2]? = some (.int .u32 (p.1 : Int)) ∧ (rvCells l)[k * 2 + 1]? = some (.slice p.2.1 p.2.2.1 p.2.2.2)
  | [], k, p, h => by simp at h
  | q :: l, 0, p, h => by
    injection h with h
    subst h
    exact ⟨rfl, rfl⟩
  | q :: l, k + 1, p, h => by
    have := rvCells_get (l := l) (k := k) (p := p) (by simpa using h)
    rw [show (k + 1) * 2 = k * 2 + 1 + 1 by omega]
    exact ⟨by rw [rvCells]; exact this.1, by rw [rvCells]; exact this.2⟩
theorem rvCells_one : ∀ {l : List RwV}, ∀ v ∈ rvCells l, v.oneCell' = true
  | [], v, h => by simp [rvCells] at h
  | p :: l, v, h => by
    rw [rvCells, List.mem_cons, List.mem_cons] at h
    rcases h with rfl | rfl | h
    · rfl
    · rfl
    · exact rvCells_one v h
theorem rvCells_take : ∀ (l : List RwV) (k : Nat), (rvCells l).take (k * 2) = rvCells (l.take k)
  | l, 0 => by simp [rvCells]
  | [], k + 1 => by simp [rvCells]
  | p :: l, k + 1 => by
    rw [show (k + 1) * 2 = k * 2 + 1 + 1 by omega, rvCells, List.take_succ_cons, List.take_succ_cons, List.take_succ_cons, rvCells, rvCells_take l k]
/-- A row in memory: a vertex, its arcs. -/
abbrev RwD := Nat × List ArcD
structure RwAt (w : World) (lo B : Nat) (p : RwV) (r : RwD) : Prop where
  low : ∀ a, p.2.1 = some a → lo ≤ a.block
  src : p.1 = r.1
  fit : r.1 < 4294967296
  len : r.2.length = p.2.2.1
  cap : p.2.2.1 ≤ p.2.2.2 ∧ p.2.2.2 ≤ 9223372036854775807
  arcs : Arcs w B p.2.1 r.2
/-- Rows in memory, between two blocks. -/
structure RowsAt (w : World) (lo B : Nat) (L : Option Addr) (l : List RwD) : Prop where
  ex : ∃ vs : List RwV, Cs w B L (rvCells vs) ∧ vs.length = l.length ∧ ∀ (i : Nat) (p : RwV) (r : RwD), vs[i]? = some p → l[i]? = some r → RwAt w lo B p r
  low : 0 < l.length → ∀ a, L = some a → lo ≤ a.block
variable {lo : Nat} {w w' : World} {B B' : Nat} {L : Option Addr} {l : List RwD}
theorem RwAt.below {p : RwV} {r : RwD} (h : RwAt w lo B p r) (hb : Below B w w') : RwAt w' lo B p r := { h with arcs := h.arcs.below hb }
theorem RwAt.more {p : RwV} {r : RwD} (h : RwAt w lo B p r) (hB : B ≤ B') : RwAt w lo B' p r := { h with arcs := h.arcs.more hB }
theorem RowsAt.below (h : RowsAt w lo B L l) (hb : Below B w w') : RowsAt w' lo B L l := by
  obtain ⟨vs, h1, h2, h3⟩ := h.ex
  exact ⟨⟨vs, h1.below hb, h2, fun i p r hp hr => (h3 i p r hp hr).below hb⟩, h.low⟩
theorem RowsAt.more (h : RowsAt w lo B L l) (hB : B ≤ B') : RowsAt w lo B' L l := by
  obtain ⟨vs, h1, h2, h3⟩ := h.ex
  exact ⟨⟨vs, h1.more hB, h2, fun i p r hp hr => (h3 i p r hp hr).more hB⟩, h.low⟩
theorem RowsAt.past (h : RowsAt w lo w.heap.size L l) (hb : Below w.heap.size w w') : RowsAt w' lo w'.heap.size L l := (h.below hb).more hb.size
theorem RowsAt.nil : RowsAt w lo B L [] := ⟨⟨[], Cs.empty, rfl, fun i p r hp => by simp at hp⟩, fun h => by simp at h⟩
theorem RwAt.out {T : Nat → Prop} {p : RwV} {r : RwD} (h : RwAt w lo w.heap.size p r) (ho : Out T w w') (hT : ∀ k, T k → k < lo) : RwAt w' lo w'.heap.size p r :=
  { h with arcs := ⟨fun hn => by
      obtain ⟨a, e, hb, hc⟩ := h.arcs.1 hn
      exact ⟨a, e, Nat.lt_of_lt_of_le hb ho.size, fun i v hv => (ho.cell (by rw [block_add]; exact hb) (by rw [block_add]; intro t; have := hT _ t; have := h.low a e; omega)).trans (hc i v hv)⟩, h.arcs.2⟩ }
theorem RowsAt.out {T : Nat → Prop} (h : RowsAt w lo w.heap.size L l) (ho : Out T w w') (hT : ∀ k, T k → k < lo) : RowsAt w' lo w'.heap.size L l := by
  obtain ⟨vs, h1, h2, h3⟩ := h.ex
  refine ⟨⟨vs, fun hn => ?_, h2, fun i p r hp hr => (h3 i p r hp hr).out ho hT⟩, h.low⟩
  obtain ⟨a, e, hb, hc⟩ := h1 hn
  have hl : 0 < l.length := by rw [rvCells_length] at hn; omega
  exact ⟨a, e, Nat.lt_of_lt_of_le hb ho.size, fun i v hv => (ho.cell (by rw [block_add]; exact hb) (by rw [block_add]; intro t; have := hT _ t; have := h.low hl a e; omega)).trans (hc i v hv)⟩
theorem RowsAt.at {k : Nat} (h : RowsAt w lo B L l) (hk : k < l.length) :
    ∃ a p r, L = some a ∧ l[k]? = some r ∧ a.block < B ∧ w.cell? (a.add (k * 2)) = some (.int .u32 (r.1 : Int)) ∧ w.cell? ⟨(a.add (k * 2)).block, (a.add (k * 2)).off + 1, none⟩ = some (.slice p.2.1 p.2.2.1 p.2.2.2) ∧ RwAt w lo B p r := by
  obtain ⟨vs, h1, h2, h3⟩ := h.ex
  obtain ⟨a, e, hb, hc⟩ := h1 (by rw [rvCells_length]; omega)
  have hp : vs[k]? = some vs[k] := List.getElem?_eq_getElem (by omega)
  have hr : l[k]? = some l[k] := List.getElem?_eq_getElem hk
  obtain ⟨g1, g2⟩ := rvCells_get hp
  have hat := h3 k _ _ hp hr
  have c1 := hc _ _ g1
  have c2 := hc _ _ g2
  rw [hat.src] at c1
  refine ⟨a, _, _, e, hr, hb, c1, ?_, hat⟩
  have := add_field a (k * 2) 0
  rw [Nat.zero_add] at this
  rwa [this] at c2
/-- The rows of a list that is kept the last one first. -/
def arcM (l : List ArcR) : List ArcD := (l.map fun a => (⟨a.dst, a.wgt⟩ : ArcD)).reverse
def rowM (l : List RowR) : List RwD := (l.map fun r => (r.src, arcM r.arcs)).reverse
/-- What is known of each slot where two rows are compared. -/
def smG (k n c c' s n1 c1 c2 : Nat) (a a' : Addr) (A1 A2 : Option Addr) : Gw.Fact := fun t v _ =>
  match t with
  | 0 | 16 | 28 => v = .slice (some a) n c
  | 1 | 21 | 33 => v = .slice (some a') n c'
  | 5 | 17 | 22 | 29 | 34 => v = .int .i64 (k : Int)
  | 18 | 19 | 30 => v = .pointer (some (a.add (k * 2)))
  | 23 | 24 | 35 => v = .pointer (some (a'.add (k * 2)))
  | 20 | 25 => v = .int .u32 (s : Int)
  | 26 | 27 | 39 | 40 => v = .bool false
  | 31 => v = .pointer (some ⟨(a.add (k * 2)).block, (a.add (k * 2)).off + 1, none⟩)
  | 36 => v = .pointer (some ⟨(a'.add (k * 2)).block, (a'.add (k * 2)).off + 1, none⟩)
  | 32 => v = .slice A1 n1 c1
  | 37 => v = .slice A2 n1 c2
  | 38 => v = .bool true
  | _ => True
set_option maxRecDepth 100000 in
set_option maxHeartbeats 4000000 in
theorem msame_any (A A' : Option Addr) (n c c' : Nat) (l : List RwD) (w : World) (hl : l.length = n) (hn : n ≤ 4294967296) (hna : ∀ r ∈ l, r.2.length ≤ 4294967296) {lo lo' : Nat} (h : RowsAt w lo w.heap.size A l) (h' : RowsAt w lo' w.heap.size A' l) :
    Calls Try.prog 12 #[.slice A n c, .slice A' n c'] w fun e w' => e = .returned (.bool true) ∧ Below w.heap.size w w' := by
  have HL := Lib.hid hl
  have HA := Lib.hid h
  have HA' := Lib.hid h'
  have HNA := Lib.hid hna
  have d0 : ((n : Int) != (n : Int)) = false := by simp
  clear hl h h' hna
  go_enter Try.func12, Try.ntmps12
  go_wp2_with fail
  go_loopw [13] (fun i wr => ∃ k : Nat, k ≤ n ∧ i = .int .i64 (k : Int) ∧ Hid (Below w.heap.size w wr)) (fun i _ => n - (intOf i).toNat)
  case atStart => exact ⟨0, Nat.zero_le _, rfl, Lib.hid (Below.refl _ _)⟩
  case round =>
    obtain ⟨k, hk, rfl, HB⟩ := hrel
    by_cases hlt : k < n
    · have hlt' : k < l.length := by rw [HL.out]; exact hlt
      obtain ⟨a, p, r, rfl, hp, hab, g0, g1, hat⟩ := HA.out.at hlt'
      obtain ⟨a', p', r', rfl, hp', hab', g0', g1', hat'⟩ := HA'.out.at hlt'
      rw [hp] at hp'
      injection hp' with hp'
      subst hp'
      obtain ⟨s, hs⟩ : ∃ s, s = r.1 := ⟨_, rfl⟩
      rw [← hs] at g0 g0'
      obtain ⟨ps, A1, n1, c1⟩ := p
      obtain ⟨ps', A2, n2, c2⟩ := p'
      have hn12 : n2 = n1 := hat'.len.symm.trans hat.len
      subst hn12
      have hn1 : n2 ≤ 4294967296 := by
        have h1 := HNA.out r (List.mem_of_getElem? hp)
        have h2 := hat.len
        dsimp only at h2
        omega
      have HC := Lib.hid (show ∀ W, Below wr.heap.size wr W → W.cell? (a.add (k * 2)) = some (.int .u32 (s : Int)) ∧ W.cell? ⟨(a.add (k * 2)).block, (a.add (k * 2)).off + 1, none⟩ = some (.slice A1 n2 c1) ∧ W.cell? (a'.add (k * 2)) = some (.int .u32 (s : Int)) ∧ W.cell? ⟨(a'.add (k * 2)).block, (a'.add (k * 2)).off + 1, none⟩ = some (.slice A2 n2 c2) from fun W hW => by
        have hb : Below w.heap.size w W := HB.out.trans (hW.mono HB.out.size)
        exact ⟨(hb.cell (by rw [block_add]; exact hab)).trans g0, (hb.cell (p := ⟨(a.add (k * 2)).block, (a.add (k * 2)).off + 1, none⟩) (by show (a.add (k * 2)).block < _; rw [block_add]; exact hab)).trans g1, (hb.cell (by rw [block_add]; exact hab')).trans g0', (hb.cell (p := ⟨(a'.add (k * 2)).block, (a'.add (k * 2)).off + 1, none⟩) (by show (a'.add (k * 2)).block < _; rw [block_add]; exact hab')).trans g1'⟩)
      have HS := Lib.hid (show ∀ W, Below wr.heap.size wr W → Calls Try.prog 14 #[.slice A1 n2 c1, .slice A2 n2 c2] W fun e w' => e = .returned (.bool true) ∧ Below W.heap.size W w' from fun W hW => by
        have hb : Below w.heap.size w W := HB.out.trans (hW.mono HB.out.size)
        exact asame_any A1 A2 n2 c1 c2 r.2 W _ _ hat.len hn1 (hat.arcs.below hb) (hat'.arcs.below hb) hb.size hb.size)
      have hlti : (k : Int) < (n : Int) := by omega
      have hk0 : (0 : Int) ≤ (k : Int) := by omega
      have hs1 : ((s : Int) != (s : Int)) = false := by simp
      clear hp g0 g1 g0' g1' hat hat' hs hab hab' hlt'
      go_upto_region 6 with fail
      refine Gw.wp_region_grow (smG k n c c' s n2 c1 c2 a a' A1 A2) [16, 17, 18, 19, 20, 21, 22, 23, 24, 25, 26, 27, 28, 29, 30, 31, 32, 33, 34, 35, 36, 37, 38, 39, 40] [([0], none), ([5], none), ([16, 17], none), ([18], none), ([19], none), ([1], none), ([5], none), ([21, 22], none), ([23], none), ([24], none), ([20, 25], none), ([26], none), ([0, 27], some (27, false)), ([5, 27], some (27, false)), ([28, 29, 27], some (27, false)), ([30, 27], some (27, false)), ([31, 27], some (27, false)), ([1, 27], some (27, false)), ([5, 27], some (27, false)), ([33, 34, 27], some (27, false)), ([35, 27], some (27, false)), ([36, 27], some (27, false)), ([32, 37, 27], some (27, false)), ([38, 27], some (27, false)), ([27, 39], none)] 42 (by kernel_rfl) (by kernel_rfl) rfl ?h0 ?hreq ?hend
      case h0 =>
        intro t W hnd _
        unfold smG
        split <;> first | rfl | trivial | exact absurd (by simp) hnd
      case hreq =>
        refine ⟨?_, ?_, ?_, ?_, ?_, ?_, ?_, ?_, ?_, ?_, ?_, ?_, ?_, ?_, ?_, ?_, ?_, ?_, ?_, ?_, ?_, ?_, ?_, ?_, ?_, trivial⟩
        all_goals
          intro ac W hg hk
          obtain ⟨z0, z1, z2, z3⟩ := HC.out W hg
          simp only [Gw.Knows, smG] at hk
          try (simp [go_sem, Gw.OpReq, Gw.Ok, Gw.Post, Gw.Holds, smG, Gw.Grows.refl, hk, z0, z1, z2, z3, hlt, hlti, hk0]; done)
        · simp [go_sem, Gw.OpReq, Gw.Ok, Gw.Post, Gw.Holds, smG, Gw.Grows.refl, hk]
          refine (HS.out W hg).mono ?_
          rintro e W' ⟨rfl, hb4⟩
          exact ⟨_, rfl, hb4, fun _ _ => rfl⟩
      case hend =>
        intro y w5 hg hy
        have h40 : y 40 = .bool false := (hy 40 (by simp)).now
        have HB5 := Lib.hid (HB.out.trans (Below.mono (show Below wr.heap.size wr w5 from hg) HB.out.size))
        simp only [Gw.putAll, Act.put, List.setIfInBounds_toArray, List.set_cons_zero, List.set_cons_succ]
        rw [h40]
        clear hg hy h40
        go_wp2
        go_roundw
        case rel => exact ⟨k + 1, by omega, by go_num, HB5⟩
        case measure => simp [intOf]; omega
    · have hlti : ¬ (k : Int) < (n : Int) := by omega
      go_wp2
      go_ret
      exact ⟨rfl, HB.out⟩
end Go.Proofs.Yteaibgnelnblnaa
end
