/- An edge more in rows, the document's. -/
import Derived.Test.YtniffijjdehnaaaMkR
import Derived.Test.YtniffijjdehnaaaMkB
import Derived.Test.YtniffijjdehnaaaApB
import Derived.Test.YtniffijjdehnaaaGwT
namespace Go.Proofs.Ytniffijjdehnaaa
open Go.RowKit Me Tx Ed Mg

theorem rowM_cons (r : RowR) (l : List RowR) : rowM (r :: l) = rowM l ++ [(r.src, arcM r.arcs)] := by simp [rowM]
theorem arcM_cons (a : ArcR) (l : List ArcR) : arcM (a :: l) = arcM l ++ [(⟨a.dst, a.wgt⟩ : ArcD)] := by simp [arcM]
theorem rowM_length (l : List RowR) : (rowM l).length = l.length := by simp [rowM]
theorem arcM_length (l : List ArcR) : (arcM l).length = l.length := by simp [arcM]
/-- A row more. -/
theorem rowM_new {x : EdD} {rows : List RowR} (h : ∀ r l, rows = r :: l → r.src ≠ x.src) : rowM (addR x rows) = rowM rows ++ [(x.src, [(⟨x.dst, x.wgt⟩ : ArcD)])] := by
  cases rows with
  | nil => rfl
  | cons r l =>
    rw [addR, if_neg (h r l rfl), rowM_cons]
    rfl
theorem row_info : (Try.prog.info? 51).map (fun i => (i.zero, i.size, i.bytes)) = some (some (.agg #[.int .u32 0, .slice none 0 0]), 2, 32) := by kernel_rfl
theorem arc_info : (Try.prog.info? 59).map (fun i => (i.zero, i.size, i.bytes)) = some (some (.agg #[.int .u32 0, .int .u32 0]), 2, 8) := by kernel_rfl
/-- Rows out of a row of one's own. -/
theorem rows_own {w : World} {lo base n c : Nat} {e : TypeId} {A : Option Addr} {vs : List RwV} {l : List RwD} (h : w.ownsRow base e 2 (.slice A n c) n (rvCells vs)) (hlo : lo ≤ base) (hl : vs.length = l.length) (hat : ∀ (i : Nat) (p : RwV) (r : RwD), vs[i]? = some p → l[i]? = some r → RwAt w lo w.heap.size p r) : RowsAt w lo w.heap.size A l :=
  ⟨⟨vs, Cs.of_own h, hl, hat⟩, fun _ a ha => Nat.le_trans hlo (h.lt a.block (by rw [ha]; rfl)).1⟩
theorem rwat_snoc {w : World} {lo B : Nat} {vs : List RwV} {l : List RwD} {p : RwV} {r : RwD} (hl : vs.length = l.length) (hat : ∀ (i : Nat) (p : RwV) (r : RwD), vs[i]? = some p → l[i]? = some r → RwAt w lo B p r) (h : RwAt w lo B p r) :
    ∀ (i : Nat) (q : RwV) (s : RwD), (vs ++ [p])[i]? = some q → (l ++ [r])[i]? = some s → RwAt w lo B q s := fun i q s hq hs => by
  by_cases hi : i < vs.length
  · rw [List.getElem?_append_left hi] at hq
    rw [List.getElem?_append_left (by omega)] at hs
    exact hat i q s hq hs
  · rw [List.getElem?_append_right (by omega)] at hq
    rw [List.getElem?_append_right (by omega), ← hl] at hs
    have e : i - vs.length = 0 := by have := (List.getElem?_eq_some_iff.1 hq).1; simp at this; omega
    rw [e] at hq hs
    injection hq with hq
    injection hs with hs
    subst hq hs
    exact h
/-- An append that makes new memory alone, in a region that draws its order. -/
theorem okg_append {P : Program} {o : Oper} {a : Act} {w w' : World} {p : Value → World → Prop} {s x : Operand} {t : TypeId} {v u r : Value} (ho : o.op = .call { callee := .builtin .append, args := #[s, x], argTypes := #[t, t] }) (hs : a.eval s = v) (hx : a.eval x = u)
    (hr : (Builtin.append_ #[t, t] o.type #[v, u]).run P w = .ok r w') (hg : Below w.heap.size w w') (h : p r w') : Gw.Ok P o a w p := by
  unfold Gw.Ok execOp
  simp only [ho, resolve, invoke, builtin, Sem.run_bind, Sem.run_pure, Result.andThen_ok, List.map_toArray, List.map_cons, List.map_nil, hs, hx, hr]
  exact ⟨hg, h⟩
/-- What an edge more leads to. -/
def MwPost (w : World) (lo : Nat) (rows : List RowR) (e : Ending) (w' : World) : Prop :=
  ∃ A n c, e = .returned (.slice A n c) ∧ (rowM rows).length = n ∧ n ≤ c ∧ c ≤ 9223372036854775807 ∧ RowsAt w' lo w'.heap.size A (rowM rows) ∧ Below w.heap.size w w'
/-- What is known of each slot where the last row is looked at. -/
def mwG (n c H s src : Nat) (q t : Bool) (L : Option Addr) (a : Addr) : Gw.Fact := fun k v _ =>
  match k with
  | 0 | 14 => v = .slice L n c
  | 3 => v = .pointer (some ⟨H, 0, none⟩)
  | 15 => v = .int .i64 (n : Int)
  | 16 | 17 => v = .bool q
  | 18 | 19 => q = false → v = .slice (some a) n c
  | 20 => q = false → v = .int .i64 (n : Int)
  | 21 => q = false → v = .int .i64 ((n - 1 : Nat) : Int)
  | 22 | 23 => q = false → v = .pointer (some (a.add ((n - 1) * 2)))
  | 24 => q = false → v = .int .u32 (s : Int)
  | 25 => q = false → v = .pointer (some ⟨H, 0, none⟩)
  | 26 => q = false → v = .int .u32 (src : Int)
  | 27 => q = false → v = .bool t
  | 28 => v = .bool (q || t)
  | _ => True
/-- What is known of each slot where a row is put behind. -/
def mwH (H0 n c H src dst wgt : Nat) (L : Option Addr) (vs : List RwV) : Gw.Fact := fun t v W =>
  match t with
  | 0 | 30 => v = .slice L n c
  | 3 | 32 => v = .pointer (some ⟨H, 0, none⟩)
  | 5 => v = .pointer (some ⟨H + 1, 0, none⟩)
  | 33 => v = .int .u32 (src : Int)
  | 34 => v = .agg #[.int .u32 (dst : Int), .int .u32 (wgt : Int)]
  | 29 => ∃ g, v = .slice (some ⟨g, 0, none⟩) 0 0 ∧ W.ownsRow H0 51 2 v 0 []
  | 31 => ∃ (A : Option Addr) (d : Nat), v = .slice A n d ∧ W.ownsRow H0 51 2 v n (rvCells vs)
  | 35 => ∃ g, v = .slice (some ⟨g, 0, none⟩) 1 1 ∧ W.ownsRow H0 59 2 (.slice (some ⟨g, 0, none⟩) 1 1) 1 [.int .u32 (dst : Int), .int .u32 (wgt : Int)]
  | 36 => ∃ g, v = .agg #[.int .u32 (src : Int), .slice (some ⟨g, 0, none⟩) 1 1] ∧ W.ownsRow H0 59 2 (.slice (some ⟨g, 0, none⟩) 1 1) 1 [.int .u32 (dst : Int), .int .u32 (wgt : Int)]
  | 37 => ∃ f g, v = .slice (some ⟨f, 0, none⟩) 1 1 ∧ Cs W W.heap.size (some ⟨f, 0, none⟩) [.int .u32 (src : Int), .slice (some ⟨g, 0, none⟩) 1 1] ∧ W.ownsRow H0 59 2 (.slice (some ⟨g, 0, none⟩) 1 1) 1 [.int .u32 (dst : Int), .int .u32 (wgt : Int)]
  | _ => True
theorem Cs.grow {w w' : World} {A : Option Addr} {vs : List Value} (h : Cs w w.heap.size A vs) (hb : Below w.heap.size w w') : Cs w' w'.heap.size A vs := (h.below hb).more hb.size
theorem cs_new (w : World) (cs : Array Value) (t : TypeId) : Cs (w.alloc (.cells cs t)) (w.alloc (.cells cs t)).heap.size (some ⟨w.heap.size, 0, none⟩) cs.toList := by
  have := Cs.lit w cs t
  rwa [World.size_alloc]
set_option maxRecDepth 100000 in
set_option maxHeartbeats 4000000 in
theorem mwith_new (L : Option Addr) (n c : Nat) (rows : List RowR) (x : EdD) (hx : FitE x) (w : World) (hl : (rowM rows).length = n) (hn : n ≤ 100000) {lo : Nat} (hlo : lo ≤ w.heap.size) (h : RowsAt w lo w.heap.size L (rowM rows)) (hnew : ∀ r l, rows = r :: l → r.src ≠ x.src) :
    Calls Try.prog 27 #[.slice L n c, Ed.agg x] w (MwPost w lo (addR x rows)) := by
  obtain ⟨src, dst, wgt⟩ := x
  obtain ⟨H, hH⟩ : ∃ H, H = w.heap.size := ⟨_, rfl⟩
  obtain ⟨w0, hw0⟩ : ∃ w0, w0 = w.alloc (.cells #[.int .u32 (src : Int), .int .u32 (dst : Int), .int .u32 (wgt : Int)] 24) := ⟨_, rfl⟩
  obtain ⟨w1, hw1⟩ : ∃ w1, w1 = w0.alloc (.cells #[.int .u32 (dst : Int), .int .u32 (wgt : Int)] 59) := ⟨_, rfl⟩
  have hb0 : Below w.heap.size w w0 := by rw [hw0]; exact (Below.refl _ _).alloc (Nat.le_refl _) _
  have hs0 : w0.heap.size = H + 1 := by rw [hw0, hH]; simp
  have hb01 : Below w0.heap.size w0 w1 := by rw [hw1]; exact (Below.refl _ _).alloc (Nat.le_refl _) _
  have BA := Lib.hid (show Blk w0 H [.int .u32 (src : Int), .int .u32 (dst : Int), .int .u32 (wgt : Int)] by rw [hw0, hH]; exact Blk.new w [.int .u32 (src : Int), .int .u32 (dst : Int), .int .u32 (wgt : Int)] _)
  have BB := Lib.hid (show Blk w1 (H + 1) [.int .u32 (dst : Int), .int .u32 (wgt : Int)] by rw [hw1, ← hs0]; exact Blk.new w0 [.int .u32 (dst : Int), .int .u32 (wgt : Int)] _)
  have BA1 := Lib.hid (BA.out.past hb01)
  have hb1 : Below w.heap.size w w1 := hb0.trans (hb01.mono hb0.size)
  obtain ⟨vs, v1, v2, v3⟩ := h.ex
  have c0 : w0.cell? ⟨H, 0, none⟩ = some (.int .u32 (src : Int)) := BA.out.cell rfl
  have c1 : w0.cell? ⟨H, 1, none⟩ = some (.int .u32 (dst : Int)) := BA.out.cell rfl
  have c2 : w0.cell? ⟨H, 2, none⟩ = some (.int .u32 (wgt : Int)) := BA.out.cell rfl
  -- whether there is a last row
  obtain ⟨q, hq⟩ : ∃ q, decide ((n : Int) = 0) = q := ⟨_, rfl⟩
  have hq2 : ((n : Int) == 0) = q := by rw [← hq]; rfl
  obtain ⟨a, s, hqa, hqs⟩ : ∃ (a : Addr) (s : Nat), (q = false → L = some a ∧ 0 < n ∧ s ≠ src ∧ ∀ W, Below w.heap.size w W → W.cell? (a.add ((n - 1) * 2)) = some (.int .u32 (s : Int))) ∧ True := by
    cases q with
    | true => exact ⟨⟨0, 0, none⟩, 0, (fun h => by cases h), trivial⟩
    | false =>
      have hn0 : 0 < n := by simp at hq; omega
      obtain ⟨a, p, r, e1, e2, e3, e4, -, -⟩ := h.at (k := n - 1) (by omega)
      refine ⟨a, r.1, fun _ => ⟨e1, hn0, ?_, fun W hW => (hW.cell (by rw [block_add]; exact e3)).trans e4⟩, trivial⟩
      cases rows with
      | nil => rw [rowM_length] at hl; simp at hl; omega
      | cons r0 l =>
        have h0 := hnew r0 l rfl
        rw [rowM_cons] at e2 hl
        rw [List.length_append] at hl
        have e : n - 1 = (rowM l).length := by simp at hl; omega
        rw [e, List.getElem?_append_right (Nat.le_refl _), Nat.sub_self] at e2
        injection e2 with e2
        rw [← e2]
        exact h0
  have HQ := Lib.hid hqa
  have hn63 : ∀ (m : Nat), m = n - 1 → q = false → ((n : Int) - 1 = (m : Int)) := fun m hm hq0 => by have := (hqa hq0).2.1; omega
  obtain ⟨m1, hm1⟩ : ∃ m, m = n - 1 := ⟨_, rfl⟩
  have HM1 := Lib.hid (hn63 m1 hm1)
  have ht : q = false → ((s : Int) != (src : Int)) = true := fun h0 => by have := (hqa h0).2.2.1; simp; omega
  have HT := Lib.hid ht
  have HV := Lib.hid (And.intro v1 (And.intro v2 v3))
  have HL := Lib.hid hl
  have HNW := Lib.hid hnew
  have HX := Lib.hid hx
  have HW0 := Lib.hid hw0
  have HW1 := Lib.hid hw1
  have HHE := Lib.hid hH
  have HB1 := Lib.hid hb1
  have HMM := Lib.hid hm1
  have HS1 := Lib.hid (show w1.heap.size = H + 2 by rw [hw1]; simp [hs0])
  have hH0 : H < w0.heap.size := BA.out.lt
  clear h hl hx hnew v1 v2 v3 hqs hqa hn63 ht hw0 hw1 hH hb0 hb01 hb1 hq
  go_enter Try.func27, Try.ntmps27
  go_upto_region 1 with fail
  rw [← HW0.out, ← HHE.out]
  go_upto_region 2 with fail
  rw [← HW1.out]
  have HCE := Lib.hid (show ∀ W, Below w1.heap.size w1 W → W.cell? ⟨H, 0, none⟩ = some (.int .u32 (src : Int)) from fun W hW => (BA1.out.past hW).cell rfl)
  refine Gw.wp_region_grow (mwG n c H s src q true L a) [14, 15, 16, 17, 18, 19, 20, 21, 22, 23, 24, 25, 26, 27, 28] [([0], none), ([14], none), ([15], none), ([16], none), ([0, 17], some (17, false)), ([0, 17], some (17, false)), ([19, 17], some (17, false)), ([20, 17], some (17, false)), ([18, 21, 17], some (17, false)), ([22, 17], some (17, false)), ([23, 17], some (17, false)), ([3, 17], some (17, false)), ([25, 17], some (17, false)), ([24, 26, 17], some (17, false)), ([17, 27], none)] 93 (by kernel_rfl) (by kernel_rfl) rfl ?h0 ?hreq ?hend
  case h0 =>
    intro t W hnd _
    unfold mwG
    split <;> first | rfl | trivial | exact absurd (by simp) hnd
  case hreq =>
    refine ⟨?_, ?_, ?_, ?_, ?_, ?_, ?_, ?_, ?_, ?_, ?_, ?_, ?_, ?_, ?_, trivial⟩
    all_goals
      intro ac W hg hk
      have z0 := HCE.out W hg
      simp only [Gw.Knows, mwG] at hk
      rcases Bool.eq_false_or_eq_true q with hq | hq
      · simp [go_sem, Gw.OpReq, Gw.Ok, Gw.Post, Gw.Holds, mwG, Gw.Grows.refl, hk, hq, hq2]
        done
      · obtain ⟨e1, e2, -, e4⟩ := HQ.out hq
        have e5 := HM1.out hq
        have e6 := e4 W (HB1.out.trans (Below.mono (show Below w1.heap.size w1 W from hg) HB1.out.size))
        have e7 := HT.out hq
        rw [← HMM.out] at e6
        have e8 : (m1 : Int) < (n : Int) := by omega
        have e9 : m1 < n := by omega
        have e10 : IntKind.i64.wrap (m1 : Int) = (m1 : Int) := IntWalk.i64_in _ (by omega)
        simp [go_sem, Gw.OpReq, Gw.Ok, Gw.Post, Gw.Holds, mwG, Gw.Grows.refl, hk, hq, hq2, z0, e1, e5, e6, e7, e8, e9, e10, ← HMM.out]
        done
  case hend =>
    intro y w2 hg hy
    have y28 : y 28 = .bool true := by have := (hy 28 (by simp)).now; simpa [mwG] using this
    have hg' : Below w1.heap.size w1 w2 := hg
    simp only [Gw.putAll, Act.put, List.setIfInBounds_toArray, List.set_cons_zero, List.set_cons_succ]
    rw [y28]
    have HB2 := Lib.hid (HB1.out.trans (hg'.mono HB1.out.size))
    have BA2 := Lib.hid (BA1.out.past hg')
    have BB2 := Lib.hid (BB.out.past hg')
    have HS2 := Lib.hid (show H + 2 ≤ w2.heap.size by have := hg'.size; have := HS1.out; omega)
    clear hg hy hg' y28 HQ HM1 HT hq2
    go_upto_region 3 with fail
    have HE0 := Lib.hid (show ∀ W, Below w2.heap.size w2 W → (W.alloc (.cells #[] 51)).ownsRow H 51 2 (.slice (some ⟨W.heap.size, 0, none⟩) 0 0) 0 [] from fun W hW => World.ownsRow_lit (base := H) (size := 2) W #[] 0 (by have := hW.size; have := HS2.out; omega) (by unfold maxLen; omega) rfl)
    obtain ⟨i0, hi0, hz0, hz1, hz2⟩ := info_parts row_info
    have HVN := Lib.hid (show vs.length = n by rw [HV.out.2.1, HL.out])
    refine wp_region_tl 9 (mwH H n c H src dst wgt L vs) [29, 30, 31, 32, 33, 34, 35, 36, 37] [([], none), ([0], none), ([29, 30], none), ([3], none), ([32], none), ([5], none), ([34], none), ([33, 35], none), ([36], none)] 93 (by kernel_rfl) (by kernel_rfl) rfl ?h0 ?hreq rfl ?hend
    case h0 =>
      intro t W hnd _
      unfold mwH
      split <;> first | rfl | trivial | exact absurd (by simp) hnd
    case hreq =>
      refine ⟨?_, ?_, ?_, ?_, ?_, ?_, ?_, ?_, ?_, trivial⟩
      all_goals
        intro ac W hg hk
        have hg' : Below w2.heap.size w2 W := hg
        have z0 := (BA2.out.past hg').cell (i := 0) rfl
        have z1 := (BB2.out.past hg').cell (i := 0) rfl
        have z2 := (BB2.out.past hg').cell (i := 1) rfl
        have HSW : H ≤ W.heap.size := by have := hg'.size; have := HS2.out; omega
        simp only [Gw.Knows, mwH] at hk
        try (simp [go_sem, Gw.OpReq, Gw.Ok, Gw.Post, Gw.Holds, mwH, Gw.Grows.refl, hk, z0, z1, z2]; done)
      · simp [go_sem, Gw.OpReq, Gw.Ok, Gw.Post, Gw.Holds, mwH, hk]
        exact ⟨(Below.refl _ _).alloc (Nat.le_refl _) _, fun W2 hW2 => own_below' (HE0.out W hg') hW2⟩
      · obtain ⟨⟨g, e29, ho29⟩, e30, -⟩ := hk
        obtain ⟨v', w', hr, ho, hb⟩ := run_copy_row (P := Try.prog) W H 36 36 51 i0 _ 2 32 Try.underlying36 hi0 hz0 hz1 hz2 rfl (by decide) ⟨g, 0, none⟩ (by rw [e29] at ho29; exact ho29) HSW L n c (rvCells vs) (by rw [rvCells_length, HVN.out]) (fun hn0 => by
          obtain ⟨b, e1, e2, e3⟩ := (HV.out.1.below (HB2.out.trans (hg'.mono HB2.out.size))) hn0
          exact ⟨b, e1, e3⟩) (by unfold maxLen; omega) (by omega)
        obtain ⟨A8, d8, rfl, -⟩ := own_slice' ho
        show Gw.Ok _ _ _ _ _
        refine okg_append rfl ((Gw.eval_slot ac 29).trans e29) ((Gw.eval_slot ac 30).trans e30) hr hb ?_
        intro W2 hW2
        exact ⟨A8, d8, rfl, own_below' ho hW2⟩
      · simp [go_sem, Gw.OpReq, Gw.Ok, Gw.Post, Gw.Holds, mwH, hk]
        exact ⟨(Below.refl _ _).alloc (Nat.le_refl _) _, fun W2 hW2 => own_below' (World.ownsRow_lit (base := H) (size := 2) W #[.int .u32 (dst : Int), .int .u32 (wgt : Int)] 1 HSW (by unfold maxLen; omega) rfl) hW2⟩
      · obtain ⟨e33, ⟨g, e35, hc35⟩, -⟩ := hk
        simp [go_sem, Gw.OpReq, Gw.Ok, Gw.Post, Gw.Holds, mwH, e33, e35]
        exact ⟨Gw.Grows.refl _, fun W2 hW2 => own_below' hc35 hW2⟩
      · obtain ⟨⟨g, e36, hc36⟩, -⟩ := hk
        simp [go_sem, Gw.OpReq, Gw.Ok, Gw.Post, Gw.Holds, mwH, e36]
        refine ⟨(Below.refl _ _).alloc (Nat.le_refl _) _, fun W2 hW2 => ⟨g, (cs_new W #[.int .u32 (src : Int), .slice (some ⟨g, 0, none⟩) 1 1] 51).grow hW2, ?_⟩⟩
        exact own_below' (own_below' hc36 ((Below.refl _ _).alloc (Nat.le_refl _) _)) hW2
    case hend =>
      intro y w3 hg hy
      have hg' : Below w2.heap.size w2 w3 := hg
      obtain ⟨A31, d31, y31, ho31⟩ : ∃ (A : Option Addr) (d : Nat), y 31 = .slice A n d ∧ w3.ownsRow H 51 2 (y 31) n (rvCells vs) := (hy 31 (by simp)).now
      obtain ⟨f, g, y37, hc37, hc35⟩ : ∃ f g, y 37 = .slice (some ⟨f, 0, none⟩) 1 1 ∧ Cs w3 w3.heap.size (some ⟨f, 0, none⟩) [.int .u32 (src : Int), .slice (some ⟨g, 0, none⟩) 1 1] ∧ w3.ownsRow H 59 2 (.slice (some ⟨g, 0, none⟩) 1 1) 1 [.int .u32 (dst : Int), .int .u32 (wgt : Int)] := (hy 37 (by simp)).now
      rw [y31] at ho31
      simp only [Gw.putAll, Act.put, List.setIfInBounds_toArray, List.set_cons_zero, List.set_cons_succ]
      rw [y31, y37]
      obtain ⟨f', ef, hfl, hfc⟩ := hc37 (by simp)
      injection ef with ef
      subst ef
      refine tl_append (.tmp 31) (.tmp 37) 36 rfl H 51 i0 _ 2 32 Try.underlying36 hi0 hz0 hz1 hz2 rfl (by decide) A31 n d31 _ rfl ho31 ⟨f, 0, none⟩ 1 1 [.int .u32 (src : Int), .slice (some ⟨g, 0, none⟩) 1 1] rfl rfl hfc (fun u hu => by simp at hu; rcases hu with rfl | rfl <;> rfl) (by decide) (by unfold maxLen; omega) (by omega) (by have := hg'.size; have := HS2.out; omega) ?_
      intro v6 w6 ho6 hg6 hn6
      obtain ⟨A8, c8, hv8, hc8⟩ := own_slice' ho6
      subst hv8
      have hb3 : Below w.heap.size w w3 := HB2.out.trans (hg'.mono HB2.out.size)
      have hb6 : Below w.heap.size w w6 := hb3.grown hg6 hb3.size (fun k e => by rw [← HHE.out]; exact (World.ownsRow.lt ho31 k e).1)
      have ho35 : w6.ownsRow H 59 2 (.slice (some ⟨g, 0, none⟩) 1 1) 1 [.int .u32 (dst : Int), .int .u32 (wgt : Int)] := own_out hc35 ((Out.refl (fun k => (Value.slice A31 n d31).ownBlock = some k) w3).grown hg6 (fun k e => .inl e)) (fun k e1 e2 => own_apart ho31 hc35 (by decide) e2 e1)
      have hrow : w6.ownsRow H 51 2 (.slice A8 (n + 1) c8) (n + 1) (rvCells (vs ++ [(src, some ⟨g, 0, none⟩, 1, 1)])) := by
        rw [rvCells_append]
        exact ho6
      have hrows : RowsAt w6 lo w6.heap.size A8 (rowM (addR ⟨src, dst, wgt⟩ rows)) := by
        rw [rowM_new HNW.out]
        refine rows_own hrow (by have := HHE.out; omega) (by rw [List.length_append, List.length_append, HV.out.2.1]; rfl) (rwat_snoc HV.out.2.1 (fun i p r hp hr => ((HV.out.2.2 i p r hp hr).below hb6).more hb6.size) ⟨(fun a ha => by injection ha with ha; rw [← ha]; have := (ho35.lt g rfl).1; have := HHE.out; show lo ≤ g; omega), rfl, HX.out.1, rfl, ⟨Nat.le_refl _, by show 1 ≤ _; omega⟩, Cs.of_own ho35, fun p hp => ?_⟩)
        rw [List.mem_singleton.1 hp]
        exact ⟨HX.out.2.1, HX.out.2.2⟩
      have FIN := Lib.hid (show MwPost w lo (addR ⟨src, dst, wgt⟩ rows) (.returned (.slice A8 (n + 1) c8)) w6 from ⟨A8, n + 1, c8, rfl, by rw [rowM_new HNW.out, List.length_append, HL.out]; rfl, hc8, by have := (own_bounds hrow).2; exact this, hrows, hb6⟩)
      refine tlk_run (w' := w6) (.slice A8 (n + 1) c8) (by simp [execOp, go_sem]) ?_
      refine tl_nil ?_
      clear hg hy hg' y31 y37 ho31 hc37 hc35 hfl hfc ho6 hg6 hn6 hb3 hb6 ho35 hrow hrows hc8
      go_wp2
      go_ret
      exact FIN.out
end Go.Proofs.Ytniffijjdehnaaa
