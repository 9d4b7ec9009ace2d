/- Texts put together, for a law: MkW, MkV. -/
import Derived.Test.YteaibgnelnblnaaKQ4
import Derived.Test.YteaibgnelnblnaaKQ14
import Derived.Test.YteaibgnelnblnaaKQ8
import Derived.Test.YteaibgnelnblnaaKQ2
section
namespace Go.Proofs.Yteaibgnelnblnaa
open Go.RowKit Me Tx Ed Mg

theorem rowM_cons (r : RowR) (l : List RowR) : rowM (r :: l) = rowM l ++ [(r.src, arcM r.arcs)] := by simp [rowM]
theorem arcM_cons (a : ArcR) (l : List ArcR) : arcM (a :: l) = arcM l ++ [(⟨a.dst, a.wgt⟩ : ArcD)] := by simp [arcM]
theorem rowM_length (l : List RowR) : (rowM l).length = l.length := by simp [rowM]
theorem arcM_length (l : List ArcR) : (arcM l).length = l.length := by simp [arcM]
/-- A row more. -/
theorem rowM_new {x : EdD} {rows : List RowR} (h : ∀ r l, rows = r :: l → r.src ≠ x.src) : rowM (addR x rows) = rowM rows ++ [(x.src, [(⟨x.dst, x.wgt⟩ : ArcD)])] := by
  cases rows with
  | nil => rfl
  | cons r l =>
    rw [addR, if_neg (h r l rfl), rowM_cons]
    rfl
theorem row_info : (Try.prog.info? 51).map (fun i => (i.zero, i.size, i.bytes)) = some (some (.agg #[.int .u32 0, .slice none 0 0]), 2, 32) := by kernel_rfl
theorem arc_info : (Try.prog.info? 55).map (fun i => (i.zero, i.size, i.bytes)) = some (some (.agg #[.int .u32 0, .int .u32 0]), 2, 8) := by kernel_rfl
/-- Rows out of a row of one's own. -/
theorem rows_own {w : World} {lo base n c : Nat} {e : TypeId} {A : Option Addr} {vs : List RwV} {l : List RwD} (h : w.ownsRow base e 2 (.slice A n c) n (rvCells vs)) (hlo : lo ≤ base) (hl : vs.length = l.length) (hat : ∀ (i : Nat) (p : RwV) (r : RwD), vs[i]? = some p → l[i]? = some r → RwAt w lo w.heap.size p r) : RowsAt w lo w.heap.size A l :=
  ⟨⟨vs, Cs.of_own h, hl, hat⟩, fun _ a ha => Nat.le_trans hlo (h.lt a.block (by rw [ha]; rfl)).1⟩
theorem rwat_snoc {w : World} {lo B : Nat} {vs : List RwV} {l : List RwD} {p : RwV} {r : RwD} (hl : vs.length = l.length) (hat : ∀ (i : Nat) (p : RwV) (r : RwD), vs[i]? = some p → l[i]? = some r → RwAt w lo B p r) (h : RwAt w lo B p r) :
    ∀ (i : Nat) (q : RwV) (s : RwD), (vs ++ [p])[i]? = some q → (l ++ [r])[i]? = some s → RwAt w lo B q s := fun i q s hq hs => by
  by_cases hi : i < vs.length
  · rw [List.getElem?_append_left hi] at hq
    rw [List.getElem?_append_left (by omega)] at hs
    exact hat i q s hq hs
  · rw [List.getElem?_append_right (by omega)] at hq
    rw [List.getElem?_append_right (by omega), ← hl] at hs
    have e : i - vs.length = 0 := by have := (List.getElem?_eq_some_iff.1 hq).1; simp at this; omega
    rw [e] at hq hs
    injection hq with hq
    injection hs with hs
    subst hq hs
    exact h
/-- An append that makes new memory alone, in a region that draws its order. -/
theorem okg_append {P : Program} {o : Oper} {a : Act} {w w' : World} {p : Value → World → Prop} {s x : Operand} {t : TypeId} {v u r : Value} (ho : o.op = .call { callee := .builtin .append, args := #[s, x], argTypes := #[t, t] }) (hs : a.eval s = v) (hx : a.eval x = u)
    (hr : (Builtin.append_ #[t, t] o.type #[v, u]).run P w = .ok r w') (hg : Below w.heap.size w w') (h : p r w') : Gw.Ok P o a w p := by
  unfold Gw.Ok execOp
  simp only [ho, resolve, invoke, builtin, Sem.run_bind, Sem.run_pure, Result.andThen_ok, List.map_toArray, List.map_cons, List.map_nil, hs, hx, hr]
  exact ⟨hg, h⟩
/-- What an edge more leads to. -/
def MwPost (w : World) (lo : Nat) (rows : List RowR) (e : Ending) (w' : World) : Prop :=
  ∃ A n c, e = .returned (.slice A n c) ∧ (rowM rows).length = n ∧ n ≤ c ∧ c ≤ 9223372036854775807 ∧ RowsAt w' lo w'.heap.size A (rowM rows) ∧ Below w.heap.size w w'
/-- What is known of each slot where the last row is looked at. -/
def mwG (n c H s src : Nat) (q t : Bool) (L : Option Addr) (a : Addr) : Gw.Fact := fun k v _ =>
  match k with
  | 0 | 14 => v = .slice L n c
  | 3 => v = .pointer (some ⟨H, 0, none⟩)
  | 15 => v = .int .i64 (n : Int)
  | 16 | 17 => v = .bool q
  | 18 | 19 => q = false → v = .slice (some a) n c
  | 20 => q = false → v = .int .i64 (n : Int)
  | 21 => q = false → v = .int .i64 ((n - 1 : Nat) : Int)
  | 22 | 23 => q = false → v = .pointer (some (a.add ((n - 1) * 2)))
  | 24 => q = false → v = .int .u32 (s : Int)
  | 25 => q = false → v = .pointer (some ⟨H, 0, none⟩)
  | 26 => q = false → v = .int .u32 (src : Int)
  | 27 => q = false → v = .bool t
  | 28 => v = .bool (q || t)
  | _ => True
/-- What is known of each slot where a row is put behind. -/
def mwH (H0 n c H src dst wgt : Nat) (L : Option Addr) (vs : List RwV) : Gw.Fact := fun t v W =>
  match t with
  | 0 | 30 => v = .slice L n c
  | 3 | 32 => v = .pointer (some ⟨H, 0, none⟩)
  | 5 => v = .pointer (some ⟨H + 1, 0, none⟩)
  | 33 => v = .int .u32 (src : Int)
  | 34 => v = .agg #[.int .u32 (dst : Int), .int .u32 (wgt : Int)]
  | 29 => ∃ g, v = .slice (some ⟨g, 0, none⟩) 0 0 ∧ W.ownsRow H0 51 2 v 0 []
  | 31 => ∃ (A : Option Addr) (d : Nat), v = .slice A n d ∧ W.ownsRow H0 51 2 v n (rvCells vs)
  | 35 => ∃ g, v = .slice (some ⟨g, 0, none⟩) 1 1 ∧ W.ownsRow H0 55 2 (.slice (some ⟨g, 0, none⟩) 1 1) 1 [.int .u32 (dst : Int), .int .u32 (wgt : Int)]
  | 36 => ∃ g, v = .agg #[.int .u32 (src : Int), .slice (some ⟨g, 0, none⟩) 1 1] ∧ W.ownsRow H0 55 2 (.slice (some ⟨g, 0, none⟩) 1 1) 1 [.int .u32 (dst : Int), .int .u32 (wgt : Int)]
  | 37 => ∃ f g, v = .slice (some ⟨f, 0, none⟩) 1 1 ∧ Cs W W.heap.size (some ⟨f, 0, none⟩) [.int .u32 (src : Int), .slice (some ⟨g, 0, none⟩) 1 1] ∧ W.ownsRow H0 55 2 (.slice (some ⟨g, 0, none⟩) 1 1) 1 [.int .u32 (dst : Int), .int .u32 (wgt : Int)]
  | _ => True
theorem Cs.grow {w w' : World} {A : Option Addr} {vs : List Value} (h : Cs w w.heap.size A vs) (hb : Below w.heap.size w w') : Cs w' w'.heap.size A vs := (h.below hb).more hb.size
theorem cs_new (w : World) (cs : Array Value) (t : TypeId) : Cs (w.alloc (.cells cs t)) (w.alloc (.cells cs t)).heap.size (some ⟨w.heap.size, 0, none⟩) cs.toList := by
  have := Cs.lit w cs t
  rwa [World.size_alloc]
set_option maxRecDepth 100000 in
set_option maxHeartbeats 4000000 in
theorem mwith_new (L : Option Addr) (n c : Nat) (rows : List RowR) (x : EdD) (hx : FitE x) (w : World) (hl : (rowM rows).length = n) (hn : n ≤ 100000) {lo : Nat} (hlo : lo ≤ w.heap.size) (h : RowsAt w lo w.heap.size L (rowM rows)) (hnew : ∀ r l, rows = r :: l → r.src ≠ x.src) :
    Calls Try.prog 54 #[.slice L n c, Ed.agg x] w (MwPost w lo (addR x rows)) := by
  obtain ⟨src, dst, wgt⟩ := x
  obtain ⟨H, hH⟩ : ∃ H, H = w.heap.size := ⟨_, rfl⟩
  obtain ⟨w0, hw0⟩ : ∃ w0, w0 = w.alloc (.cells #[.int .u32 (src : Int), .int .u32 (dst : Int), .int .u32 (wgt : Int)] 58) := ⟨_, rfl⟩
  obtain ⟨w1, hw1⟩ : ∃ w1, w1 = w0.alloc (.cells #[.int .u32 (dst : Int), .int .u32 (wgt : Int)] 55) := ⟨_, rfl⟩
  have hb0 : Below w.heap.size w w0 := by rw [hw0]; exact (Below.refl _ _).alloc (Nat.le_refl _) _
  have hs0 : w0.heap.size = H + 1 := by rw [hw0, hH]; simp
  have hb01 : Below w0.heap.size w0 w1 := by rw [hw1]; exact (Below.refl _ _).alloc (Nat.le_refl _) _
  have BA := Lib.hid (show Blk w0 H [.int .u32 (src : Int), .int .u32 (dst : Int), .int .u32 (wgt : Int)] by rw [hw0, hH]; exact Blk.new w [.int .u32 (src : Int), .int .u32 (dst : Int), .int .u32 (wgt : Int)] _)
  have BB := Lib.hid (show Blk w1 (H + 1) [.int .u32 (dst : Int), .int .u32 (wgt : Int)] by rw [hw1, ← hs0]; exact Blk.new w0 [.int .u32 (dst : Int), .int .u32 (wgt : Int)] _)
  have BA1 := Lib.hid (BA.out.past hb01)
  have hb1 : Below w.heap.size w w1 := hb0.trans (hb01.mono hb0.size)
  obtain ⟨vs, v1, v2, v3⟩ := h.ex
  have c0 : w0.cell? ⟨H, 0, none⟩ = some (.int .u32 (src : Int)) := BA.out.cell rfl
  have c1 : w0.cell? ⟨H, 1, none⟩ = some (.int .u32 (dst : Int)) := BA.out.cell rfl
  have c2 : w0.cell? ⟨H, 2, none⟩ = some (.int .u32 (wgt : Int)) := BA.out.cell rfl
  -- whether there is a last row
  obtain ⟨q, hq⟩ : ∃ q, decide ((n : Int) = 0) = q := ⟨_, rfl⟩
  have hq2 : ((n : Int) == 0) = q := by rw [← hq]; rfl
  obtain ⟨a, s, hqa, hqs⟩ : ∃ (a : Addr) (s : Nat), (q = false → L = some a ∧ 0 < n ∧ s ≠ src ∧ ∀ W, Below w.heap.size w W → W.cell? (a.add ((n - 1) * 2)) = some (.int .u32 (s : Int))) ∧ True := by
    cases q with
    | true => exact ⟨⟨0, 0, none⟩, 0, (fun h => by cases h), trivial⟩
    | false =>
      have hn0 : 0 < n := by simp at hq; omega
      obtain ⟨a, p, r, e1, e2, e3, e4, -, -⟩ := h.at (k := n - 1) (by omega)
      refine ⟨a, r.1, fun _ => ⟨e1, hn0, ?_, fun W hW => (hW.cell (by rw [block_add]; exact e3)).trans e4⟩, trivial⟩
      cases rows with
      | nil => rw [rowM_length] at hl; simp at hl; omega
      | cons r0 l =>
        have h0 := hnew r0 l rfl
        rw [rowM_cons] at e2 hl
        rw [List.length_append] at hl
        have e : n - 1 = (rowM l).length := by simp at hl; omega
        rw [e, List.getElem?_append_right (Nat.le_refl _), Nat.sub_self] at e2
        injection e2 with e2
        rw [← e2]
        exact h0
  have HQ := Lib.hid hqa
  have hn63 : ∀ (m : Nat), m = n - 1 → q = false → ((n : Int) - 1 = (m : Int)) := fun m hm hq0 => by have := (hqa hq0).2.1; omega
  obtain ⟨m1, hm1⟩ : ∃ m, m = n - 1 := ⟨_, rfl⟩
  have HM1 := Lib.hid (hn63 m1 hm1)
  have ht : q = false → ((s : Int) != (src : Int)) = true := fun h0 => by have := (hqa h0).2.2.1; simp; omega
  have HT := Lib.hid ht
  have HV := Lib.hid (And.intro v1 (And.intro v2 v3))
  have HL := Lib.hid hl
  have HNW := Lib.hid hnew
  have HX := Lib.hid hx
  have HW0 := Lib.hid hw0
  have HW1 := Lib.hid hw1
  have HHE := Lib.hid hH
  have HB1 := Lib.hid hb1
  have HMM := Lib.hid hm1
  have HS1 := Lib.hid (show w1.heap.size = H + 2 by rw [hw1]; simp [hs0])
  have hH0 : H < w0.heap.size := BA.out.lt
  clear h hl hx hnew v1 v2 v3 hqs hqa hn63 ht hw0 hw1 hH hb0 hb01 hb1 hq
  go_enter Try.func54, Try.ntmps54
  go_upto_region 1 with fail
  rw [← HW0.out, ← HHE.out]
  go_upto_region 2 with fail
  rw [← HW1.out]
  have HCE := Lib.hid (show ∀ W, Below w1.heap.size w1 W → W.cell? ⟨H, 0, none⟩ = some (.int .u32 (src : Int)) from fun W hW => (BA1.out.past hW).cell rfl)
  refine Gw.wp_region_grow (mwG n c H s src q true L a) [14, 15, 16, 17, 18, 19, 20, 21, 22, 23, 24, 25, 26, 27, 28] [([0], none), ([14], none), ([15], none), ([16], none), ([0, 17], some (17, false)), ([0, 17], some (17, false)), ([19, 17], some (17, false)), ([20, 17], some (17, false)), ([18, 21, 17], some (17, false)), ([22, 17], some (17, false)), ([23, 17], some (17, false)), ([3, 17], some (17, false)), ([25, 17], some (17, false)), ([24, 26, 17], some (17, false)), ([17, 27], none)] 93 (by kernel_rfl) (by kernel_rfl) rfl ?h0 ?hreq ?hend
  case h0 =>
    intro t W hnd _
    unfold mwG
    split <;> first | rfl | trivial | exact absurd (by simp) hnd
  case hreq =>
    refine ⟨?_, ?_, ?_, ?_, ?_, ?_, ?_, ?_, ?_, ?_, ?_, ?_, ?_, ?_, ?_, trivial⟩
    all_goals
      intro ac W hg hk
      have z0 := HCE.out W hg
      simp only [Gw.Knows, mwG] at hk
      rcases Bool.eq_false_or_eq_true q with hq | hq
      · simp [go_sem, Gw.OpReq, Gw.Ok, Gw.Post, Gw.Holds, mwG, Gw.Grows.refl, hk, hq, hq2]
        done
      · obtain ⟨e1, e2, -, e4⟩ := HQ.out hq
        have e5 := HM1.out hq
        have e6 := e4 W (HB1.out.trans (Below.mono (show Below w1.heap.size w1 W from hg) HB1.out.size))
        have e7 := HT.out hq
        rw [← HMM.out] at e6
        have e8 : (m1 : Int) < (n : Int) := by omega
        have e9 : m1 < n := by omega
        have e10 : IntKind.i64.wrap (m1 : Int) = (m1 : Int) := IntWalk.i64_in _ (by omega)
        simp [go_sem, Gw.OpReq, Gw.Ok, Gw.Post, Gw.Holds, mwG, Gw.Grows.refl, hk, hq, hq2, z0, e1, e5, e6, e7, e8, e9, e10, ← HMM.out]
        done
  case hend =>
    intro y w2 hg hy
    have y28 : y 28 = .bool true := by have := (hy 28 (by simp)).now; simpa [mwG] using this
    have hg' : Below w1.heap.size w1 w2 := hg
    simp only [Gw.putAll, Act.put, List.setIfInBounds_toArray, List.set_cons_zero, List.set_cons_succ]
    rw [y28]
    have HB2 := Lib.hid (HB1.out.trans (hg'.mono HB1.out.size))
    have BA2 := Lib.hid (BA1.out.past hg')
    have BB2 := Lib.hid (BB.out.past hg')
    have HS2 := Lib.hid (show H + 2 ≤ w2.heap.size by have := hg'.size; have := HS1.out; omega)
    clear hg hy hg' y28 HQ HM1 HT hq2
    go_upto_region 3 with fail
    have HE0 := Lib.hid (show ∀ W, Below w2.heap.size w2 W → (W.alloc (.cells #[] 51)).ownsRow H 51 2 (.slice (some ⟨W.heap.size, 0, none⟩) 0 0) 0 [] from fun W hW => World.ownsRow_lit (base := H) (size := 2) W #[] 0 (by have := hW.size; have := HS2.out; omega) (by unfold maxLen; omega) rfl)
    obtain ⟨i0, hi0, hz0, hz1, hz2⟩ := info_parts row_info
    have HVN := Lib.hid (show vs.length = n by rw [HV.out.2.1, HL.out])
    refine wp_region_tl 9 (mwH H n c H src dst wgt L vs) [29, 30, 31, 32, 33, 34, 35, 36, 37] [([], none), ([0], none), ([29, 30], none), ([3], none), ([32], none), ([5], none), ([34], none), ([33, 35], none), ([36], none)] 93 (by kernel_rfl) (by kernel_rfl) rfl ?h0 ?hreq rfl ?hend
    case h0 =>
      intro t W hnd _
      unfold mwH
      split <;> first | rfl | trivial | exact absurd (by simp) hnd
    case hreq =>
      refine ⟨?_, ?_, ?_, ?_, ?_, ?_, ?_, ?_, ?_, trivial⟩
      all_goals
        intro ac W hg hk
        have hg' : Below w2.heap.size w2 W := hg
        have z0 := (BA2.out.past hg').cell (i := 0) rfl
        have z1 := (BB2.out.past hg').cell (i := 0) rfl
        have z2 := (BB2.out.past hg').cell (i := 1) rfl
        have HSW : H ≤ W.heap.size := by have := hg'.size; have := HS2.out; omega
        simp only [Gw.Knows, mwH] at hk
        try (simp [go_sem, Gw.OpReq, Gw.Ok, Gw.Post, Gw.Holds, mwH, Gw.Grows.refl, hk, z0, z1, z2]; done)
      · simp [go_sem, Gw.OpReq, Gw.Ok, Gw.Post, Gw.Holds, mwH, hk]
        exact ⟨(Below.refl _ _).alloc (Nat.le_refl _) _, fun W2 hW2 => own_below' (HE0.out W hg') hW2⟩
      · obtain ⟨⟨g, e29, ho29⟩, e30, -⟩ := hk
        obtain ⟨v', w', hr, ho, hb⟩ := run_copy_row (P := Try.prog) W H 29 29 51 i0 _ 2 32 Try.underlying29 hi0 hz0 hz1 hz2 rfl (by decide) ⟨g, 0, none⟩ (by rw [e29] at ho29; exact ho29) HSW L n c (rvCells vs) (by rw [rvCells_length, HVN.out]) (fun hn0 => by
          obtain ⟨b, e1, e2, e3⟩ := (HV.out.1.below (HB2.out.trans (hg'.mono HB2.out.size))) hn0
          exact ⟨b, e1, e3⟩) (by unfold maxLen; omega) (by omega)
        obtain ⟨A8, d8, rfl, -⟩ := own_slice' ho
        show Gw.Ok _ _ _ _ _
        refine okg_append rfl ((Gw.eval_slot ac 29).trans e29) ((Gw.eval_slot ac 30).trans e30) hr hb ?_
        intro W2 hW2
        exact ⟨A8, d8, rfl, own_below' ho hW2⟩
      · simp [go_sem, Gw.OpReq, Gw.Ok, Gw.Post, Gw.Holds, mwH, hk]
        exact ⟨(Below.refl _ _).alloc (Nat.le_refl _) _, fun W2 hW2 => own_below' (World.ownsRow_lit (base := H) (size := 2) W #[.int .u32 (dst : Int), .int .u32 (wgt : Int)] 1 HSW (by unfold maxLen; omega) rfl) hW2⟩
      · obtain ⟨e33, ⟨g, e35, hc35⟩, -⟩ := hk
        simp [go_sem, Gw.OpReq, Gw.Ok, Gw.Post, Gw.Holds, mwH, e33, e35]
        exact ⟨Gw.Grows.refl _, fun W2 hW2 => own_below' hc35 hW2⟩
      · obtain ⟨⟨g, e36, hc36⟩, -⟩ := hk
        simp [go_sem, Gw.OpReq, Gw.Ok, Gw.Post, Gw.Holds, mwH, e36]
        refine ⟨(Below.refl _ _).alloc (Nat.le_refl _) _, fun W2 hW2 => ⟨g, (cs_new W #[.int .u32 (src : Int), .slice (some ⟨g, 0, none⟩) 1 1] 51).grow hW2, ?_⟩⟩
        exact own_below' (own_below' hc36 ((Below.refl _ _).alloc (Nat.le_refl _) _)) hW2
    case hend =>
      intro y w3 hg hy
      have hg' : Below w2.heap.size w2 w3 := hg
      obtain ⟨A31, d31, y31, ho31⟩ : ∃ (A : Option Addr) (d : Nat), y 31 = .slice A n d ∧ w3.ownsRow H 51 2 (y 31) n (rvCells vs) := (hy 31 (by simp)).now
      obtain ⟨f, g, y37, hc37, hc35⟩ : ∃ f g, y 37 = .slice (some ⟨f, 0, none⟩) 1 1 ∧ Cs w3 w3.heap.size (some ⟨f, 0, none⟩) [.int .u32 (src : Int), .slice (some ⟨g, 0, none⟩) 1 1] ∧ w3.ownsRow H 55 2 (.slice (some ⟨g, 0, none⟩) 1 1) 1 [.int .u32 (dst : Int), .int .u32 (wgt : Int)] := (hy 37 (by simp)).now
      rw [y31] at ho31
      simp only [Gw.putAll, Act.put, List.setIfInBounds_toArray, List.set_cons_zero, List.set_cons_succ]
      rw [y31, y37]
      obtain ⟨f', ef, hfl, hfc⟩ := hc37 (by simp)
      injection ef with ef
      subst ef
      refine tl_append (.tmp 31) (.tmp 37) 29 rfl H 51 i0 _ 2 32 Try.underlying29 hi0 hz0 hz1 hz2 rfl (by decide) A31 n d31 _ rfl ho31 ⟨f, 0, none⟩ 1 1 [.int .u32 (src : Int), .slice (some ⟨g, 0, none⟩) 1 1] rfl rfl hfc (fun u hu => by simp at hu; rcases hu with rfl | rfl <;> rfl) (by decide) (by unfold maxLen; omega) (by omega) (by have := hg'.size; have := HS2.out; omega) ?_
      intro v6 w6 ho6 hg6 hn6
      obtain ⟨A8, c8, hv8, hc8⟩ := own_slice' ho6
      subst hv8
      have hb3 : Below w.heap.size w w3 := HB2.out.trans (hg'.mono HB2.out.size)
      have hb6 : Below w.heap.size w w6 := hb3.grown hg6 hb3.size (fun k e => by rw [← HHE.out]; exact (World.ownsRow.lt ho31 k e).1)
      have ho35 : w6.ownsRow H 55 2 (.slice (some ⟨g, 0, none⟩) 1 1) 1 [.int .u32 (dst : Int), .int .u32 (wgt : Int)] := own_out hc35 ((Out.refl (fun k => (Value.slice A31 n d31).ownBlock = some k) w3).grown hg6 (fun k e => .inl e)) (fun k e1 e2 => own_apart ho31 hc35 (by decide) e2 e1)
      have hrow : w6.ownsRow H 51 2 (.slice A8 (n + 1) c8) (n + 1) (rvCells (vs ++ [(src, some ⟨g, 0, none⟩, 1, 1)])) := by
        rw [rvCells_append]
        exact ho6
      have hrows : RowsAt w6 lo w6.heap.size A8 (rowM (addR ⟨src, dst, wgt⟩ rows)) := by
        rw [rowM_new HNW.out]
        refine rows_own hrow (by have := HHE.out; omega) (by rw [List.length_append, List.length_append, HV.out.2.1]; rfl) (rwat_snoc HV.out.2.1 (fun i p r hp hr => ((HV.out.2.2 i p r hp hr).below hb6).more hb6.size) ⟨(fun a ha => by injection ha with ha; rw [← ha]; have := (ho35.lt g rfl).1; have := HHE.out; show lo ≤ g; omega), rfl, HX.out.1, rfl, ⟨Nat.le_refl _, by show 1 ≤ _; omega⟩, Cs.of_own ho35, fun p hp => ?_⟩)
        rw [List.mem_singleton.1 hp]
        exact ⟨HX.out.2.1, HX.out.2.2⟩
      have FIN := Lib.hid (show MwPost w lo (addR ⟨src, dst, wgt⟩ rows) (.returned (.slice A8 (n + 1) c8)) w6 from ⟨A8, n + 1, c8, rfl, by rw [rowM_new HNW.out, List.length_append, HL.out]; rfl, hc8, by have := (own_bounds hrow).2; exact this, hrows, hb6⟩)
      refine tlk_run (w' := w6) (.slice A8 (n + 1) c8) (by simp [execOp, go_sem]) ?_
      refine tl_nil ?_
      clear hg hy hg' y31 y37 ho31 hc37 hc35 hfl hfc ho6 hg6 hn6 hb3 hb6 ho35 hrow hrows hc8
      go_wp2
      go_ret
      exact FIN.out
end Go.Proofs.Yteaibgnelnblnaa
end
section
namespace Go.Proofs.Yteaibgnelnblnaa
open Go.RowKit Me Tx Ed Mg

theorem rowM_same {x : EdD} {r : RowR} {l : List RowR} (h : r.src = x.src) : rowM (addR x (r :: l)) = rowM l ++ [(r.src, arcM (addA x r.arcs))] := by
  rw [addR, if_pos h, rowM_cons]
theorem arcM_same {x : EdD} {a : ArcR} {A : List ArcR} (h : a.dst = x.dst) : arcM (addA x (a :: A)) = arcM A ++ [(⟨a.dst, a.wgt + x.wgt⟩ : ArcD)] := by
  rw [addA, if_pos h, arcM_cons]
theorem arcM_new {x : EdD} {a : ArcR} {A : List ArcR} (h : a.dst ≠ x.dst) : arcM (addA x (a :: A)) = arcM (a :: A) ++ [(⟨x.dst, x.wgt⟩ : ArcD)] := by
  rw [addA, if_neg h, arcM_cons (⟨x.dst, x.wgt⟩ : ArcR)]
/-- What is known of each slot where the last arc is looked at. -/
def mvG (H g m m2 d7 t dst : Nat) (q : Bool) : Gw.Fact := fun k v _ =>
  match k with
  | 7 | 49 | 50 => v = .slice (some ⟨g, 0, none⟩) m d7
  | 3 => v = .pointer (some ⟨H, 0, none⟩)
  | 51 => v = .int .i64 (m : Int)
  | 52 => v = .int .i64 (m2 : Int)
  | 53 | 54 => v = .pointer (some ⟨g, m2 * 2, none⟩)
  | 55 => v = .int .u32 (t : Int)
  | 56 => v = .pointer (some ⟨H, 1, none⟩)
  | 57 => v = .int .u32 (dst : Int)
  | 58 => v = .bool q
  | _ => True
/-- What is known of each slot where the last arc is given more. -/
def mvH (H g m m2 d7 t wgt u : Nat) : Gw.Fact := fun k v _ =>
  match k with
  | 7 | 59 | 60 | 63 | 64 => v = .slice (some ⟨g, 0, none⟩) m d7
  | 3 => v = .pointer (some ⟨H, 0, none⟩)
  | 61 | 65 => v = .int .i64 (m : Int)
  | 62 | 66 => v = .int .i64 (m2 : Int)
  | 67 | 73 => v = .pointer (some ⟨g, m2 * 2, none⟩)
  | 68 | 74 => v = .pointer (some ⟨g, m2 * 2 + 1, none⟩)
  | 69 => v = .int .u32 (t : Int)
  | 70 => v = .pointer (some ⟨H, 2, none⟩)
  | 71 => v = .int .u32 (wgt : Int)
  | 72 => v = .int .u32 (u : Int)
  | _ => True
set_option maxRecDepth 100000 in
set_option maxHeartbeats 4000000 in
theorem mwith_same (L : Option Addr) (n c : Nat) (r : RowR) (l0 : List RowR) (a0 : ArcR) (A0 : List ArcR) (hra : r.arcs = a0 :: A0) (x : EdD) (hx : FitE x) (w : World) (hl : (rowM (r :: l0)).length = n) (hn : n ≤ 100000) (hcap : n ≤ c) (hm : r.arcs.length ≤ 100000) (hov : a0.wgt + x.wgt < 4294967296) {lo : Nat} (hlo : lo ≤ w.heap.size) (h : RowsAt w lo w.heap.size L (rowM (r :: l0))) (hsame : r.src = x.src) :
    Calls Try.prog 54 #[.slice L n c, Ed.agg x] w (MwPost w lo (addR x (r :: l0))) := by
  obtain ⟨src, dst, wgt⟩ := x
  dsimp only at hsame
  obtain ⟨H, hH⟩ : ∃ H, H = w.heap.size := ⟨_, rfl⟩
  obtain ⟨w0, hw0⟩ : ∃ w0, w0 = w.alloc (.cells #[.int .u32 (src : Int), .int .u32 (dst : Int), .int .u32 (wgt : Int)] 58) := ⟨_, rfl⟩
  obtain ⟨w1, hw1⟩ : ∃ w1, w1 = w0.alloc (.cells #[.int .u32 (dst : Int), .int .u32 (wgt : Int)] 55) := ⟨_, rfl⟩
  have hb0 : Below w.heap.size w w0 := by rw [hw0]; exact (Below.refl _ _).alloc (Nat.le_refl _) _
  have hs0 : w0.heap.size = H + 1 := by rw [hw0, hH]; simp
  have hb01 : Below w0.heap.size w0 w1 := by rw [hw1]; exact (Below.refl _ _).alloc (Nat.le_refl _) _
  have BA := Lib.hid (show Blk w0 H [.int .u32 (src : Int), .int .u32 (dst : Int), .int .u32 (wgt : Int)] by rw [hw0, hH]; exact Blk.new w [.int .u32 (src : Int), .int .u32 (dst : Int), .int .u32 (wgt : Int)] _)
  have BB := Lib.hid (show Blk w1 (H + 1) [.int .u32 (dst : Int), .int .u32 (wgt : Int)] by rw [hw1, ← hs0]; exact Blk.new w0 [.int .u32 (dst : Int), .int .u32 (wgt : Int)] _)
  have BA1 := Lib.hid (BA.out.past hb01)
  have hb1 : Below w.heap.size w w1 := hb0.trans (hb01.mono hb0.size)
  obtain ⟨vs, v1, v2, v3⟩ := h.ex
  have c0 : w0.cell? ⟨H, 0, none⟩ = some (.int .u32 (src : Int)) := BA.out.cell rfl
  have c1 : w0.cell? ⟨H, 1, none⟩ = some (.int .u32 (dst : Int)) := BA.out.cell rfl
  have c2 : w0.cell? ⟨H, 2, none⟩ = some (.int .u32 (wgt : Int)) := BA.out.cell rfl
  have hl0 : (rowM l0).length + 1 = n := by rw [rowM_cons, List.length_append] at hl; simpa using hl
  obtain ⟨m1, hm1⟩ : ∃ m, m = (rowM l0).length := ⟨_, rfl⟩
  have hnm : n = m1 + 1 := by omega
  have hget : (rowM (r :: l0))[m1]? = some (r.src, arcM r.arcs) := by rw [rowM_cons, hm1, List.getElem?_append_right (Nat.le_refl _), Nat.sub_self]; rfl
  obtain ⟨a, eL, hab, hcc⟩ := v1 (by rw [rvCells_length]; omega)
  subst eL
  have hp : vs[m1]? = some vs[m1] := List.getElem?_eq_getElem (by omega)
  have hat := v3 m1 _ _ hp hget
  obtain ⟨g1, g2⟩ := rvCells_get hp
  have k1 := hcc _ _ g1
  have k2 := hcc _ _ g2
  rw [hat.src, hsame] at k1
  have hadd := add_field a (m1 * 2) 0
  rw [Nat.zero_add] at hadd
  rw [hadd] at k2
  obtain ⟨A1, hA1⟩ : ∃ A, A = vs[m1].2.1 := ⟨_, rfl⟩
  obtain ⟨m, hmE⟩ : ∃ m, m = vs[m1].2.2.1 := ⟨_, rfl⟩
  obtain ⟨d1, hd1⟩ : ∃ d, d = vs[m1].2.2.2 := ⟨_, rfl⟩
  rw [← hA1, ← hmE, ← hd1] at k2
  have harc := hat.arcs
  have hlen := hat.len
  rw [← hA1] at harc
  rw [← hmE] at hlen
  dsimp only at harc hlen
  have hm0 : 0 < m := by rw [← hlen, arcM_length, hra]; simp
  have hm5 : m ≤ 100000 := by rw [← hlen, arcM_length]; exact hm
  obtain ⟨m2, hm2⟩ : ∃ q, q = m - 1 := ⟨_, rfl⟩
  have HCE := Lib.hid (show ∀ W, Below w.heap.size w W → W.cell? (a.add (m1 * 2)) = some (.int .u32 (src : Int)) ∧ W.cell? ⟨(a.add (m1 * 2)).block, (a.add (m1 * 2)).off + 1, none⟩ = some (.slice A1 m d1) from fun W hW => ⟨(hW.cell (by rw [block_add]; exact hab)).trans k1, (hW.cell (p := ⟨(a.add (m1 * 2)).block, (a.add (m1 * 2)).off + 1, none⟩) (by show (a.add (m1 * 2)).block < _; rw [block_add]; exact hab)).trans k2⟩)
  have HV := Lib.hid (And.intro v1 (And.intro v2 v3))
  have HARC := Lib.hid (And.intro harc hlen)
  have HRA := Lib.hid (And.intro hra hov)
  have HSAME := Lib.hid hsame
  have HL := Lib.hid (And.intro hm1 hl)
  have HX := Lib.hid hx
  have HW0 := Lib.hid hw0
  have HW1 := Lib.hid hw1
  have HHE := Lib.hid hH
  have HB1 := Lib.hid hb1
  have HS1 := Lib.hid (show w1.heap.size = H + 2 by rw [hw1]; simp [hs0])
  have hH0 : H < w0.heap.size := BA.out.lt
  have e1 : (n : Int) - 1 = (m1 : Int) := by omega
  have e2 : (m1 : Int) < (n : Int) := by omega
  have e7 : (m1 : Int) ≤ (c : Int) := by omega
  have e8 : (0 : Int) ≤ (m1 : Int) := by omega
  have e3 : m1 < n := by omega
  have e4 : IntKind.i64.wrap (m1 : Int) = (m1 : Int) := IntWalk.i64_in _ (by omega)
  have q0 : ((n : Int) == 0) = false := by simp; omega
  have q1 : ((src : Int) != (src : Int)) = false := by simp
  have f1 : (m : Int) - 1 = (m2 : Int) := by omega
  have f2 : (m2 : Int) < (m : Int) := by omega
  have f3 : m2 < m := by omega
  have f4 : IntKind.i64.wrap (m2 : Int) = (m2 : Int) := IntWalk.i64_in _ (by omega)
  have HNM := Lib.hid hnm
  have HM2 := Lib.hid hm2
  clear h hl hx v1 v2 v3 hw0 hw1 hH hb0 hb01 hb1 hra hov hsame hat harc hlen k1 k2 g1 g2 hp hget hcc hadd hA1 hmE hd1 hl0 hm1 hm hnm hm2 hab
  go_enter Try.func54, Try.ntmps54
  go_upto_region 1 with fail
  rw [← HW0.out, ← HHE.out]
  go_upto_region 2 with fail
  rw [← HW1.out]
  refine Gw.wp_region_grow (mwG (m1 + 1) c H src src false false (some a) a) [14, 15, 16, 17, 18, 19, 20, 21, 22, 23, 24, 25, 26, 27, 28] [([0], none), ([14], none), ([15], none), ([16], none), ([0, 17], some (17, false)), ([0, 17], some (17, false)), ([19, 17], some (17, false)), ([20, 17], some (17, false)), ([18, 21, 17], some (17, false)), ([22, 17], some (17, false)), ([23, 17], some (17, false)), ([3, 17], some (17, false)), ([25, 17], some (17, false)), ([24, 26, 17], some (17, false)), ([17, 27], none)] 93 (by kernel_rfl) (by kernel_rfl) rfl ?h0 ?hreq ?hend
  case h0 =>
    intro t W hnd _
    unfold mwG
    rw [← HNM.out]
    split <;> first | rfl | trivial | exact absurd (by simp) hnd
  case hreq =>
    refine ⟨?_, ?_, ?_, ?_, ?_, ?_, ?_, ?_, ?_, ?_, ?_, ?_, ?_, ?_, ?_, trivial⟩
    all_goals
      intro ac W hg hk
      have hg' : Below w1.heap.size w1 W := hg
      have z0 := (BA1.out.past hg').cell (i := 0) rfl
      obtain ⟨z1, -⟩ := HCE.out W (HB1.out.trans (hg'.mono HB1.out.size))
      simp only [Gw.Knows, mwG, ← HNM.out, Nat.add_sub_cancel] at hk
      have e5 : n - 1 = m1 := by omega
      simp [go_sem, Gw.OpReq, Gw.Ok, Gw.Post, Gw.Holds, mwG, Gw.Grows.refl, hk, ← HNM.out, e5, q0, q1, z0, z1, e1, e2, e3, e4]
      done
  case hend =>
    intro y w2 hg hy
    have y28 : y 28 = .bool false := by have := (hy 28 (by simp)).now; simpa [mwG] using this
    have hg' : Below w1.heap.size w1 w2 := hg
    simp only [Gw.putAll, Act.put, List.setIfInBounds_toArray, List.set_cons_zero, List.set_cons_succ]
    rw [y28]
    have HB2 := Lib.hid (HB1.out.trans (hg'.mono HB1.out.size))
    have BA2 := Lib.hid (BA1.out.past hg')
    have BB2 := Lib.hid (BB.out.past hg')
    have HS2 := Lib.hid (show H + 2 ≤ w2.heap.size by have := hg'.size; have := HS1.out; omega)
    obtain ⟨z1, z2⟩ := HCE.out w2 HB2.out
    clear hg hy hg' y28 q0 q1
    go_upto_region 5 with fail
    obtain ⟨w3, hw3⟩ : ∃ w3, w3 = w2.alloc (.cells #[.int .u32 (src : Int), .slice A1 m d1] 51) := ⟨_, rfl⟩
    obtain ⟨B6, hB6⟩ : ∃ b, b = w2.heap.size := ⟨_, rfl⟩
    have hb23 : Below w2.heap.size w2 w3 := by rw [hw3]; exact (Below.refl _ _).alloc (Nat.le_refl _) _
    have BL := Lib.hid (show Blk w3 B6 [.int .u32 (src : Int), .slice A1 m d1] by rw [hw3, hB6]; exact Blk.new w2 [.int .u32 (src : Int), .slice A1 m d1] _)
    rw [← hw3, ← hB6]
    have s1 : w3.cell? ⟨B6, 1, none⟩ = some (.slice A1 m d1) := BL.out.cell rfl
    have hB6l : B6 < w3.heap.size := BL.out.lt
    have HB3 := Lib.hid (HB2.out.trans (hb23.mono HB2.out.size))
    have BA3 := Lib.hid (BA2.out.past hb23)
    have BB3 := Lib.hid (BB2.out.past hb23)
    have hs3 : H + 2 ≤ w3.heap.size := by have := hb23.size; have := HS2.out; omega
    obtain ⟨i0, hi0, hz0, hz1, hz2⟩ := info_parts arc_info
    obtain ⟨b1, hA1, hb1l, hb1c⟩ := HARC.out.1.1 (by rw [arcCells_length, HARC.out.2]; omega)
    subst hA1
    have HOE := Lib.hid (show (w3.alloc (.cells #[] 55)).ownsRow (H + 2) 55 2 (.slice (some ⟨w3.heap.size, 0, none⟩) 0 0) 0 [] from World.ownsRow_lit (base := H + 2) (size := 2) w3 #[] 0 (by omega) (by unfold maxLen; omega) rfl)
    have HSRC := Lib.hid (show ∀ j u, (arcCells (arcM r.arcs))[j]? = some u → (w3.alloc (.cells #[] 55)).cell? (b1.add j) = some u from fun j u hu => ((HB3.out.alloc HB3.out.size (.cells #[] 55)).cell (by rw [block_add]; exact hb1l)).trans (hb1c j u hu))
    have HLEN := Lib.hid (show (arcCells (arcM r.arcs)).length = m * 2 by rw [arcCells_length, HARC.out.2])
    clear hw3 hB6 hb23 hb1l hb1c BA2 BB2 BA1 BB z1 z2 c0 c1 c2
    go_wp2_with (at_builtin
                 go_loud (refine wpList_append_own_at _ rfl (.tmp 45) (.tmp 47) 36 rfl (H + 2) 55 i0 _ 2 8 Try.underlying36 hi0 hz0 hz1 hz2 rfl (by decide) (.slice (some ⟨w3.heap.size, 0, none⟩) 0 0) 0 [] rfl HOE.out b1 m d1 (arcCells (arcM r.arcs)) rfl HLEN.out HSRC.out arcCells_one (by unfold maxLen; omega) (by omega) (by rw [World.size_alloc]; omega) ?_)
                 intro v7 w7 ho7 hg7 hnn7 hn7
                 refine Classical.byContradiction fun hcontra => ?_)
    rw [Nat.zero_add, List.nil_append] at ho7
    obtain ⟨g, d7, hv7, -⟩ := ho7.form hm0
    subst hv7
    have HB7 := Lib.hid (show Below w.heap.size w w7 from (HB3.out.alloc HB3.out.size (.cells #[] 55)).grown hg7 (by rw [World.size_alloc]; have := HB3.out.size; omega) (fun k e => by cases e; exact HB3.out.size))
    have hb37 : Below w3.heap.size w3 w7 := ((Below.refl _ w3).alloc (Nat.le_refl _) (.cells #[] 55)).grown hg7 (by rw [World.size_alloc]; omega) (fun k e => by cases e; exact Nat.le_refl _)
    have BA7 := Lib.hid (BA3.out.past hb37)
    have BB7 := Lib.hid (BB3.out.past hb37)
    have HO7 := Lib.hid ho7
    have HS7 := Lib.hid (show H + 2 ≤ w7.heap.size by have := hb37.size; omega)
    obtain ⟨t, ht⟩ : ∃ t, t = a0.dst := ⟨_, rfl⟩
    obtain ⟨t2, ht2⟩ : ∃ t, t = a0.wgt := ⟨_, rfl⟩
    have hlast : (arcM r.arcs)[m2]? = some (⟨t, t2⟩ : ArcD) := by
      have h0 : (arcM r.arcs).length = m := HARC.out.2
      rw [HRA.out.1, arcM_cons] at h0 ⊢
      rw [List.length_append] at h0
      have h1 : m2 = (arcM A0).length := by have := HM2.out; simp at h0; omega
      rw [h1, List.getElem?_append_right (Nat.le_refl _), Nat.sub_self, ht, ht2]
      rfl
    obtain ⟨h1, h2⟩ := arcCells_get hlast
    have HC7 := Lib.hid (show ∀ W, Below w7.heap.size w7 W → W.cell? ⟨g, m2 * 2, none⟩ = some (.int .u32 (t : Int)) ∧ W.cell? ⟨g, m2 * 2 + 1, none⟩ = some (.int .u32 (t2 : Int)) ∧ W.cell? ⟨H, 1, none⟩ = some (.int .u32 (dst : Int)) ∧ W.cell? ⟨H, 2, none⟩ = some (.int .u32 (wgt : Int)) from fun W hW => by
      have ho := own_below' HO7.out hW
      refine ⟨?_, ?_, (BA7.out.past hW).cell rfl, (BA7.out.past hW).cell rfl⟩
      · rw [ho.cellAt _ (by omega)]; exact h1
      · rw [ho.cellAt _ (by omega)]; exact h2)
    have HT := Lib.hid (And.intro ht ht2)
    clear ho7 hg7 hnn7 hn7 hb37 hlast h1 h2 ht ht2 HOE HSRC HLEN s1 BA3 BB3 BL
    apply hcontra
    clear hcontra
    go_upto_region 6 with fail
    by_cases hq : t = dst
    · have q2 : ((t : Int) == (dst : Int)) = true := by rw [hq]; simp
      refine Gw.wp_region_grow (mvG H g m m2 d7 t dst true) [49, 50, 51, 52, 53, 54, 55, 56, 57, 58] [([7], none), ([7], none), ([50], none), ([51], none), ([49, 52], none), ([53], none), ([54], none), ([3], none), ([56], none), ([55, 57], none)] 93 (by kernel_rfl) (by kernel_rfl) rfl ?h0 ?hreq ?hend
      case h0 =>
        intro t W hnd _
        unfold mvG
        split <;> first | rfl | trivial | exact absurd (by simp) hnd
      case hreq =>
        refine ⟨?_, ?_, ?_, ?_, ?_, ?_, ?_, ?_, ?_, ?_, trivial⟩
        all_goals
          intro ac W hg hk
          obtain ⟨z0, z1, z2, z3⟩ := HC7.out W hg
          simp only [Gw.Knows, mvG] at hk
          simp [go_sem, Gw.OpReq, Gw.Ok, Gw.Post, Gw.Holds, mvG, Gw.Grows.refl, hk, z0, z2, f1, f2, f3, f4, q2]
          done
      case hend =>
        intro y w8 hg hy
        have hg' : Below w7.heap.size w7 w8 := hg
        have y58 : y 58 = .bool true := (hy 58 (by simp)).now
        simp only [Gw.putAll, Act.put, List.setIfInBounds_toArray, List.set_cons_zero, List.set_cons_succ]
        rw [y58]
        clear hy y58 hg q2
        go_upto_region 7 with fail
        obtain ⟨uu, huu⟩ : ∃ u, u = t2 + wgt := ⟨_, rfl⟩
        have hu32 : t2 + wgt < 4294967296 := by rw [HT.out.2]; exact HRA.out.2
        have q3 : IntKind.u32.wrap ((t2 : Int) + (wgt : Int)) = (uu : Int) := by rw [IntKind.wrap_u32]; omega
        refine wp_region_tlT 16 (mvH H g m m2 d7 t2 wgt uu) [59, 60, 61, 62, 63, 64, 65, 66, 67, 68, 69, 70, 71, 72, 73, 74] [([7], none), ([7], none), ([60], none), ([61], none), ([7], none), ([7], none), ([64], none), ([65], none), ([63, 66], none), ([67], none), ([68], none), ([3], none), ([70], none), ([69, 71], none), ([59, 62], none), ([73], none)] 93 (by kernel_rfl) (by kernel_rfl) rfl ?h0 ?hreq rfl ?hend
        case h0 =>
          intro t W hnd _
          unfold mvH
          split <;> first | rfl | trivial | exact absurd (by simp) hnd
        case hreq =>
          refine ⟨?_, ?_, ?_, ?_, ?_, ?_, ?_, ?_, ?_, ?_, ?_, ?_, ?_, ?_, ?_, ?_, trivial⟩
          all_goals
            intro ac W hgg hk
            obtain ⟨z0, z1, z2, z3⟩ := HC7.out W (hg'.trans (Below.mono (show Below w8.heap.size w8 W from hgg) hg'.size))
            simp only [Gw.Knows, mvH] at hk
            simp [go_sem, Gw.OpReq, Gw.Ok, Gw.Post, Gw.Holds, mvH, Gw.Grows.refl, hk, z0, z1, z3, f1, f2, f3, f4, q3]
            done
        case hend =>
          intro y w9 hgg hy
          have hg9 : Below w7.heap.size w7 w9 := hg'.trans (Below.mono (show Below w8.heap.size w8 w9 from hgg) hg'.size)
          have y72 : y 72 = .int .u32 (uu : Int) := (hy 72 (by simp)).now
          have y74 : y 74 = .pointer (some ⟨g, m2 * 2 + 1, none⟩) := (hy 74 (by simp)).now
          simp only [Gw.putAll, Act.put, List.setIfInBounds_toArray, List.set_cons_zero, List.set_cons_succ]
          rw [y72, y74]
          have ho9 := own_below' HO7.out hg9
          have x9 : w9.cell? ⟨g, m2 * 2 + 1, none⟩ = some (.int .u32 (t2 : Int)) := (HC7.out w9 hg9).2.1
          have x9f : w9.frozen? ⟨g, m2 * 2 + 1, none⟩ = false := ho9.frozenAt _
          obtain ⟨ww, hww⟩ : ∃ ww, ww = w9.setCell ⟨g, m2 * 2 + 1, none⟩ (.int .u32 (uu : Int)) := ⟨_, rfl⟩
          refine tlk_skip (w' := ww) (by rw [hww]; simp [execOp, go_sem, x9, x9f]) ?_
          refine tl_nil ?_
          obtain ⟨LL, hLL⟩ : ∃ LL, LL = arcM (addA ⟨src, dst, wgt⟩ r.arcs) := ⟨_, rfl⟩
          have hLL2 : LL = arcM A0 ++ [(⟨t, uu⟩ : ArcD)] := by rw [hLL, HRA.out.1, arcM_same (by rw [← HT.out.1]; exact hq), HT.out.1, huu, HT.out.2]
          have hm2l : (arcM A0).length = m2 := by
            have h0 : (arcM r.arcs).length = m := HARC.out.2
            rw [HRA.out.1, arcM_cons, List.length_append] at h0
            have := HM2.out
            simp at h0
            omega
          have harx : (arcCells (arcM r.arcs)).set (m2 * 2 + 1) (.int .u32 (uu : Int)) = arcCells LL := by
            rw [hLL2, HRA.out.1, arcM_cons, arcCells_append, arcCells_append, List.set_append_right _ _ (by rw [arcCells_length, hm2l]; omega), arcCells_length, hm2l, show m2 * 2 + 1 - m2 * 2 = 1 by omega, HT.out.1]
            rfl
          have HAR := Lib.hid (show ww.ownsRow H 55 2 (.slice (some ⟨g, 0, none⟩) m d7) m (arcCells LL) from by
            rw [hww, ← harx]
            exact own_more (ho9.stored _ _).1 (by omega))
          have ho9w : Out (fun k => k = g) w9 ww := by rw [hww]; exact (Out.refl (fun k => k = g) w9).setCell (p := ⟨g, m2 * 2 + 1, none⟩) (.inl rfl) _
          have hgH : H + 2 ≤ g := (ho9.lt g rfl).1
          have hgne : H ≠ g := by omega
          have HBW := Lib.hid (show Below w.heap.size w ww from (HB7.out.trans (hg9.mono HB7.out.size)).trans (ho9w.below (fun k _ e => by rw [e, ← HHE.out]; omega) (by have := HB7.out.size; have := hg9.size; omega)))
          have BAW := Lib.hid (show Blk ww H [.int .u32 (src : Int), .int .u32 (dst : Int), .int .u32 (wgt : Int)] from (BA7.out.past hg9).out ho9w hgne)
          have HSZ := Lib.hid (show H ≤ ww.heap.size by have := ho9w.size; have := hg9.size; have := HS7.out; omega)
          have HLL := Lib.hid hLL.symm
          have HLW := Lib.hid (show LL.length = m by rw [hLL2, List.length_append, hm2l]; have := HM2.out; simp; omega)
          have HFI := Lib.hid (show ∀ p ∈ LL, p.fits from fun p hp => by
            rw [hLL2] at hp
            rcases List.mem_append.1 hp with hp | hp
            · exact HARC.out.1.2 p (by rw [HRA.out.1, arcM_cons]; exact List.mem_append_left _ hp)
            · rw [List.mem_singleton.1 hp]
              exact ⟨by show t < _; rw [hq]; exact HX.out.2.1, by show uu < _; omega⟩)
          clear hy y72 y74 hgg hg9 ho9 x9 x9f hww hLL hLL2 hm2l harx ho9w hgH hgne q3 hu32 huu hg'
          have OE := Lib.hid (show (ww.alloc (.cells #[] 51)).ownsRow H 51 2 (.slice (some ⟨ww.heap.size, 0, none⟩) 0 0) 0 [] from World.ownsRow_lit (base := H) (size := 2) ww #[] 0 (by have := HSZ.out; omega) (by unfold maxLen; omega) rfl)
          obtain ⟨j0, hj0, hy0, hy1, hy2⟩ := info_parts row_info
          have HNL := Lib.hid (show (rvCells (vs.take m1)).length = m1 * 2 by rw [rvCells_length, List.length_take, HV.out.2.1, HL.out.2]; omega)
          have HNS := Lib.hid (show 0 < (rvCells (vs.take m1)).length → ∃ a', some a = some a' ∧ ∀ j u, (rvCells (vs.take m1))[j]? = some u → (ww.alloc (.cells #[] 51)).cell? (a'.add j) = some u from fun h0 => by
            have hbw : Below w.heap.size w (ww.alloc (.cells #[] 51)) := HBW.out.alloc HBW.out.size _
            obtain ⟨a', ea, hal, hac⟩ := HV.out.1 (by rw [rvCells_length, HV.out.2.1, HL.out.2]; omega)
            refine ⟨a', ea, fun j u hu => (hbw.cell (by rw [block_add]; exact hal)).trans (hac j u ?_)⟩
            rw [← rvCells_take, List.getElem?_take] at hu
            split at hu
            · exact hu
            · cases hu)
          clear HC7 HO7 BB7
          go_wp2_with (at_builtin
                       go_loud (refine wpList_append_row rfl (.tmp 79) (.tmp 84) 29 rfl H 51 j0 _ 2 32 Try.underlying29 hj0 hy0 hy1 hy2 rfl (by decide) (.slice (some ⟨ww.heap.size, 0, none⟩) 0 0) 0 [] rfl OE.out (some a) m1 c (rvCells (vs.take m1)) rfl HNL.out HNS.out rvCells_one (by unfold maxLen; omega) (by omega) (by rw [World.size_alloc]; have := HSZ.out; omega) ?_)
                       intro va wa hoa hga hna
                       refine Classical.byContradiction fun hcontra => ?_)
          rw [Nat.zero_add, List.nil_append] at hoa
          try rw [Nat.zero_add] at hcontra
          obtain ⟨Aa, da, hva, -⟩ := own_slice' hoa
          subst hva
          have HBA := Lib.hid (show Below w.heap.size w wa from (HBW.out.alloc HBW.out.size (.cells #[] 51)).grown hga (by rw [World.size_alloc]; have := HBW.out.size; omega) (fun k e => by cases e; exact HBW.out.size))
          have hba : Below ww.heap.size ww wa := ((Below.refl _ ww).alloc (Nat.le_refl _) (.cells #[] 51)).grown hga (by rw [World.size_alloc]; omega) (fun k e => by cases e; exact Nat.le_refl _)
          have HARW := Lib.hid (own_below' HAR.out hba)
          have HOA := Lib.hid hoa
          have hsa : H ≤ wa.heap.size := by have := hba.size; have := HSZ.out; omega
          have BAa := Lib.hid (BAW.out.past hba)
          have z0 : wa.cell? ⟨H, 0, none⟩ = some (.int .u32 (src : Int)) := BAa.out.cell rfl
          have HLT := Lib.hid (BAa.out.lt)
          clear hoa hga hna hba OE HNL HNS HAR BAW HBW
          apply hcontra
          clear hcontra
          go_wp2_with (at_builtin
                       go_loud (refine wpList_append_own_at _ rfl (.tmp 86) (.tmp 91) 29 rfl H 51 j0 _ 2 32 Try.underlying29 hj0 hy0 hy1 hy2 rfl (by decide) (.slice Aa m1 da) m1 _ rfl (HOA.out.alloc _) ⟨wa.heap.size, 0, none⟩ 1 1 [.int .u32 (src : Int), .slice (some ⟨g, 0, none⟩) m d7] rfl rfl (two_lit rfl) (fun u hu => by simp at hu; rcases hu with rfl | rfl <;> rfl) (by unfold maxLen; omega) (by omega) (by rw [World.size_alloc]; omega) ?_)
                       intro vz wz hoz hgz hnnz hnz
                       refine Classical.byContradiction fun hcontra => ?_)
          obtain ⟨Az, dz, hvz, hcz⟩ := own_slice' hoz
          subst hvz
          have hbz : Below w.heap.size w wz := (HBA.out.alloc HBA.out.size (.cells #[.int .u32 (src : Int), .slice (some ⟨g, 0, none⟩) m d7] 51)).grown hgz (by rw [World.size_alloc]; have := HBA.out.size; omega) (fun k e => by rw [← HHE.out]; exact (HOA.out.lt k e).1)
          have harz : wz.ownsRow H 55 2 (.slice (some ⟨g, 0, none⟩) m d7) m (arcCells LL) := own_out HARW.out (((Out.refl (fun k => (Value.slice Aa m1 da).ownBlock = some k) wa).alloc (.cells #[.int .u32 (src : Int), .slice (some ⟨g, 0, none⟩) m d7] 51)).grown hgz (fun k e => .inl e)) (fun k k1 k2 => own_apart HOA.out HARW.out (by decide) k2 k1)
          have hrow : wz.ownsRow H 51 2 (.slice Az (m1 + 1) dz) (m1 + 1) (rvCells (vs.take m1 ++ [(src, some ⟨g, 0, none⟩, m, d7)])) := by
            rw [rvCells_append]
            exact hoz
          have hrows : RowsAt wz lo wz.heap.size Az (rowM (addR ⟨src, dst, wgt⟩ (r :: l0))) := by
            rw [rowM_same HSAME.out, HLL.out, HSAME.out]
            have htl : (vs.take m1).length = (rowM l0).length := by rw [List.length_take, HV.out.2.1, HL.out.2, ← HL.out.1]; omega
            refine rows_own hrow (by have := HHE.out; omega) (by rw [List.length_append, List.length_append, htl]; rfl) (rwat_snoc htl (fun i p s hp hs => ?_) ⟨(fun b hb => by have := (harz.lt b.block (by rw [show some _ = some b from hb]; rfl)).1; have := HHE.out; omega), rfl, HX.out.1, HLW.out, ⟨(own_bounds harz).1, (own_bounds harz).2⟩, Cs.of_own harz, HFI.out⟩)
            have hi : i < (rowM l0).length := (List.getElem?_eq_some_iff.1 hs).1
            have hp' : vs[i]? = some p := by
              rw [List.getElem?_take] at hp
              split at hp
              · exact hp
              · cases hp
            have hs' : (rowM (r :: l0))[i]? = some s := by rw [rowM_cons, List.getElem?_append_left hi]; exact hs
            exact ((HV.out.2.2 i p s hp' hs').below hbz).more hbz.size
          have FIN := Lib.hid (show MwPost w lo (addR ⟨src, dst, wgt⟩ (r :: l0)) (.returned (.slice Az (m1 + 1) dz)) wz from ⟨Az, m1 + 1, dz, rfl, by rw [rowM_same HSAME.out, List.length_append, ← HL.out.1]; rfl, hcz, (own_bounds hrow).2, hrows, hbz⟩)
          clear hoz hgz hnnz hnz hbz harz hrow hrows hcz
          apply hcontra
          clear hcontra
          go_wp2
          go_ret
          exact FIN.out
    · have q2 : ((t : Int) == (dst : Int)) = false := by simp; omega
      refine Gw.wp_region_grow (mvG H g m m2 d7 t dst false) [49, 50, 51, 52, 53, 54, 55, 56, 57, 58] [([7], none), ([7], none), ([50], none), ([51], none), ([49, 52], none), ([53], none), ([54], none), ([3], none), ([56], none), ([55, 57], none)] 93 (by kernel_rfl) (by kernel_rfl) rfl ?h0 ?hreq ?hend
      case h0 =>
        intro t W hnd _
        unfold mvG
        split <;> first | rfl | trivial | exact absurd (by simp) hnd
      case hreq =>
        refine ⟨?_, ?_, ?_, ?_, ?_, ?_, ?_, ?_, ?_, ?_, trivial⟩
        all_goals
          intro ac W hg hk
          obtain ⟨z0, z1, z2, z3⟩ := HC7.out W hg
          simp only [Gw.Knows, mvG] at hk
          simp [go_sem, Gw.OpReq, Gw.Ok, Gw.Post, Gw.Holds, mvG, Gw.Grows.refl, hk, z0, z2, f1, f2, f3, f4, q2]
          done
      case hend =>
        intro y w8 hg hy
        have hg' : Below w7.heap.size w7 w8 := hg
        have y58 : y 58 = .bool false := (hy 58 (by simp)).now
        simp only [Gw.putAll, Act.put, List.setIfInBounds_toArray, List.set_cons_zero, List.set_cons_succ]
        rw [y58]
        have BB8 := Lib.hid (BB7.out.past hg')
        have BA8 := Lib.hid (BA7.out.past hg')
        have HO8 := Lib.hid (own_below' HO7.out hg')
        have HB8 := Lib.hid (HB7.out.trans (hg'.mono HB7.out.size))
        have hs8 : H + 2 ≤ w8.heap.size := by have := hg'.size; have := HS7.out; omega
        have u0 : w8.cell? ⟨H + 1, 0, none⟩ = some (.int .u32 (dst : Int)) := BB8.out.cell rfl
        have u1 : w8.cell? ⟨H + 1, 1, none⟩ = some (.int .u32 (wgt : Int)) := BB8.out.cell rfl
        have hH1 : H + 1 < w8.heap.size := by omega
        clear hy y58 hg q2 hg'
        go_wp2_with (at_builtin
                     go_loud (refine wpList_append_own_at _ rfl (.tmp 75) (.tmp 77) 36 rfl (H + 2) 55 i0 _ 2 8 Try.underlying36 hi0 hz0 hz1 hz2 rfl (by decide) (.slice (some ⟨g, 0, none⟩) m d7) m _ rfl (HO8.out.alloc _) ⟨w8.heap.size, 0, none⟩ 1 1 [.int .u32 (dst : Int), .int .u32 (wgt : Int)] rfl rfl (two_lit rfl) (fun u hu => by simp at hu; rcases hu with rfl | rfl <;> rfl) (by unfold maxLen; omega) (by omega) (by rw [World.size_alloc]; omega) ?_)
                     intro v9 ww ho9 hg9 hnn9 hn9
                     refine Classical.byContradiction fun hcontra => ?_)
        obtain ⟨g9, d9, hv9, -⟩ := ho9.form (Nat.succ_pos m)
        subst hv9
        obtain ⟨LL, hLL⟩ : ∃ LL, LL = arcM (addA ⟨src, dst, wgt⟩ r.arcs) := ⟨_, rfl⟩
        have hLL2 : LL = arcM r.arcs ++ [(⟨dst, wgt⟩ : ArcD)] := by rw [hLL, HRA.out.1, arcM_new (by rw [← HT.out.1]; exact hq)]
        have hgl : H + 2 ≤ g := (HO8.out.lt g rfl).1
        have HAR := Lib.hid (show ww.ownsRow H 55 2 (.slice (some ⟨g9, 0, none⟩) (m + 1) d9) (m + 1) (arcCells LL) from by
          rw [hLL2, arcCells_append]
          exact own_more ho9 (by omega))
        have HBW := Lib.hid (show Below w.heap.size w ww from (HB8.out.alloc HB8.out.size (.cells #[.int .u32 (dst : Int), .int .u32 (wgt : Int)] 55)).grown hg9 (by rw [World.size_alloc]; have := HB8.out.size; omega) (fun k e => by have h9 := (HO8.out.lt k e).1; have := HHE.out; omega))
        have BAW := Lib.hid (show Blk ww H [.int .u32 (src : Int), .int .u32 (dst : Int), .int .u32 (wgt : Int)] from (BA8.out.alloc (.cells #[.int .u32 (dst : Int), .int .u32 (wgt : Int)] 55)).grown hg9 (fun e => by have h9 := (HO8.out.lt H e).1; omega))
        have HSZ := Lib.hid (show H ≤ ww.heap.size by have := HBW.out.size; have := HHE.out; omega)
        have HLL := Lib.hid hLL.symm
        have HLW := Lib.hid (show LL.length = m + 1 by rw [hLL2, List.length_append, HARC.out.2]; rfl)
        have HFI := Lib.hid (show ∀ p ∈ LL, p.fits from fun p hp => by
          rw [hLL2] at hp
          rcases List.mem_append.1 hp with hp | hp
          · exact HARC.out.1.2 p hp
          · rw [List.mem_singleton.1 hp]
            exact ⟨HX.out.2.1, HX.out.2.2⟩)
        clear ho9 hg9 hnn9 hn9 hLL hLL2 hgl BB8 BA8 HO8 u0 u1
        apply hcontra
        clear hcontra
        have OE := Lib.hid (show (ww.alloc (.cells #[] 51)).ownsRow H 51 2 (.slice (some ⟨ww.heap.size, 0, none⟩) 0 0) 0 [] from World.ownsRow_lit (base := H) (size := 2) ww #[] 0 (by have := HSZ.out; omega) (by unfold maxLen; omega) rfl)
        obtain ⟨j0, hj0, hy0, hy1, hy2⟩ := info_parts row_info
        have HNL := Lib.hid (show (rvCells (vs.take m1)).length = m1 * 2 by rw [rvCells_length, List.length_take, HV.out.2.1, HL.out.2]; omega)
        have HNS := Lib.hid (show 0 < (rvCells (vs.take m1)).length → ∃ a', some a = some a' ∧ ∀ j u, (rvCells (vs.take m1))[j]? = some u → (ww.alloc (.cells #[] 51)).cell? (a'.add j) = some u from fun h0 => by
          have hbw : Below w.heap.size w (ww.alloc (.cells #[] 51)) := HBW.out.alloc HBW.out.size _
          obtain ⟨a', ea, hal, hac⟩ := HV.out.1 (by rw [rvCells_length, HV.out.2.1, HL.out.2]; omega)
          refine ⟨a', ea, fun j u hu => (hbw.cell (by rw [block_add]; exact hal)).trans (hac j u ?_)⟩
          rw [← rvCells_take, List.getElem?_take] at hu
          split at hu
          · exact hu
          · cases hu)
        clear HC7 HO7 BB7
        go_wp2_with (at_builtin
                     go_loud (refine wpList_append_row rfl (.tmp 79) (.tmp 84) 29 rfl H 51 j0 _ 2 32 Try.underlying29 hj0 hy0 hy1 hy2 rfl (by decide) (.slice (some ⟨ww.heap.size, 0, none⟩) 0 0) 0 [] rfl OE.out (some a) m1 c (rvCells (vs.take m1)) rfl HNL.out HNS.out rvCells_one (by unfold maxLen; omega) (by omega) (by rw [World.size_alloc]; have := HSZ.out; omega) ?_)
                     intro va wa hoa hga hna
                     refine Classical.byContradiction fun hcontra => ?_)
        rw [Nat.zero_add, List.nil_append] at hoa
        try rw [Nat.zero_add] at hcontra
        obtain ⟨Aa, da, hva, -⟩ := own_slice' hoa
        subst hva
        have HBA := Lib.hid (show Below w.heap.size w wa from (HBW.out.alloc HBW.out.size (.cells #[] 51)).grown hga (by rw [World.size_alloc]; have := HBW.out.size; omega) (fun k e => by cases e; exact HBW.out.size))
        have hba : Below ww.heap.size ww wa := ((Below.refl _ ww).alloc (Nat.le_refl _) (.cells #[] 51)).grown hga (by rw [World.size_alloc]; omega) (fun k e => by cases e; exact Nat.le_refl _)
        have HARW := Lib.hid (own_below' HAR.out hba)
        have HOA := Lib.hid hoa
        have hsa : H ≤ wa.heap.size := by have := hba.size; have := HSZ.out; omega
        have BAa := Lib.hid (BAW.out.past hba)
        have z0 : wa.cell? ⟨H, 0, none⟩ = some (.int .u32 (src : Int)) := BAa.out.cell rfl
        have HLT := Lib.hid (BAa.out.lt)
        clear hoa hga hna hba OE HNL HNS HAR BAW HBW
        apply hcontra
        clear hcontra
        go_wp2_with (at_builtin
                     go_loud (refine wpList_append_own_at _ rfl (.tmp 86) (.tmp 91) 29 rfl H 51 j0 _ 2 32 Try.underlying29 hj0 hy0 hy1 hy2 rfl (by decide) (.slice Aa m1 da) m1 _ rfl (HOA.out.alloc _) ⟨wa.heap.size, 0, none⟩ 1 1 [.int .u32 (src : Int), .slice (some ⟨g9, 0, none⟩) (m + 1) d9] rfl rfl (two_lit rfl) (fun u hu => by simp at hu; rcases hu with rfl | rfl <;> rfl) (by unfold maxLen; omega) (by omega) (by rw [World.size_alloc]; omega) ?_)
                     intro vz wz hoz hgz hnnz hnz
                     refine Classical.byContradiction fun hcontra => ?_)
        obtain ⟨Az, dz, hvz, hcz⟩ := own_slice' hoz
        subst hvz
        have hbz : Below w.heap.size w wz := (HBA.out.alloc HBA.out.size (.cells #[.int .u32 (src : Int), .slice (some ⟨g9, 0, none⟩) (m + 1) d9] 51)).grown hgz (by rw [World.size_alloc]; have := HBA.out.size; omega) (fun k e => by rw [← HHE.out]; exact (HOA.out.lt k e).1)
        have harz : wz.ownsRow H 55 2 (.slice (some ⟨g9, 0, none⟩) (m + 1) d9) (m + 1) (arcCells LL) := own_out HARW.out (((Out.refl (fun k => (Value.slice Aa m1 da).ownBlock = some k) wa).alloc (.cells #[.int .u32 (src : Int), .slice (some ⟨g9, 0, none⟩) (m + 1) d9] 51)).grown hgz (fun k e => .inl e)) (fun k k1 k2 => own_apart HOA.out HARW.out (by decide) k2 k1)
        have hrow : wz.ownsRow H 51 2 (.slice Az (m1 + 1) dz) (m1 + 1) (rvCells (vs.take m1 ++ [(src, some ⟨g9, 0, none⟩, (m + 1), d9)])) := by
          rw [rvCells_append]
          exact hoz
        have hrows : RowsAt wz lo wz.heap.size Az (rowM (addR ⟨src, dst, wgt⟩ (r :: l0))) := by
          rw [rowM_same HSAME.out, HLL.out, HSAME.out]
          have htl : (vs.take m1).length = (rowM l0).length := by rw [List.length_take, HV.out.2.1, HL.out.2, ← HL.out.1]; omega
          refine rows_own hrow (by have := HHE.out; omega) (by rw [List.length_append, List.length_append, htl]; rfl) (rwat_snoc htl (fun i p s hp hs => ?_) ⟨(fun b hb => by have := (harz.lt b.block (by rw [show some _ = some b from hb]; rfl)).1; have := HHE.out; omega), rfl, HX.out.1, HLW.out, ⟨(own_bounds harz).1, (own_bounds harz).2⟩, Cs.of_own harz, HFI.out⟩)
          have hi : i < (rowM l0).length := (List.getElem?_eq_some_iff.1 hs).1
          have hp' : vs[i]? = some p := by
            rw [List.getElem?_take] at hp
            split at hp
            · exact hp
            · cases hp
          have hs' : (rowM (r :: l0))[i]? = some s := by rw [rowM_cons, List.getElem?_append_left hi]; exact hs
          exact ((HV.out.2.2 i p s hp' hs').below hbz).more hbz.size
        have FIN := Lib.hid (show MwPost w lo (addR ⟨src, dst, wgt⟩ (r :: l0)) (.returned (.slice Az (m1 + 1) dz)) wz from ⟨Az, m1 + 1, dz, rfl, by rw [rowM_same HSAME.out, List.length_append, ← HL.out.1]; rfl, hcz, (own_bounds hrow).2, hrows, hbz⟩)
        clear hoz hgz hnnz hnz hbz harz hrow hrows hcz
        apply hcontra
        clear hcontra
        go_wp2
        go_ret
        exact FIN.out
end Go.Proofs.Yteaibgnelnblnaa
end
