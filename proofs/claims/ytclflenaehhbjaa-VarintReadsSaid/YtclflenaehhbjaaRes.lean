/- The document's reader: numbers with a sign, bytes, the end. -/
import Derived.Test.YtclflenaehhbjaaRef
namespace Go.Proofs.Ytclflenaehhbjaa
open Go.RowKit Me Va

theorem rend_any (A : Option Addr) (n c : Nat) (l : List UInt8) (x : Int) (w : World) (hl : l.length = n) :
    Calls Try.prog 23 #[.agg #[.slice A n c, .int .i64 x]] w fun e w' => e = .returned (.int .i64 (endOf l x)) ∧ Below w.heap.size w w' := by
  have HL := Lib.hid hl
  clear hl
  by_cases hx : x = 0
  · have d1 : (x == 0) = true := by rw [hx]; rfl
    by_cases hn : 0 < n
    · have hp := Lib.hid (show endOf l x = 4 by unfold endOf; rw [if_pos ⟨hx, by rw [HL.out]; exact hn⟩])
      clear hx
      go_enter Try.func23, Try.ntmps23
      go_wp2
      go_ret
      exact ⟨ret_int hp.out.symm, (Below.refl _ _).alloc (Nat.le_refl _) _⟩
    · have hp := Lib.hid (show endOf l x = x by unfold endOf; rw [if_neg (by rw [HL.out]; omega)])
      clear hx
      go_enter Try.func23, Try.ntmps23
      go_wp2
      go_ret
      exact ⟨ret_int hp.out.symm, (Below.refl _ _).alloc (Nat.le_refl _) _⟩
  · have d1 : (x == 0) = false := by rw [beq_eq_false_iff_ne]; exact hx
    have hp := Lib.hid (show endOf l x = x by unfold endOf; rw [if_neg (by omega)])
    clear hx
    go_enter Try.func23, Try.ntmps23
    go_wp2
    go_ret
    exact ⟨ret_int hp.out.symm, (Below.refl _ _).alloc (Nat.le_refl _) _⟩
/-- The call's own two new blocks, behind another call. -/
theorem kept_new {w w1 : World} {o : Obj} {v : Value} {y : Int} {t : TypeId} (h : Below ((w.alloc o).alloc (.cells #[v, .int .i64 y] t)).heap.size ((w.alloc o).alloc (.cells #[v, .int .i64 y] t)) w1) :
    w1.cell? ⟨w.heap.size + 1, 0, none⟩ = some v ∧ w1.cell? ⟨w.heap.size + 1, 1, none⟩ = some (.int .i64 y) ∧ w1.frozen? ⟨w.heap.size + 1, 0, none⟩ = false ∧ w1.frozen? ⟨w.heap.size + 1, 1, none⟩ = false := by
  have hlt : w.heap.size + 1 < ((w.alloc o).alloc (.cells #[v, .int .i64 y] t)).heap.size := by simp
  have hh : ((w.alloc o).alloc (.cells #[v, .int .i64 y] t)).heap[w.heap.size + 1]? = some (.cells #[v, .int .i64 y] t) := by
    have := heap_alloc_new (w.alloc o) (.cells #[v, .int .i64 y] t)
    rwa [World.size_alloc] at this
  refine ⟨?_, ?_, ?_, ?_⟩
  · rw [h.cell (p := ⟨w.heap.size + 1, 0, none⟩) hlt]; simp only [World.cell?, hh]; rfl
  · rw [h.cell (p := ⟨w.heap.size + 1, 1, none⟩) hlt]; simp only [World.cell?, hh]; rfl
  · rw [h.frozen (p := ⟨w.heap.size + 1, 0, none⟩) hlt]; unfold World.frozen?; rw [hh]; simp
  · rw [h.frozen (p := ⟨w.heap.size + 1, 1, none⟩) hlt]; unfold World.frozen?; rw [hh]; simp
theorem cells_end {h : Nat} {w1 : World} {v v' a a' : Value} {o : Obj} (q0 : w1.cell? ⟨h, 0, none⟩ = some a) (q1 : w1.cell? ⟨h, 1, none⟩ = some a') :
    (((w1.setCell ⟨h, 0, none⟩ v).setCell ⟨h, 1, none⟩ v').alloc o).cell? ⟨h, 0, none⟩ = some v ∧ (((w1.setCell ⟨h, 0, none⟩ v).setCell ⟨h, 1, none⟩ v').alloc o).cell? ⟨h, 1, none⟩ = some v' := by
  have hlt : h < w1.heap.size := block_lt_of_cell q0
  have hne : (⟨h, 0, none⟩ : Addr) ≠ ⟨h, 1, none⟩ := by simp
  have hne' : (⟨h, 1, none⟩ : Addr) ≠ ⟨h, 0, none⟩ := by simp
  have e1 : (w1.setCell ⟨h, 0, none⟩ v).cell? ⟨h, 1, none⟩ = some a' := by rw [World.cell?_setCell_other _ _ _ _ hne]; exact q1
  refine ⟨?_, ?_⟩
  · rw [World.cell?_alloc_lt _ _ _ (by simpa [World.setCell] using hlt), World.cell?_setCell_other _ _ _ _ hne', World.cell?_setCell_same _ _ _ q0]
  · rw [World.cell?_alloc_lt _ _ _ (by simpa [World.setCell] using hlt), World.cell?_setCell_same _ _ _ e1]
theorem below_end {B h : Nat} {w w1 : World} {v v' : Value} {o : Obj} (hb : Below B w w1) (hB : B ≤ h) (hs : B ≤ w1.heap.size) : Below B w ((((w1.setCell ⟨h, 0, none⟩ v).setCell ⟨h, 1, none⟩ v').alloc o)).drew :=
  (((hb.setCell (p := ⟨h, 0, none⟩) hB v).setCell (p := ⟨h, 1, none⟩) hB v').alloc (by simpa [World.setCell] using hs) o).drew
set_option maxRecDepth 100000 in
set_option maxHeartbeats 1000000 in
theorem rsigned_any (A : Option Addr) (n c : Nat) (l : List UInt8) (x : Int) (w : World) (B : Nat) (hl : l.length = n) (hc : n ≤ c) (hn : n ≤ 70368744177664) (hr : Rd w B A l) (hB : B ≤ w.heap.size) :
    Calls Try.prog 18 #[.agg #[.slice A n c, .int .i64 x]] w (Tells w B (.int .i64 (zag (numOf l x top).1)) (numOf l x top).2.1 (numOf l x top).2.2) := by
  have HL := Lib.hid hl
  have HR := Lib.hid hr
  have HBW := Lib.hid (two_new w (.cells #[.slice A n c, .int .i64 x] 39) (.cells #[.slice none 0 0, .int .i64 0] 39))
  have HRW := Lib.hid (hr.below (HBW.out.mono hB))
  clear hl hr
  obtain ⟨y, l', x', hnum⟩ : ∃ y l' x', numOf l x top = (y, l', x') := ⟨_, _, _, rfl⟩
  have hy : y < 18446744073709551616 := by have := numOf_fits l x top; rw [hnum] at this; exact this
  rw [hnum]
  have HNUM := Lib.hid hnum
  clear hnum
  go_enter Try.func18, Try.ntmps18
  go_wp2_with fail
  rw [top_int]
  refine (rnum_any A n c l x top _ B HL.out hc hn HRW.out (Nat.le_trans hB HBW.out.size)).mono ?_
  rw [HNUM.out]
  rintro e w1 ⟨hb1, A1, n1, c1, rfl, hl1, hc1, hr1⟩
  have HR1 := Lib.hid (show Rd w B A1 l' from hr1.keep fun p hp => (HBW.out.cell (by omega)).symm)
  obtain ⟨q0, q1, q2, q3⟩ := kept_new hb1
  have HB1 := Lib.hid (HBW.out.trans (hb1.mono HBW.out.size))
  have hlt : w.heap.size + 1 < w1.heap.size := by have := hb1.size; simp at this; omega
  have HL1 := Lib.hid hl1
  clear hl1 hr1 hb1
  by_cases ho : y % 2 = 1
  · have d1 : ((y : Int) % 2 == 1) = true := by rw [beq_iff_eq]; omega
    have hz := Lib.hid (show zag y = -((y : Int) / 2) - 1 by unfold zag; rw [if_pos ho]; omega)
    clear ho
    go_wp2
    go_region
    all_goals
      go_wp2
      rw [hz.out]
      obtain ⟨g0, g1⟩ := cells_end (v := .slice A1 n1 c1) (v' := .int .i64 x') (o := .cells #[.slice A1 n1 c1, .int .i64 x'] 39) q0 q1
      exact bodyPost_ret (v := .tuple #[.int .i64 (-((y : Int) / 2) - 1), .agg #[.slice A1 n1 c1, .int .i64 x']]) (by simp [results, Try.results18, go_sem, g0, g1]) rfl (tells_of (below_end HB1.out (Nat.le_succ _) HB1.out.size) HL1.out hc1 HR1.out)
  · have d1 : ((y : Int) % 2 == 1) = false := by rw [beq_eq_false_iff_ne]; omega
    have hz := Lib.hid (show zag y = (y : Int) / 2 by unfold zag; rw [if_neg ho]; omega)
    clear ho
    go_wp2
    go_region
    all_goals
      go_wp2
      rw [hz.out]
      obtain ⟨g0, g1⟩ := cells_end (v := .slice A1 n1 c1) (v' := .int .i64 x') (o := .cells #[.slice A1 n1 c1, .int .i64 x'] 39) q0 q1
      exact bodyPost_ret (v := .tuple #[.int .i64 ((y : Int) / 2), .agg #[.slice A1 n1 c1, .int .i64 x']]) (by simp [results, Try.results18, go_sem, g0, g1]) rfl (tells_of (below_end HB1.out (Nat.le_succ _) HB1.out.size) HL1.out hc1 HR1.out)
theorem three_new (w : World) (o o' o2 : Obj) : Below w.heap.size w (((w.alloc o).alloc o').alloc o2) := (two_new w o o').alloc (by simp; omega) _
/-- Bytes and what is left are answered. -/
def TellsB (w : World) (B : Nat) (out l : List UInt8) (x : Int) (e : Ending) (w' : World) : Prop :=
  Below w.heap.size w w' ∧ ∃ X m d A n c, e = .returned (.tuple #[.slice X m d, .agg #[.slice A n c, .int .i64 x]]) ∧ out.length = m ∧ Rd w B X out ∧ l.length = n ∧ n ≤ c ∧ Rd w B A l
theorem tellsB_of {w w' : World} {B m d n c : Nat} {X A : Option Addr} {out l : List UInt8} {x : Int} (hb : Below w.heap.size w w') (ho : out.length = m) (hx : Rd w B X out) (hl : l.length = n) (hc : n ≤ c) (hr : Rd w B A l) :
    TellsB w B out l x (.returned (.tuple #[.slice X m d, .agg #[.slice A n c, .int .i64 x]])) w' := ⟨hb, X, m, d, A, n, c, rfl, ho, hx, hl, hc, hr⟩
set_option maxRecDepth 100000 in
set_option maxHeartbeats 1000000 in
theorem rbytes_any (A : Option Addr) (n c : Nat) (l : List UInt8) (x k : Int) (w : World) (B : Nat) (hl : l.length = n) (hc : n ≤ c) (hr : Rd w B A l) :
    Calls Try.prog 20 #[.agg #[.slice A n c, .int .i64 x], .int .i64 k] w (TellsB w B (bytesOf l x k).1 (bytesOf l x k).2.1 (bytesOf l x k).2.2) := by
  have HL := Lib.hid hl
  have HR := Lib.hid hr
  clear hl hr
  by_cases hx : x = 0
  · have d1 : (x != 0) = false := by rw [hx]; rfl
    have HX := Lib.hid hx
    clear hx
    by_cases hk : k < 0
    · have hp := Lib.hid (show bytesOf l x k = ([], [], 1) by unfold bytesOf; rw [if_neg (by rw [HX.out]; simp), if_pos hk])
      rw [hp.out]
      go_enter Try.func20, Try.ntmps20
      go_wp2
      exact bodyPost_ret (v := .tuple #[.slice (some ⟨w.heap.size + 1 + 1, 0, none⟩) 0 0, .agg #[.slice none 0 0, .int .i64 1]]) (by simp [results, Try.results20, go_sem]) rfl (tellsB_of (three_new _ _ _ _) rfl Rd.empty rfl (Nat.le_refl _) Rd.empty)
    · by_cases hkn : (n : Int) < k
      · have hp := Lib.hid (show bytesOf l x k = ([], [], 2) by unfold bytesOf; rw [if_neg (by rw [HX.out]; simp), if_neg hk, if_pos (by rw [HL.out]; exact hkn)])
        rw [hp.out]
        go_enter Try.func20, Try.ntmps20
        go_wp2
        exact bodyPost_ret (v := .tuple #[.slice (some ⟨w.heap.size + 1 + 1, 0, none⟩) 0 0, .agg #[.slice none 0 0, .int .i64 2]]) (by simp [results, Try.results20, go_sem]) rfl (tellsB_of (three_new _ _ _ _) rfl Rd.empty rfl (Nat.le_refl _) Rd.empty)
      · obtain ⟨j, rfl⟩ := Int.eq_ofNat_of_zero_le (show 0 ≤ k by omega)
        have hjn : j ≤ n := by omega
        have hp := Lib.hid (show bytesOf l x (j : Int) = (l.take j, l.drop j, 0) by
          unfold bytesOf
          rw [if_neg (by rw [HX.out]; simp), if_neg (by omega), if_neg (by rw [HL.out]; omega)]; rfl)
        rw [hp.out]
        have HDR := Lib.hid (HR.out.drop (k := j) (cap := c) (by have := HL.out; omega))
        have HDL := Lib.hid (show (l.drop j).length = n - j by rw [List.length_drop, HL.out])
        have HTL := Lib.hid (show (l.take j).length = j by rw [List.length_take, HL.out]; omega)
        have HTR := Lib.hid (HR.out.take j)
        clear hk hkn
        go_enter Try.func20, Try.ntmps20
        go_wp2
        by_cases hck : c = j
        · go_region
          all_goals
            go_wp2
            exact bodyPost_ret (v := .tuple #[.slice A j j, .agg #[.slice A (n - j) 0, .int .i64 0]]) (by simp [results, Try.results20, go_sem]) rfl (tellsB_of (two_new_drew _ _ _) HTL.out HTR.out HDL.out (by omega) (by have := HDR.out; rw [if_pos hck] at this; exact this))
        · go_region
          all_goals
            go_wp2
            exact bodyPost_ret (v := .tuple #[.slice A j c, .agg #[.slice (A.map (·.add j)) (n - j) (c - j), .int .i64 0]]) (by simp [results, Try.results20, go_sem]) rfl (tellsB_of (two_new_drew _ _ _) HTL.out HTR.out HDL.out (by omega) (by have := HDR.out; rw [if_neg hck] at this; exact this))
  · have d1 : (x != 0) = true := by rw [bne_iff_ne]; exact hx
    have hp := Lib.hid (show bytesOf l x k = ([], l, x) by unfold bytesOf; rw [if_pos hx])
    rw [hp.out]
    clear hx
    go_enter Try.func20, Try.ntmps20
    go_wp2
    go_region
    all_goals
      go_wp2
      exact bodyPost_ret (v := .tuple #[.slice (some ⟨w.heap.size + 1 + 1, 0, none⟩) 0 0, .agg #[.slice A n c, .int .i64 x]]) (by simp [results, Try.results20, go_sem]) rfl (tellsB_of (three_new _ _ _ _).drew rfl Rd.empty HL.out hc HR.out)
end Go.Proofs.Ytclflenaehhbjaa
