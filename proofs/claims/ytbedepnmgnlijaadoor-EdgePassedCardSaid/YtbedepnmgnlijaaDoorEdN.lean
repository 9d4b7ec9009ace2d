/- edge.parse: the numbers of words. -/
import Derived.Test.YtbedepnmgnlijaaDoorTxN
import Derived.Test.YtbedepnmgnlijaaDoorEdW
import Derived.Test.YtbedepnmgnlijaaDoorEdM
namespace Go.Proofs.YtbedepnmgnlijaaDoor
open Go.RowKit Me Tx Ed Go.Shelf Go.Lib

/-- What package edge reads of the variables. -/
structure Evs (w : World) : Prop where
  e : ErrCell w
  t : Tab w
  l : ∀ i, i < 3 → w.cell? ⟨1, i, none⟩ = some (.int .u64 (leN i : Int))
  m : ∀ i, i < 3 → w.cell? ⟨0, i, none⟩ = some (.int .u64 (moN i : Int))
theorem Evs.below {w w' : World} (h : Evs w) (hb : Below w.heap.size w w') : Evs w' :=
  ⟨h.e.below hb, h.t.below hb, fun i hi => (hb.cell (World.block_lt_of_cell? _ _ (h.l i hi))).trans (h.l i hi), fun i hi => (hb.cell (World.block_lt_of_cell? _ _ (h.m i hi))).trans (h.m i hi)⟩
/-- Numbers as values. -/
def u64s (l : List Nat) : List Value := l.map fun n : Nat => Value.int .u64 (n : Int)
theorem u64s_set (l : List Nat) (k n : Nat) : (u64s l).set k (.int .u64 (n : Int)) = u64s (l.set k n) := by unfold u64s; rw [List.map_set]
/-- The numbers and the error are answered. -/
def ParsPost (w : World) (r : List Nat × Int) (e : Ending) (w' : World) : Prop :=
  e = .returned (.tuple #[.agg #[.int .u64 (r.1.getD 0 0 : Nat), .int .u64 (r.1.getD 1 0 : Nat), .int .u64 (r.1.getD 2 0 : Nat)], .int .i64 r.2]) ∧ Below w.heap.size w w'
theorem blk_three {w1 : World} {b : Nat} {v0 v1 v2 u0 u1 u2 : Value} (h : Blk w1 b [v0, v1, v2]) : Blk (((w1.setCell ⟨b, 0, none⟩ u0).setCell ⟨b, 1, none⟩ u1).setCell ⟨b, 2, none⟩ u2) b [u0, u1, u2] := ((h.set 0 u0).set 1 u1).set 2 u2
theorem below_three {w w1 : World} {B b : Nat} {u0 u1 u2 : Value} (h : Below B w w1) (hB : B ≤ b) : Below B w (((w1.setCell ⟨b, 0, none⟩ u0).setCell ⟨b, 1, none⟩ u1).setCell ⟨b, 2, none⟩ u2) :=
  ((h.setCell (p := ⟨b, 0, none⟩) hB u0).setCell (p := ⟨b, 1, none⟩) hB u1).setCell (p := ⟨b, 2, none⟩) hB u2
theorem moN_lt (i : Nat) : moN i < 18446744073709551616 := by unfold moN; split <;> omega
theorem three_of {l : List Nat} (h : l.length = 3) : l = [l.getD 0 0, l.getD 1 0, l.getD 2 0] := by
  match l, h with
  | [a, b, c], _ => rfl

set_option maxRecDepth 100000 in
set_option maxHeartbeats 1000000 in
theorem parse_any (A : Option Addr) (n c : Nat) (ws : List (List UInt8)) (hn : ws.length = n) (hn3 : n ≤ 3) (hws : ∀ x ∈ ws, x.length ≤ 1073741824) (w : World) (hE : Evs w) (hr : Cs w w.heap.size A (ws.map sv)) :
    Calls Tryd.prog 21 #[.slice A n c] w (ParsPost w (parsS 0 ws [0, 0, 1])) := by
  obtain ⟨H, hH⟩ : ∃ H, H = w.heap.size := ⟨_, rfl⟩
  have b0 : Blk ((w.alloc (.cells #[.int .u64 0, .int .u64 0, .int .u64 0] 51)).alloc (.cells #[.int .u64 0, .int .u64 0, .int .u64 1] 51)) H (u64s [0, 0, 0]) := by rw [hH]; exact (Blk.new w [.int .u64 0, .int .u64 0, .int .u64 0] _).alloc _
  have b1 : Blk ((w.alloc (.cells #[.int .u64 0, .int .u64 0, .int .u64 0] 51)).alloc (.cells #[.int .u64 0, .int .u64 0, .int .u64 1] 51)) (H + 1) (u64s [0, 0, 1]) := by rw [hH]; exact Blk.new' (w.alloc _) [.int .u64 0, .int .u64 0, .int .u64 1] _ (by simp)
  have hb : Below w.heap.size w ((w.alloc (.cells #[.int .u64 0, .int .u64 0, .int .u64 0] 51)).alloc (.cells #[.int .u64 0, .int .u64 0, .int .u64 1] 51)) := ((Below.refl _ w).alloc (Nat.le_refl _) _).alloc (by simp) _
  have HB := Lib.hid (And.intro b0 (And.intro b1 hb))
  have HH := Lib.hid hH
  have HN := Lib.hid hn
  have HE := Lib.hid hE
  have HR := Lib.hid hr
  have HW := Lib.hid hws
  have HG := Lib.hid (show parsS 0 ws [0, 0, 1] = parsS 0 (ws.drop 0) [0, 0, 1] from rfl)
  clear hH b0 b1 hb hn hE hr hws
  go_enter Tryd.func21, Tryd.ntmps21
  go_wp2
  go_loopw [12] (fun i wr => ∃ (k : Nat) (ns : List Nat), i = .int .i64 (k : Int) ∧ k ≤ n ∧ Hid (ns.length = 3) ∧ Hid (parsS 0 ws [0, 0, 1] = parsS k (ws.drop k) ns) ∧ Hid (Blk wr H (u64s [0, 0, 0]) ∧ Blk wr (H + 1) (u64s ns) ∧ Below w.heap.size w wr)) (fun i _ => (n - intOf i).toNat)
  case atStart => exact ⟨0, [0, 0, 1], rfl, Nat.zero_le _, Lib.hid rfl, HG, HB⟩
  case round =>
    clear HB HG
    obtain ⟨k, ns, rfl, hk, HL, HG, HB⟩ := hrel
    by_cases hkn : k < n
    · obtain ⟨x, hx⟩ : ∃ x, ws[k]? = some x := ⟨_, List.getElem?_eq_getElem (by rw [HN.out]; exact hkn)⟩
      have hx2 : (ws.map sv)[k]? = some (sv x) := by rw [List.getElem?_map, hx]; rfl
      obtain ⟨a, rfl, -, q⟩ := (HR.out.below HB.out.2.2) (by rw [List.length_map, HN.out]; omega)
      have y0 := q k _ hx2
      have hd : ws.drop k = x :: ws.drop (k + 1) := by
        have hlt : k < ws.length := by rw [HN.out]; exact hkn
        rw [List.drop_eq_getElem_cons hlt]
        rw [List.getElem?_eq_getElem hlt] at hx
        injection hx with hx
        rw [hx]
      have HX := Lib.hid (show x.length ≤ 1073741824 from HW.out x (List.mem_of_getElem? hx))
      have hE1 := HE.out.below HB.out.2.2
      have m0 := hE1.m k (by omega)
      have l0 := hE1.l k (by omega)
      obtain ⟨mo, hmo⟩ : ∃ m, m = moN k := ⟨_, rfl⟩
      obtain ⟨le, hle⟩ : ∃ m, m = leN k := ⟨_, rfl⟩
      rw [← hmo] at m0
      rw [← hle] at l0
      have HMO := Lib.hid hmo
      have HLE := Lib.hid hle
      have HG2 := Lib.hid (show parsS 0 ws [0, 0, 1] = parsS k (x :: ws.drop (k + 1)) ns by rw [HG.out, hd])
      have hk3 : (k : Int) < 3 := by omega
      have HEE := Lib.hid hE1.e
      clear hx hx2 q hd hE1 hmo hle HG
      go_wp2_with fail
      refine (num_any ⟨x.toArray⟩ mo (by have := HX.out; exact this) (by rw [HMO.out]; exact moN_lt k) wr HEE.out).mono ?_
      obtain ⟨r, hr⟩ : ∃ r, r = numS (⟨x.toArray⟩ : ByteArray).data.toList mo := ⟨_, rfl⟩
      rw [← hr]
      obtain ⟨v, e⟩ := r
      rintro e1 w1 ⟨rfl, hb1⟩
      have hB := HB.out
      have hbw : Below w.heap.size w w1 := hB.2.2.trans (hb1.mono hB.2.2.size)
      have hfld : fldS k x = if e ≠ 0 then (0, e) else if v < le then (0, 9) else (v, 0) := by
        have h2 : numS x mo = (v, e) := hr.symm
        unfold fldS
        rw [← HMO.out, ← HLE.out, h2]
      have HF := Lib.hid hfld
      have c0 := hB.1.past hb1
      have c1 := hB.2.1.past hb1
      have l1 : w1.cell? ⟨1, k, none⟩ = some (.int .u64 (le : Int)) := (hb1.cell (World.block_lt_of_cell? _ _ l0)).trans l0
      have z0 := c1.cell (i := k) (v := .int .u64 (ns.getD k 0 : Nat)) (by unfold u64s; rw [List.getElem?_map, List.getElem?_eq_getElem (by rw [HL.out]; omega)]; simp [List.getD, List.getElem?_eq_getElem (show k < ns.length by rw [HL.out]; omega)])
      have z1 := c1.frozen k
      have y5 := c0.cell (i := 0) (v := .int .u64 0) rfl
      have y6 := c0.cell (i := 1) (v := .int .u64 0) rfl
      have y7 := c0.cell (i := 2) (v := .int .u64 0) rfl
      have f5 := c0.frozen 0
      have f6 := c0.frozen 1
      have f7 := c0.frozen 2
      rw [HH.out] at c0 c1 y5 y6 y7 f5 f6 f7 z0 z1
      have HC := Lib.hid (And.intro c0 (And.intro c1 hbw))
      clear hr hfld hb1 hbw c0 c1 hB m0 l0
      by_cases he : e = 0
      · subst he
        by_cases hv : v < le
        · have q1 : (v : Int) < (le : Int) := by omega
          have HP := Lib.hid (show parsS 0 ws [0, 0, 1] = ([0, 0, 0], 9) by
            have h9 : fldS k x = (0, 9) := by rw [HF.out, if_neg (by simp), if_pos hv]
            rw [HG2.out, parsS_bad (by rw [h9]; simp), h9])
          go_wp2
          have r := blk_three (u0 := .int .u64 0) (u1 := .int .u64 0) (u2 := .int .u64 0) HC.out.1
          have r0 := r.cell (i := 0) rfl
          have r1 := r.cell (i := 1) rfl
          have r2 := r.cell (i := 2) rfl
          refine bodyPost_ret (v := .tuple #[.agg #[.int .u64 0, .int .u64 0, .int .u64 0], .int .i64 9]) (by simp [results, Tryd.results21, go_sem, r0, r1, r2]) rfl ?_
          rw [HP.out]
          exact ⟨rfl, below_three HC.out.2.2 (Nat.le_refl _)⟩
        · have q1 : ¬ (v : Int) < (le : Int) := by omega
          have hf : fldS k x = (v, 0) := by rw [HF.out, if_neg (by simp), if_neg hv]
          have HG3 := Lib.hid (show parsS 0 ws [0, 0, 1] = parsS (k + 1) (ws.drop (k + 1)) (ns.set k v) by rw [HG2.out, parsS_ok (by rw [hf]), hf])
          have HL3 := Lib.hid (show (ns.set k v).length = 3 by rw [List.length_set]; exact HL.out)
          have HB3 := Lib.hid (show Blk (w1.setCell ⟨w.heap.size + 1, k, none⟩ (.int .u64 (v : Int))) H (u64s [0, 0, 0]) ∧ Blk (w1.setCell ⟨w.heap.size + 1, k, none⟩ (.int .u64 (v : Int))) (H + 1) (u64s (ns.set k v)) ∧ Below w.heap.size w (w1.setCell ⟨w.heap.size + 1, k, none⟩ (.int .u64 (v : Int))) by
            obtain ⟨c0, c1, hbw⟩ := HC.out
            rw [HH.out]
            exact ⟨c0.other (show w.heap.size + 1 ≠ w.heap.size by omega) _, by rw [← u64s_set]; exact c1.set k _, hbw.setCell (p := ⟨w.heap.size + 1, k, none⟩) (show w.heap.size ≤ w.heap.size + 1 by omega) _⟩)
          have ew : wrap64 ((k : Int) + 1) = (k : Int) + 1 := by unfold wrap64; omega
          clear hf y5 y6 y7 f5 f6 f7 HC HG2 HF
          go_wp2
          go_roundw
          case rel => exact ⟨k + 1, ns.set k v, by first | rfl | (congr 1), by omega, HL3, HG3, HB3⟩
          case measure => simp [intOf]; omega
      · have HP := Lib.hid (show parsS 0 ws [0, 0, 1] = ([0, 0, 0], e) by
          have h9 : fldS k x = (0, e) := by rw [HF.out, if_pos he]
          rw [HG2.out, parsS_bad (by rw [h9]; exact he), h9])
        go_wp2
        have r := blk_three (u0 := .int .u64 0) (u1 := .int .u64 0) (u2 := .int .u64 0) HC.out.1
        have r0 := r.cell (i := 0) rfl
        have r1 := r.cell (i := 1) rfl
        have r2 := r.cell (i := 2) rfl
        refine bodyPost_ret (v := .tuple #[.agg #[.int .u64 0, .int .u64 0, .int .u64 0], .int .i64 e]) (by simp [results, Tryd.results21, go_sem, r0, r1, r2]) rfl ?_
        rw [HP.out]
        exact ⟨rfl, below_three HC.out.2.2 (Nat.le_refl _)⟩
    · have hkk : k = n := by omega
      obtain ⟨n0, n1, n2, hns⟩ : ∃ a b c, ns = [a, b, c] := ⟨_, _, _, three_of HL.out⟩
      subst hns
      have HP := Lib.hid (show parsS 0 ws [0, 0, 1] = ([n0, n1, n2], 0) by rw [HG.out, List.drop_of_length_le (by rw [HN.out]; omega), parsS])
      obtain ⟨c0, c1, hbw⟩ := HB.out
      have y5 := c0.cell (i := 0) (v := .int .u64 0) rfl
      have y6 := c0.cell (i := 1) (v := .int .u64 0) rfl
      have y7 := c0.cell (i := 2) (v := .int .u64 0) rfl
      have z5 := c1.cell (i := 0) (v := .int .u64 (n0 : Int)) rfl
      have z6 := c1.cell (i := 1) (v := .int .u64 (n1 : Int)) rfl
      have z7 := c1.cell (i := 2) (v := .int .u64 (n2 : Int)) rfl
      have f5 := c0.frozen 0
      have f6 := c0.frozen 1
      have f7 := c0.frozen 2
      rw [HH.out] at c0 c1 y5 y6 y7 z5 z6 z7 f5 f6 f7
      have HC := Lib.hid (And.intro c0 hbw)
      clear c0 c1 hbw HB hkk
      go_wp2
      have r := blk_three (u0 := .int .u64 (n0 : Int)) (u1 := .int .u64 (n1 : Int)) (u2 := .int .u64 (n2 : Int)) HC.out.1
      have r0 := r.cell (i := 0) rfl
      have r1 := r.cell (i := 1) rfl
      have r2 := r.cell (i := 2) rfl
      refine bodyPost_ret (v := .tuple #[.agg #[.int .u64 (n0 : Int), .int .u64 (n1 : Int), .int .u64 (n2 : Int)], .int .i64 0]) (by simp [results, Tryd.results21, go_sem, r0, r1, r2]) rfl ?_
      rw [HP.out]
      exact ⟨rfl, below_three HC.out.2 (Nat.le_refl _)⟩
end Go.Proofs.YtbedepnmgnlijaaDoor
