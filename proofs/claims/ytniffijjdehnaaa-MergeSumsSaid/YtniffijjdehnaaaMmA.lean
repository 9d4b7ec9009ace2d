/- The program's keys of edges. -/
import Derived.Test.YtniffijjdehnaaaMkA
import Derived.LoopN
namespace Go.Proofs.Ytniffijjdehnaaa
open Go.RowKit Me Tx Ed Mg

/-- The numbers of an edge, in a key's order. -/
def edN (x : EdD) : Nat → Nat
  | 0 => x.src
  | 1 => x.dst
  | _ => x.wgt
/-- A key's front. -/
def keyF (x : EdD) : Nat → List UInt8
  | 0 => []
  | k + 1 => keyF x k ++ be4 (edN x k)
theorem keyF_length (x : EdD) : ∀ k, (keyF x k).length = 4 * k
  | 0 => rfl
  | k + 1 => by rw [keyF, List.length_append, keyF_length x k, be4_length]; omega
theorem keyF_all (x : EdD) : keyF x 3 = keyB x := by
  unfold keyB
  rw [keyF, keyF, keyF, keyF, List.nil_append, List.append_assoc]
  rfl
set_option maxRecDepth 100000 in
set_option maxHeartbeats 2000000 in
theorem mkey_any (x : EdD) (hx : FitE x) (w : World) : Calls Try.prog 9 #[Ed.agg x] w (News w (keyB x)) := by
  obtain ⟨H, hH⟩ : ∃ H, H = w.heap.size := ⟨_, rfl⟩
  obtain ⟨w0, hw0⟩ : ∃ w0, w0 = w.alloc (.cells #[.int .u32 (x.src : Int), .int .u32 (x.dst : Int), .int .u32 (x.wgt : Int)] 24) := ⟨_, rfl⟩
  have hb0 : Below w.heap.size w w0 := by rw [hw0]; exact (Below.refl _ _).alloc (Nat.le_refl _) _
  have BA := Lib.hid (show Blk w0 H [.int .u32 (x.src : Int), .int .u32 (x.dst : Int), .int .u32 (x.wgt : Int)] by rw [hw0, hH]; exact Blk.new w [.int .u32 (x.src : Int), .int .u32 (x.dst : Int), .int .u32 (x.wgt : Int)] _)
  obtain ⟨a, ha⟩ : ∃ a, a = x.src := ⟨_, rfl⟩
  obtain ⟨b, hb⟩ : ∃ a, a = x.dst := ⟨_, rfl⟩
  obtain ⟨d, hd⟩ : ∃ a, a = x.wgt := ⟨_, rfl⟩
  have HN := Lib.hid (show edN x 0 = a ∧ edN x 1 = b ∧ edN x 2 = d from ⟨ha.symm, hb.symm, hd.symm⟩)
  have HF := Lib.hid (show ∀ k, edN x k < 4294967296 from fun k => by
    unfold edN
    split
    · exact hx.1
    · exact hx.2.1
    · exact hx.2.2)
  rw [← ha, ← hb, ← hd] at BA
  obtain ⟨i0, hi0, hz0, hz1, hz2⟩ := info_parts u8_info
  have c0 : w0.cell? ⟨H, 0, none⟩ = some (.int .u32 (a : Int)) := BA.out.cell rfl
  have c1 : w0.cell? ⟨H, 1, none⟩ = some (.int .u32 (b : Int)) := BA.out.cell rfl
  have c2 : w0.cell? ⟨H, 2, none⟩ = some (.int .u32 (d : Int)) := BA.out.cell rfl
  have HH0 := Lib.hid (show H < w0.heap.size from BA.out.lt)
  have HW0 := Lib.hid hw0
  have HHE := Lib.hid hH
  have HB0 := Lib.hid hb0
  clear ha hb hd hw0 hH hb0
  go_enter Try.func9, Try.ntmps9
  go_upto_region 1 with fail
  rw [← HW0.out, ← HHE.out]
  go_wp2_with (refine wpList_make_own w0 rfl _ _ 25 rfl w0.heap.size 5 i0 _ 1 Try.underlying25 hi0 hz0 hz1 .i64 .i64 12 12 rfl rfl rfl (by rw [hz2]; omega) (by unfold maxLen; omega) (Nat.le_refl _) ?_; intro w1 ho1 hg1; refine Classical.byContradiction fun hcontra => ?_)
  have HO1 := Lib.hid (show w1.ownsRow w0.heap.size 5 1 (.slice (some ⟨w0.heap.size, 0, none⟩) 0 12) 0 (cellsOf []) from ho1)
  have HB1 := Lib.hid (show Below w0.heap.size w0 w1 from (Below.refl _ _).grown hg1 (Nat.le_refl _) (fun k e => by cases e))
  have HS1 := Lib.hid (show w0.heap.size ≤ w1.heap.size from HB1.out.size)
  clear ho1 hg1
  apply hcontra
  clear hcontra
  have d0 := (HB1.out.cell (p := ⟨H, 0, none⟩) HH0.out).trans c0
  have d1 := (HB1.out.cell (p := ⟨H, 1, none⟩) HH0.out).trans c1
  have d2 := (HB1.out.cell (p := ⟨H, 2, none⟩) HH0.out).trans c2
  clear c0 c1 c2
  go_wp2
  go_loopw [14, 3] (fun iv v wr => ∃ (k : Nat) (A : Option Addr) (n c : Nat), k ≤ 3 ∧ iv = .int .i64 (k : Int) ∧ v = .slice A n c ∧ Hid (4 * k = n ∧ n ≤ c) ∧ Hid (wr.ownsRow w0.heap.size 5 1 (.slice A n c) n (cellsOf (keyF x k))) ∧ Hid (Below w0.heap.size w0 wr)) (fun iv _ _ => 3 - (intOf iv).toNat)
  case atStart => exact ⟨0, _, 0, 12, by omega, rfl, rfl, Lib.hid ⟨rfl, by omega⟩, HO1, HB1⟩
  case round =>
    clear d0 d1 d2
    obtain ⟨k, A, n, c, hk, rfl, rfl, HNC, HO, HB⟩ := hrel
    by_cases hlt : k < 3
    · obtain ⟨u, hu⟩ : ∃ u, u = edN x k := ⟨_, rfl⟩
      have HU := Lib.hid hu
      have hu32 : u < 4294967296 := by rw [hu]; exact HF.out k
      clear hu
      have hk2 : (k = 0 ∧ a = u) ∨ (k = 1 ∧ b = u) ∨ (k = 2 ∧ d = u) := by
        have h := HN.out
        rcases (show k = 0 ∨ k = 1 ∨ k = 2 by omega) with e | e | e
        · exact .inl ⟨e, by rw [HU.out, e]; exact h.1.symm⟩
        · exact .inr (.inl ⟨e, by rw [HU.out, e]; exact h.2.1.symm⟩)
        · exact .inr (.inr ⟨e, by rw [HU.out, e]; exact h.2.2.symm⟩)
      have hidx : ∀ W : World, (Instr.index 63 (.agg #[.int .u32 (a : Int), .int .u32 (b : Int), .int .u32 (d : Int)]) (.int .i64 (k : Int))).run Try.prog W = .ok (.int .u32 (u : Int)) W := fun W => by
        rcases hk2 with ⟨rfl, rfl⟩ | ⟨rfl, rfl⟩ | ⟨rfl, rfl⟩
        · simp [Instr.index, go_sem]
        · simp [Instr.index, go_sem]
        · simp [Instr.index, go_sem]
      clear hk2
      have HBL := Lib.hid (be4_length u)
      have HCE := Lib.hid (show (#[.int .u8 ((u : Int) / 16777216 % 256), .int .u8 ((u : Int) / 65536 % 256), .int .u8 ((u : Int) / 256 % 256), .int .u8 ((u : Int) % 256)] : Array Value).toList = cellsOf (be4 u) by
        rw [cells_be4 u hu32, show (u : Int) / 16777216 % 256 = ((u / 16777216 : Nat) : Int) by omega]
        rfl)
      have HLE := Lib.hid (show w0.heap.size ≤ wr.heap.size from HB.out.size)
      have hn12 : n ≤ 12 := by have := HNC.out.1; omega
      clear hu32
      go_wp2_with (at_builtin
                   go_loud (refine wpList_app rfl (.tmp 17) (.tmp 29) 25 rfl w0.heap.size 5 i0 _ Try.underlying25 hi0 hz0 hz1 hz2 rfl (.slice A n c) n (keyF x k) rfl (HO.out.alloc _) (wr.heap.size + 1) (some ⟨wr.heap.size, 0, none⟩) 4 4 (be4 u) rfl HBL.out (Rd.lit wr _ _ _ HCE.out) (by omega) (by rw [World.size_alloc]; have := HLE.out; omega) ?_)
                   intro v2 w2 ho2 hg2 hn2
                   refine Classical.byContradiction fun hcontra => ?_)
      obtain ⟨B2, d2, hv2⟩ := own_slice ho2
      subst hv2
      have HO2 := Lib.hid (show w2.ownsRow w0.heap.size 5 1 (.slice B2 (n + 4) d2) (n + 4) (cellsOf (keyF x (k + 1))) from by rw [keyF, ← HU.out]; exact ho2)
      have HC2 := Lib.hid (show 4 * (k + 1) = n + 4 ∧ n + 4 ≤ d2 from ⟨by have := HNC.out.1; omega, own_cap ho2 (by omega)⟩)
      have HB2 := Lib.hid (below_app (HB.out.alloc HLE.out _) (HO.out.alloc _) (Nat.le_refl _) (by rw [World.size_alloc]; have := HLE.out; omega) hg2)
      clear ho2 hg2 hn2 HO HB hidx
      apply hcontra
      clear hcontra
      go_wp2
      go_roundw
      case rel => exact ⟨k + 1, B2, n + 4, d2, by omega, by go_num, rfl, HC2, HO2, HB2⟩
      case measure => simp [intOf]; omega
    · obtain rfl : k = 3 := by omega
      go_wp2
      go_ret
      refine ⟨_, n, rfl, ?_, HB0.out.trans (HB.out.mono HB0.out.size)⟩
      rw [← keyF_all]
      exact own_more HO.out HB0.out.size
end Go.Proofs.Ytniffijjdehnaaa
