/- The document's example. -/
import Derived.Test.YtbedepnmgnlijaaDoorEdK
import Derived.Lib.SlBytesConst
namespace Go.Proofs.YtbedepnmgnlijaaDoor
open Go.RowKit Me Tx Ed Go.Shelf Go.Lib

def exB : List UInt8 := [49, 32, 50, 10, 35, 32, 97, 32, 110, 111, 116, 101, 10, 51, 32, 52, 32, 53, 10]
theorem ex_read : readB exB = ([⟨1, 2, 1⟩, ⟨3, 4, 5⟩], 0, 0) := by
  rw [readB_eq (by decide)]
  decide
/-- A constant's bytes, converted. -/
theorem rd_mark (w : World) (C : Array Value) (t : TypeId) (fr : Nat × Nat) (l : List UInt8) (h : C.toList = cellsOf l) : Rd (w.alloc (.cells C t fr)) (w.heap.size + 1) (some ⟨w.heap.size, 0, none⟩) l := fun _ => by
  refine ⟨_, rfl, Nat.lt_succ_self _, fun i u hu => ?_⟩
  have h1 : (⟨w.heap.size, 0, none⟩ : Addr).add i = ⟨w.heap.size, i, none⟩ := by cases i <;> simp [Addr.add]
  rw [h1, World.cell?_alloc_mark w C t fr i]
  have h2 : C.toList[i]? = some (.int .u8 (u.toNat : Int)) := by rw [h]; exact cellsOf_get hu
  simpa using h2
set_option maxRecDepth 100000 in
theorem awake_any (w : World) (hE : Evs w) : Calls Tryd.prog 9 #[] w fun e w' => e = .returned (.bool true) ∧ Below w.heap.size w w' := by
  have hb : Below w.heap.size w (w.alloc (.cells (cellsOf exB).toArray 5 (19, 20))) := (Below.refl _ w).alloc (Nat.le_refl _) _
  have hr : Rd (w.alloc (.cells (cellsOf exB).toArray 5 (19, 20))) (w.alloc (.cells (cellsOf exB).toArray 5 (19, 20))).heap.size (some ⟨w.heap.size, 0, none⟩) exB := Rd.more (rd_mark w _ _ _ exB (by simp)) (by simp)
  have HR := Lib.hid (And.intro hr (And.intro hb (hE.below hb)))
  have HX := Lib.hid ex_read
  have e1 := fun (w : World) (C : Array Value) (n c : Nat) => Lib.run_convert_bytes_const (P := Tryd.prog) w 32 5 C n c Tryd.underlying32 Tryd.underlying5
  clear hb hr hE
  go_enter Tryd.func9, Tryd.ntmps9
  go_wp2_with fail
  refine (read_any (some ⟨w.heap.size, 0, none⟩) 19 19 exB rfl (Nat.le_refl _) (by omega) _ HR.out.1 HR.out.2.2).mono ?_
  rw [HX.out]
  rintro e w1 ⟨A, c, rfl, hc, hes, hb1⟩
  obtain ⟨a, rfl, -, q⟩ := hes.1 (by simp [edCells])
  have y0 : w1.cell? a = some (.int .u32 1) := q 0 _ rfl
  have y1 : w1.cell? ⟨a.block, a.off + 1, none⟩ = some (.int .u32 2) := q 1 _ rfl
  have y2 : w1.cell? ⟨a.block, a.off + 2, none⟩ = some (.int .u32 1) := q 2 _ rfl
  have y3 : w1.cell? ⟨a.block, a.off + 3, none⟩ = some (.int .u32 3) := q 3 _ rfl
  have y4 : w1.cell? ⟨a.block, a.off + 3 + 1, none⟩ = some (.int .u32 4) := q 4 _ rfl
  have y5 : w1.cell? ⟨a.block, a.off + 3 + 2, none⟩ = some (.int .u32 5) := q 5 _ rfl
  have HB1 := Lib.hid (HR.out.2.1.trans (hb1.mono HR.out.2.1.size))
  clear hes q hb1 hc
  simp only [List.length_cons, List.length_nil, Nat.zero_add, Nat.reduceAdd]
  go_wp2
  go_ret
  exact ⟨rfl, HB1.out⟩
end Go.Proofs.YtbedepnmgnlijaaDoor
