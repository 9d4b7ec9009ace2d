/- The manifest that counts on a disk, as the document reads it. -/
import Derived.Test.YtcnmamdfiicdaaaMRead
import Derived.Test.YtcnmamdfiicdaaaRGet
import Derived.Test.YtcnmamdfiicdaaaDkR
namespace Go.Proofs.Ytcnmamdfiicdaaa
open Go.RowKit Me Mf Rw Ds

/-- The document's answer. -/
def ansR (m : RefM) (T : Nat → Option ManD) (Z : Nat → Bool) : ManD × Int :=
  if m.count ≤ 32 then (noMan, 1) else if m.off then (noMan, 6) else ansOf (curOf T 2) (blkOf Z 2)
theorem zeros_drop {l : List UInt8} {k : Nat} {u : UInt8} (h : l[k]? = some u) : zeros (l.drop k) = ((u == 0) && zeros (l.drop (k + 1))) := by
  obtain ⟨hk, e⟩ := List.getElem?_eq_some_iff.1 h
  rw [List.drop_eq_getElem_cons hk, e]
  rfl
set_option maxRecDepth 100000 in
theorem rread_small {own : Nat → Prop} {w : World} {m : RefM} {Am Aw : Option Addr} {nm cm nw cw : Nat} (hs : m.count ≤ 32) :
    Calls Try.prog 22 #[.agg #[.int .i64 (m.count : Int), .bool m.off, .int .i64 m.fuse, .slice Am nm cm, .slice Aw nw cw]] w (RdPost w (noMan, 1)) := by
  obtain ⟨q, hq⟩ : ∃ q, q = m.count := ⟨_, rfl⟩
  obtain ⟨o, ho⟩ : ∃ o, o = m.off := ⟨_, rfl⟩
  rw [← hq, ← ho]
  rw [← hq] at hs
  clear ho
  generalize m.fuse = fu
  clear hq
  obtain ⟨w1, hw1⟩ : ∃ w1, w1 = (w.alloc (.cells #[.int .i64 (q : Int), .bool o, .int .i64 fu, .slice Am nm cm, .slice Aw nw cw] 51)) := ⟨_, rfl⟩
  obtain ⟨w2, hw2⟩ : ∃ w2, w2 = (w1.alloc (.cells #[.int .u64 0, .int .u32 0, .slice none 0 0] 28)).alloc (.cells #[.int .u64 0, .int .u32 0, .slice none 0 0] 28) := ⟨_, rfl⟩
  have HW2 := Lib.hid (show w2 = _ from hw1 ▸ hw2)
  have hb1 : Below w.heap.size w w1 := by rw [hw1]; exact (Below.refl _ _).alloc (Nat.le_refl _) _
  have hb2 : Below w1.heap.size w1 w2 := by rw [hw2]; exact ((Below.refl _ _).alloc (Nat.le_refl _) _).alloc (by simp) _
  have hs1 : w1.heap.size = w.heap.size + 1 := by rw [hw1]; simp
  have HB := Lib.hid (hb1.trans (hb2.mono hb1.size))
  have HDB := (show Blk w2 w.heap.size [.int .i64 (q : Int), .bool o, .int .i64 fu, .slice Am nm cm, .slice Aw nw cw] by
    have : Blk w1 w.heap.size [.int .i64 (q : Int), .bool o, .int .i64 fu, .slice Am nm cm, .slice Aw nw cw] := by rw [hw1]; exact Blk.new w [.int .i64 (q : Int), .bool o, .int .i64 fu, .slice Am nm cm, .slice Aw nw cw] _
    exact this.past hb2)
  have HX := Lib.hid (show Blk w2 (w.heap.size + 1) [.int .u64 0, .int .u32 0, .slice none 0 0] by rw [hw2]; exact (Blk.new' w1 [.int .u64 0, .int .u32 0, .slice none 0 0] _ hs1).alloc _)
  have HY := (show Blk w2 (w.heap.size + 2) [.int .u64 0, .int .u32 0, .slice none 0 0] by rw [hw2]; exact Blk.new' _ [.int .u64 0, .int .u32 0, .slice none 0 0] _ (by simp [hs1]))
  have q0 := HDB.cell (i := 0) rfl
  have q1 := HDB.cell (i := 1) rfl
  have y0 := HY.cell (i := 0) rfl
  have y1 := HY.cell (i := 1) rfl
  have y2 := HY.cell (i := 2) rfl
  clear hw1 hw2 hb1 hb2 HDB HY hs1
  go_enter Try.func22, Try.ntmps22
  go_upto_region 2 with fail
  rw [← HW2.out]
  clear HW2
  go_wp2_with (refine wpList_store_blk rfl 28 _ _ rfl (w.heap.size + 1) _ #[.int .u64 0, .int .u32 0, .slice none 0 0] rfl rfl HX.out rfl man_size (man_one _ _ _ _ _) ?_
               intro w7 hb7 ho7
               have HB7 := Lib.hid (show Blk w7 (w.heap.size + 1) [.int .u64 0, .int .u32 0, .slice none 0 0] from hb7)
               have HO7 := Lib.hid ho7
               clear hb7 ho7)
  have r0 := HB7.out.cell (i := 0) rfl
  have r1 := HB7.out.cell (i := 1) rfl
  have r2 := HB7.out.cell (i := 2) rfl
  refine bodyPost_ret (v := .tuple #[mval 0 0 none 0 0, .int .i64 1]) (by simp [results, Try.results22, go_sem, r0, r1, r2, mval]) rfl ?_
  exact ⟨HB.out.trans (HO7.out.below (B := w.heap.size) (fun k _ hk => by omega) HB.out.size), none, 0, 0, rfl, ManAt.none _ _⟩
set_option maxRecDepth 100000 in
theorem rread_off {own : Nat → Prop} {w : World} {m : RefM} {Am Aw : Option Addr} {nm cm nw cw : Nat} (hs : ¬ m.count ≤ 32) (hoff : m.off = true) :
    Calls Try.prog 22 #[.agg #[.int .i64 (m.count : Int), .bool m.off, .int .i64 m.fuse, .slice Am nm cm, .slice Aw nw cw]] w (RdPost w (noMan, 6)) := by
  obtain ⟨q, hq⟩ : ∃ q, q = m.count := ⟨_, rfl⟩
  obtain ⟨o, ho⟩ : ∃ o, o = m.off := ⟨_, rfl⟩
  rw [← hq, ← ho]
  rw [← hq] at hs
  rw [hoff] at ho; subst ho; clear hoff
  generalize m.fuse = fu
  clear hq
  obtain ⟨w1, hw1⟩ : ∃ w1, w1 = (w.alloc (.cells #[.int .i64 (q : Int), .bool true, .int .i64 fu, .slice Am nm cm, .slice Aw nw cw] 51)) := ⟨_, rfl⟩
  obtain ⟨w2, hw2⟩ : ∃ w2, w2 = (w1.alloc (.cells #[.int .u64 0, .int .u32 0, .slice none 0 0] 28)).alloc (.cells #[.int .u64 0, .int .u32 0, .slice none 0 0] 28) := ⟨_, rfl⟩
  have HW2 := Lib.hid (show w2 = _ from hw1 ▸ hw2)
  have hb1 : Below w.heap.size w w1 := by rw [hw1]; exact (Below.refl _ _).alloc (Nat.le_refl _) _
  have hb2 : Below w1.heap.size w1 w2 := by rw [hw2]; exact ((Below.refl _ _).alloc (Nat.le_refl _) _).alloc (by simp) _
  have hs1 : w1.heap.size = w.heap.size + 1 := by rw [hw1]; simp
  have HB := Lib.hid (hb1.trans (hb2.mono hb1.size))
  have HDB := (show Blk w2 w.heap.size [.int .i64 (q : Int), .bool true, .int .i64 fu, .slice Am nm cm, .slice Aw nw cw] by
    have : Blk w1 w.heap.size [.int .i64 (q : Int), .bool true, .int .i64 fu, .slice Am nm cm, .slice Aw nw cw] := by rw [hw1]; exact Blk.new w [.int .i64 (q : Int), .bool true, .int .i64 fu, .slice Am nm cm, .slice Aw nw cw] _
    exact this.past hb2)
  have HX := Lib.hid (show Blk w2 (w.heap.size + 1) [.int .u64 0, .int .u32 0, .slice none 0 0] by rw [hw2]; exact (Blk.new' w1 [.int .u64 0, .int .u32 0, .slice none 0 0] _ hs1).alloc _)
  have HY := (show Blk w2 (w.heap.size + 2) [.int .u64 0, .int .u32 0, .slice none 0 0] by rw [hw2]; exact Blk.new' _ [.int .u64 0, .int .u32 0, .slice none 0 0] _ (by simp [hs1]))
  have q0 := HDB.cell (i := 0) rfl
  have q1 := HDB.cell (i := 1) rfl
  have y0 := HY.cell (i := 0) rfl
  have y1 := HY.cell (i := 1) rfl
  have y2 := HY.cell (i := 2) rfl
  clear hw1 hw2 hb1 hb2 HDB HY hs1
  go_enter Try.func22, Try.ntmps22
  go_upto_region 2 with fail
  rw [← HW2.out]
  clear HW2
  go_wp2_with (refine wpList_store_blk rfl 28 _ _ rfl (w.heap.size + 1) _ #[.int .u64 0, .int .u32 0, .slice none 0 0] rfl rfl HX.out rfl man_size (man_one _ _ _ _ _) ?_
               intro w7 hb7 ho7
               have HB7 := Lib.hid (show Blk w7 (w.heap.size + 1) [.int .u64 0, .int .u32 0, .slice none 0 0] from hb7)
               have HO7 := Lib.hid ho7
               clear hb7 ho7)
  have r0 := HB7.out.cell (i := 0) rfl
  have r1 := HB7.out.cell (i := 1) rfl
  have r2 := HB7.out.cell (i := 2) rfl
  refine bodyPost_ret (v := .tuple #[mval 0 0 none 0 0, .int .i64 6]) (by simp [results, Try.results22, go_sem, r0, r1, r2, mval]) rfl ?_
  exact ⟨HB.out.trans (HO7.out.below (B := w.heap.size) (fun k _ hk => by omega) HB.out.size), none, 0, 0, rfl, ManAt.none _ _⟩
end Go.Proofs.Ytcnmamdfiicdaaa
