/- palmerref12.Line, palmerref12.Print: the document's lines of edges. -/
import Derived.Test.YtbedepnmgnlijaaDoorEdG
import Derived.Test.YtbedepnmgnlijaaDoorTxM
import Derived.RegionTactic
namespace Go.Proofs.YtbedepnmgnlijaaDoor
open Go.RowKit Me Tx Ed Go.Shelf Go.Lib

/-- What is known of each slot of the region that makes a line. -/
def liG (H x0 x1 x2 : Nat) (y0 y1 y2 z7 z12 z13 z18 z19 : List UInt8) : Gw.Fact := fun s v _ =>
  match s with
  | 1 | 3 => v = .pointer (some ⟨H, 0, none⟩)
  | 4 => v = .int .u32 (x0 : Int)
  | 5 => v = .int .u64 (x0 : Int)
  | 6 => v = sv y0
  | 7 => v = sv z7
  | 8 => v = .pointer (some ⟨H, 1, none⟩)
  | 9 => v = .int .u32 (x1 : Int)
  | 10 => v = .int .u64 (x1 : Int)
  | 11 => v = sv y1
  | 12 => v = sv z12
  | 13 => v = sv z13
  | 14 => v = .pointer (some ⟨H, 2, none⟩)
  | 15 => v = .int .u32 (x2 : Int)
  | 16 => v = .int .u64 (x2 : Int)
  | 17 => v = sv y2
  | 18 => v = sv z18
  | 19 | 2 => v = sv z19
  | _ => True
theorem cat_any (a b c : List UInt8) (hc : c = a ++ b) (ha : a.length ≤ 1000) (hb : b.length ≤ 1000) (W : World) : (Op.stringOp .add ⟨a.toArray⟩ ⟨b.toArray⟩).run Tryd.prog W = .ok (.string ⟨c.toArray⟩) W := by
  subst hc
  exact run_string_add_lists W a b (by omega) (by omega)
set_option maxRecDepth 100000 in
set_option maxHeartbeats 1000000 in
theorem line_any (e : EdD) (he : Fits e) (w : World) :
    Calls Tryd.prog 18 #[Ed.agg e] w fun r w' => r = .returned (sv (lineS e ++ [10])) ∧ Below w.heap.size w w' := by
  obtain ⟨x0, x1, x2⟩ := e
  obtain ⟨g0, g1, g2⟩ := he
  simp only at g0 g1 g2
  obtain ⟨W0, hW0⟩ : ∃ W0, w.alloc (.cells #[.int .u32 (x0 : Int), .int .u32 (x1 : Int), .int .u32 (x2 : Int)] 25) = W0 := ⟨_, rfl⟩
  have c0 : Blk W0 w.heap.size [.int .u32 (x0 : Int), .int .u32 (x1 : Int), .int .u32 (x2 : Int)] := by rw [← hW0]; exact Blk.new w [.int .u32 (x0 : Int), .int .u32 (x1 : Int), .int .u32 (x2 : Int)] _
  have hb0 : Below w.heap.size w W0 := by rw [← hW0]; exact (Below.refl _ w).alloc (Nat.le_refl _) _
  obtain ⟨y0, hy0⟩ : ∃ y, y = putN x0 := ⟨_, rfl⟩
  obtain ⟨y1, hy1⟩ : ∃ y, y = putN x1 := ⟨_, rfl⟩
  obtain ⟨y2, hy2⟩ : ∃ y, y = putN x2 := ⟨_, rfl⟩
  have l0 : y0.length ≤ 20 := by rw [hy0]; exact putN_length (by omega)
  have l1 : y1.length ≤ 20 := by rw [hy1]; exact putN_length (by omega)
  have l2 : y2.length ≤ 20 := by rw [hy2]; exact putN_length (by omega)
  obtain ⟨z7, hz7⟩ : ∃ z, z = y0 ++ [32] := ⟨_, rfl⟩
  obtain ⟨z12, hz12⟩ : ∃ z, z = z7 ++ y1 := ⟨_, rfl⟩
  obtain ⟨z13, hz13⟩ : ∃ z, z = z12 ++ [32] := ⟨_, rfl⟩
  obtain ⟨z18, hz18⟩ : ∃ z, z = z13 ++ y2 := ⟨_, rfl⟩
  obtain ⟨z19, hz19⟩ : ∃ z, z = z18 ++ [10] := ⟨_, rfl⟩
  have k7 : z7.length ≤ 21 := by rw [hz7, List.length_append]; simp; omega
  have k12 : z12.length ≤ 41 := by rw [hz12, List.length_append]; omega
  have k13 : z13.length ≤ 42 := by rw [hz13, List.length_append]; simp; omega
  have k18 : z18.length ≤ 62 := by rw [hz18, List.length_append]; omega
  have q7 : ∀ W, (Op.stringOp .add ⟨y0.toArray⟩ ⟨#[32]⟩).run Tryd.prog W = .ok (.string ⟨z7.toArray⟩) W := cat_any y0 [32] z7 hz7 (by omega) (by decide)
  have q12 : ∀ W, (Op.stringOp .add ⟨z7.toArray⟩ ⟨y1.toArray⟩).run Tryd.prog W = .ok (.string ⟨z12.toArray⟩) W := cat_any z7 y1 z12 hz12 (by omega) (by omega)
  have q13 : ∀ W, (Op.stringOp .add ⟨z12.toArray⟩ ⟨#[32]⟩).run Tryd.prog W = .ok (.string ⟨z13.toArray⟩) W := cat_any z12 [32] z13 hz13 (by omega) (by decide)
  have q18 : ∀ W, (Op.stringOp .add ⟨z13.toArray⟩ ⟨y2.toArray⟩).run Tryd.prog W = .ok (.string ⟨z18.toArray⟩) W := cat_any z13 y2 z18 hz18 (by omega) (by omega)
  have q19 : ∀ W, (Op.stringOp .add ⟨z18.toArray⟩ ⟨#[10]⟩).run Tryd.prog W = .ok (.string ⟨z19.toArray⟩) W := cat_any z18 [10] z19 hz19 (by omega) (by decide)
  have HEQ := Lib.hid (show lineS ⟨x0, x1, x2⟩ ++ [10] = z19 by
    rw [hz19, hz18, hz13, hz12, hz7, hy0, hy1, hy2]; unfold lineS; simp)
  have P0 := Lib.hid (fun W : World => rput_any x0 W (by omega))
  have P1 := Lib.hid (fun W : World => rput_any x1 W (by omega))
  have P2 := Lib.hid (fun W : World => rput_any x2 W (by omega))
  rw [← hy0] at P0
  rw [← hy1] at P1
  rw [← hy2] at P2
  have m0 : IntKind.u64.wrap (x0 : Int) = (x0 : Int) := IntWalk.u64_in _ (by omega)
  have m1 : IntKind.u64.wrap (x1 : Int) = (x1 : Int) := IntWalk.u64_in _ (by omega)
  have m2 : IntKind.u64.wrap (x2 : Int) = (x2 : Int) := IntWalk.u64_in _ (by omega)
  have HC := Lib.hid (And.intro c0 hb0)
  have HW0 := Lib.hid hW0
  rw [HEQ.out]
  clear l0 l1 l2 hz7 hz12 hz13 hz18 hz19 k7 k12 k13 k18 hy0 hy1 hy2 c0 hb0 hW0 g0 g1 g2
  go_enter Tryd.func18, Tryd.ntmps18
  go_wp2_with fail
  rw [HW0.out]
  refine Gw.wp_region_grow (liG w.heap.size x0 x1 x2 y0 y1 y2 z7 z12 z13 z18 z19) [3, 4, 5, 6, 7, 8, 9, 10, 11, 12, 13, 14, 15, 16, 17, 18, 19, 2] [([1], none), ([3], none), ([4], none), ([5], none), ([6], none), ([1], none), ([8], none), ([9], none), ([10], none), ([7, 11], none), ([12], none), ([1], none), ([14], none), ([15], none), ([16], none), ([13, 17], none), ([18], none), ([19], none)] 20 (by kernel_rfl) (by kernel_rfl) rfl ?h0 ?hreq ?hend
  case h0 =>
    intro t W hnd _
    unfold liG
    split <;> first | rfl | trivial | exact absurd (by simp) hnd
  case hreq =>
    refine ⟨?_, ?_, ?_, ?_, ?_, ?_, ?_, ?_, ?_, ?_, ?_, ?_, ?_, ?_, ?_, ?_, ?_, ?_, trivial⟩
    all_goals
      intro ac W hg hk
      have hbg : Below W0.heap.size W0 W := hg
      obtain ⟨e0, e1, e2, -, -, -⟩ := blk3 (HC.out.1.past hbg)
      simp only [Gw.Knows, liG] at hk
      try (simp [go_sem, Gw.OpReq, Gw.Ok, Gw.Post, Gw.Holds, liG, Gw.Grows.refl, hk, e0, e1, e2, q7, q12, q13, q18, q19, m0, m1, m2]; done)
    · simp [go_sem, Gw.OpReq, Gw.Ok, Gw.Post, Gw.Holds, liG, Gw.Grows.refl, hk]
      refine (P0.out W).mono ?_
      rintro e w5 ⟨rfl, hb5⟩
      exact ⟨_, rfl, hb5, fun _ _ => rfl⟩
    · simp [go_sem, Gw.OpReq, Gw.Ok, Gw.Post, Gw.Holds, liG, Gw.Grows.refl, hk]
      refine (P1.out W).mono ?_
      rintro e w5 ⟨rfl, hb5⟩
      exact ⟨_, rfl, hb5, fun _ _ => rfl⟩
    · simp [go_sem, Gw.OpReq, Gw.Ok, Gw.Post, Gw.Holds, liG, Gw.Grows.refl, hk]
      refine (P2.out W).mono ?_
      rintro e w5 ⟨rfl, hb5⟩
      exact ⟨_, rfl, hb5, fun _ _ => rfl⟩
  case hend =>
    intro x w' hg hx
    have h2 := (hx 2 (by simp)).now
    simp only [liG] at h2
    have HB2 := Lib.hid (HC.out.2.trans (Below.mono (show Below W0.heap.size W0 w' from hg) HC.out.2.size))
    clear hx hg
    simp only [Gw.putAll, Act.put, List.setIfInBounds_toArray, List.set_cons_zero, List.set_cons_succ]
    rw [h2]
    clear m0 m1 m2
    go_wp2
    go_ret
    exact ⟨rfl, HB2.out⟩
end Go.Proofs.YtbedepnmgnlijaaDoor
