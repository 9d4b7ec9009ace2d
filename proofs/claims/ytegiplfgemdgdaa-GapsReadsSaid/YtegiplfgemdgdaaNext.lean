/- The next arc that is read, the program's. -/
import Derived.Test.YtegiplfgemdgdaaRdm
import Derived.Test.YtegiplfgemdgdaaSumA
namespace Go.Proofs.Ytegiplfgemdgdaa
open Go.RowKit Me Va

/-- What no further arc brings. -/
def noMore (l : List UInt8) : Int := if l.length = 0 then 2 else 9
theorem nofurther_any (g : Nat) (l : List UInt8) (x : Int) (w : World) (h : Rdr w g l x) :
    Calls Try.prog 33 #[.pointer (some ⟨g, 0, none⟩)] w fun e w' => e = .returned (.int .i64 (noMore l)) ∧ w = w' := by
  by_cases hl : l.length = 0
  · have d1 : ((l.length : Int) == 0) = true := by rw [beq_iff_eq]; omega
    have HP := Lib.hid (show noMore l = 2 by unfold noMore; rw [if_pos hl])
    have HH := Lib.hid h
    clear hl h
    go_enter Try.func33, Try.ntmps33
    go_wp2_with fail
    refine (left_any g l x w HH.out).mono ?_
    rintro e w' ⟨rfl, rfl⟩
    go_wp2
    go_ret
    exact ⟨ret_int HP.out.symm, rfl⟩
  · have d1 : ((l.length : Int) == 0) = false := by rw [beq_eq_false_iff_ne]; omega
    have HP := Lib.hid (show noMore l = 9 by unfold noMore; rw [if_neg hl])
    have HH := Lib.hid h
    clear hl h
    go_enter Try.func33, Try.ntmps33
    go_wp2_with fail
    refine (left_any g l x w HH.out).mono ?_
    rintro e w' ⟨rfl, rfl⟩
    go_wp2
    go_ret
    exact ⟨ret_int HP.out.symm, rfl⟩
theorem spoil_no (l : List UInt8) : spoil l 0 (noMore l) = ([], noMore l) := by
  unfold spoil noMore
  rw [if_neg]
  split <;> simp
set_option maxHeartbeats 1000000 in
theorem next_no (g : Nat) (l : List UInt8) (least sum : Nat) (w : World) (h : Rdr w g l 0) (hs : least = 4294967296 ∨ sum = 2147483647) :
    Calls Try.prog 27 #[.pointer (some ⟨g, 0, none⟩), .int .u64 (least : Int), .int .u64 (sum : Int)] w (Reads w g (.agg #[.int .u32 0, .int .u32 0]) [] (noMore l)) := by
  have hgl := h.here
  have HH := Lib.hid (h.alloc (.cells #[.int .u32 0, .int .u32 0] 49))
  have HG := Lib.hid (grown_alloc w (.cells #[.int .u32 0, .int .u32 0] 49) (some g))
  have HK := Lib.hid (heap_alloc_new w (.cells #[.int .u32 0, .int .u32 0] 49))
  have hway : ((least : Int) == 4294967296) = true ∨ (((least : Int) == 4294967296) = false ∧ ((sum : Int) == 2147483647) = true) := by
    by_cases e : least = 4294967296
    · exact .inl (by rw [beq_iff_eq]; omega)
    · exact .inr ⟨by rw [beq_eq_false_iff_ne]; omega, by rw [beq_iff_eq]; omega⟩
  clear h hs
  rcases hway with d1 | ⟨d1, d2⟩
  all_goals
    go_enter Try.func27, Try.ntmps27
    go_wp2_with fail
    refine (nofurther_any g l 0 _ HH.out).mono ?_
    rintro e w' ⟨rfl, rfl⟩
    go_wp2_with fail
    refine (bad_any g l 0 (noMore l) _ HH.out).mono ?_
    rw [spoil_no]
    rintro e w1 ⟨rfl, hr1, hg1⟩
    obtain ⟨q0, q1, q2, q3⟩ := block_two ((hg1.block w.heap.size (by simp) (by simp; omega)).trans HK.out)
    obtain ⟨z0, z1⟩ := cells_set (v := .int .u32 0) (v' := .int .u32 0) q0 q1
    have HR1 := Lib.hid hr1
    have HG1 := Lib.hid (HG.out.trans hg1)
    clear hr1 hg1
    go_wp2
    exact bodyPost_ret (v := .agg #[.int .u32 0, .int .u32 0]) (by simp [results, Try.results27, go_sem, z0, z1]) rfl
      ⟨rfl, (HR1.out.otherCell (p := ⟨w.heap.size, 0, none⟩) hgl _).otherCell (p := ⟨w.heap.size, 1, none⟩) hgl _, grown_set (grown_set HG1.out (p := ⟨w.heap.size, 0, none⟩) (Nat.le_refl _) _) (p := ⟨w.heap.size, 1, none⟩) (Nat.le_refl _) _⟩
set_option maxHeartbeats 1000000 in
theorem next_any (g : Nat) (l : List UInt8) (least sum : Nat) (w : World) (h : Rdr w g l 0) (hs : least < 4294967296) (hs2 : sum < 2147483647) (y z : Nat) (l1 l2 : List UInt8) (x1 x2 : Int)
    (h1 : numOf l 0 (4294967295 - least) = (y, l1, x1)) (h2 : numOf l1 x1 (2147483646 - sum) = (z, l2, x2)) (t u : Nat) (ht : t = least + y) (hu : u = z + 1) :
    Calls Try.prog 27 #[.pointer (some ⟨g, 0, none⟩), .int .u64 (least : Int), .int .u64 (sum : Int)] w (Reads w g (.agg #[.int .u32 (t : Int), .int .u32 (u : Int)]) l2 x2) := by
  have hgl := h.here
  have HH := Lib.hid (h.alloc (.cells #[.int .u32 0, .int .u32 0] 49))
  have HG := Lib.hid (grown_alloc w (.cells #[.int .u32 0, .int .u32 0] 49) (some g))
  have HK := Lib.hid (heap_alloc_new w (.cells #[.int .u32 0, .int .u32 0] 49))
  have d1 : ((least : Int) == 4294967296) = false := by rw [beq_eq_false_iff_ne]; omega
  have d2 : ((sum : Int) == 2147483647) = false := by rw [beq_eq_false_iff_ne]; omega
  obtain ⟨m1, hm1⟩ : ∃ m1, m1 = 4294967295 - least := ⟨_, rfl⟩
  obtain ⟨m2, hm2⟩ : ∃ m2, m2 = 2147483646 - sum := ⟨_, rfl⟩
  have hz1 : 4294967295 - (least : Int) = (m1 : Int) := by omega
  have hz2 : 2147483646 - (sum : Int) = (m2 : Int) := by omega
  have hy : y ≤ 4294967295 - least := by have := numOf_most l 0 (4294967295 - least); rw [h1] at this; exact this
  have hz : z ≤ 2147483646 - sum := by have := numOf_most l1 x1 (2147483646 - sum); rw [h2] at this; exact this
  rw [← hm1] at h1
  rw [← hm2] at h2
  have H1 := Lib.hid h1
  have H2 := Lib.hid h2
  clear h h1 h2 hm1 hm2
  have hc1 : (least : Int) + (y : Int) = (t : Int) := by omega
  have hc2 : (z : Int) + 1 = (u : Int) := by omega
  have ht1 : t < 4294967296 := by omega
  have hu1 : u < 4294967296 := by omega
  clear ht hu
  go_enter Try.func27, Try.ntmps27
  go_wp2_with fail
  refine (num_any g l 0 m1 _ HH.out).mono ?_
  rw [H1.out]
  rintro e w1 ⟨rfl, hr1, hg1⟩
  have hk1 := (hg1.block w.heap.size (by simp) (by simp; omega)).trans HK.out
  have hs1 : w.heap.size < w1.heap.size := Nat.lt_of_lt_of_le (by simp) hg1.size
  have HK1 := Lib.hid hk1
  have HR1 := Lib.hid hr1
  have HG1 := Lib.hid (HG.out.trans hg1)
  clear hr1 hg1 hk1 HK HG HH
  go_wp2_with fail
  refine (num_any g l1 x1 m2 w1 HR1.out).mono ?_
  rw [H2.out]
  rintro e w2 ⟨rfl, hr2, hg2⟩
  obtain ⟨q0, q1, q2, q3⟩ := block_two ((hg2.block w.heap.size hs1 (by simp; omega)).trans HK1.out)
  obtain ⟨z0, z1⟩ := cells_set (v := .int .u32 (t : Int)) (v' := .int .u32 (u : Int)) q0 q1
  have HR2 := Lib.hid hr2
  have HG2 := Lib.hid (HG1.out.trans hg2)
  clear hr2 hg2 HR1 HG1 HK1
  go_wp2
  exact bodyPost_ret (v := .agg #[.int .u32 (t : Int), .int .u32 (u : Int)]) (by simp [results, Try.results27, go_sem, z0, z1]) rfl
    ⟨rfl, (HR2.out.otherCell (p := ⟨w.heap.size, 0, none⟩) hgl _).otherCell (p := ⟨w.heap.size, 1, none⟩) hgl _, grown_set (grown_set HG2.out (p := ⟨w.heap.size, 0, none⟩) (Nat.le_refl _) _) (p := ⟨w.heap.size, 1, none⟩) (Nat.le_refl _) _⟩
end Go.Proofs.Ytegiplfgemdgdaa
