/- Bytes with their sum, the document's. -/
import Derived.Test.YtgnghalcihoaaaaMark
namespace Go.Proofs.Ytgnghalcihoaaaa
open Go.RowKit Cr Me

set_option maxRecDepth 100000 in
set_option maxHeartbeats 400000 in
theorem ref_mark_any (A : Option Addr) (n c : Nat) (l : List UInt8) (w : World) (hl : l.length = n) (hn : n ≤ 70368744177664) (hr : Rd w w.heap.size A l) :
    Calls Try.prog 89 #[.slice A n c] w fun e w' => ∃ v, e = .returned v ∧ w'.ownsRow w.heap.size 5 1 v (n + 4) (cellsOf (Cr.mark l)) ∧ Below w.heap.size w w' := by
  obtain ⟨i0, hi0, hz0, hz1, hz2⟩ := info_parts u8_info
  have hb0 : Below w.heap.size w (w.alloc (.cells #[] 5)) := (Below.refl _ _).alloc (Nat.le_refl _) _
  have HL := Lib.hid hl
  have HR := Lib.hid hr
  have HB0 := Lib.hid hb0
  clear hl hr hb0
  go_enter Try.func89, Try.ntmps89
  go_wp2_with (first
    | (at_builtin
       refine wpList_app rfl (.tmp 4) (.tmp 5) 22 rfl w.heap.size 5 i0 _ Try.underlying22 hi0 hz0 hz1 hz2 rfl (.slice (some ⟨w.heap.size, 0, none⟩) 0 0) 0 [] rfl (own_empty w _ _ (Nat.le_refl _)) w.heap.size A n c l rfl HL.out (HR.out.below HB0.out) (by omega) HB0.out.size ?_
       intro v2 w3 hown2 hg2 hat2
       have HB3 := Lib.hid (below_app HB0.out (own_empty w _ _ (Nat.le_refl _)) (Nat.le_refl _) HB0.out.size hg2)
       have HW2 := Lib.hid hown2
       clear hat2 hg2 hown2)
    | fail)
  refine (ref_sum_any A n c l w3 w.heap.size HL.out (by omega) (HR.out.below HB3.out)).mono ?_
  rintro e w' ⟨rfl, rfl⟩
  obtain ⟨r, hr⟩ : ∃ r, r = crc l := ⟨_, rfl⟩
  rw [← hr]
  have HC := Lib.hid hr
  clear hr
  go_wp2_with fail
  refine (ref_four_any _ _).mono ?_
  rintro e w4 ⟨rfl, hr4, hb4⟩
  have HR4 := Lib.hid hr4
  have HB4 := Lib.hid (HB3.out.trans (hb4.mono HB3.out.size))
  have HW4 := Lib.hid (own_below HW2.out hb4)
  clear hr4 hb4
  go_wp2_with (at_builtin
               refine wpList_app rfl (.tmp 7) (.tmp 10) 22 rfl w.heap.size 5 i0 _ Try.underlying22 hi0 hz0 hz1 hz2 rfl v2 (0 + n) ([] ++ l) rfl HW4.out w4.heap.size _ 4 4 (four r) rfl rfl HR4.out (by omega) HB4.out.size ?_
               intro v5 w5 hown5 hg5 hat5
               have HB5 := Lib.hid (below_app HB4.out HW4.out (Nat.le_refl _) HB4.out.size hg5)
               have HW5 := Lib.hid hown5
               clear hat5 hg5 hown5)
  go_ret
  refine ⟨v5, rfl, ?_, HB5.out⟩
  have := HW5.out
  rw [HC.out] at this
  simpa [Cr.mark] using this
end Go.Proofs.Ytgnghalcihoaaaa
