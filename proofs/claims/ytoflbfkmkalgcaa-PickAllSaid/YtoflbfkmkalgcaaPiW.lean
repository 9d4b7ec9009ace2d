/- The example of layer 17. -/
import Derived.Test.YtoflbfkmkalgcaaPiB
namespace Go.Proofs.Ytoflbfkmkalgcaa
open Go.RowKit Me Va Al

set_option maxRecDepth 100000 in
set_option maxHeartbeats 2000000 in
theorem awake17_any (w : World) : Calls Try.prog 8 #[] w fun e w' => e = .returned (.bool true) ∧ Below w.heap.size w w' := by
  obtain ⟨w1, hw1⟩ : ∃ w1, w1 = w.alloc (.cells #[.int .u32 1, .int .u32 1, .int .u32 2, .int .u32 3] 44) := ⟨_, rfl⟩
  obtain ⟨w2, hw2⟩ : ∃ w2, w2 = w1.alloc (.cells #[.int .u64 2, .int .u32 1, .int .u64 4, .int .u32 1] 46) := ⟨_, rfl⟩
  have hb1 : Below w.heap.size w w1 := by rw [hw1]; exact (Below.refl _ _).alloc (Nat.le_refl _) _
  have hb2 : Below w1.heap.size w1 w2 := by rw [hw2]; exact (Below.refl _ _).alloc (Nat.le_refl _) _
  have hz1 : w1.heap.size = w.heap.size + 1 := by rw [hw1]; simp
  have hz2 : w2.heap.size = w.heap.size + 2 := by rw [hw2, World.size_alloc, hz1]
  have ha : Arcs w2 w2.heap.size (some ⟨w.heap.size, 0, none⟩) [⟨1, 1⟩, ⟨2, 3⟩] := by
    have h : Arcs w1 w1.heap.size (some ⟨w.heap.size, 0, none⟩) [⟨1, 1⟩, ⟨2, 3⟩] := by
      rw [hz1, hw1]
      exact ⟨Cs.lit w _ _, fun p hp => by simp at hp; rcases hp with rfl | rfl <;> exact ⟨by decide, by decide⟩⟩
    exact (h.below hb2).more hb2.size
  have hc : Cels w2 w2.heap.size (some ⟨w.heap.size + 1, 0, none⟩) [⟨2, 1⟩, ⟨4, 1⟩] := by
    rw [hz2, ← hz1, hw2]
    have h := Cs.lit w1 #[.int .u64 2, .int .u32 1, .int .u64 4, .int .u32 1] 46
    refine ⟨h.more (by omega), fun p hp => by simp at hp; rcases hp with rfl | rfl <;> exact ⟨by decide, by decide⟩⟩
  have hbw : Below w.heap.size w w2 := hb1.trans (hb2.mono hb1.size)
  have HBW := Lib.hid hbw
  have HA1 := Lib.hid (fun W (hW : Below w2.heap.size w2 W) => alias_any (some ⟨w.heap.size, 0, none⟩) 2 2 [⟨1, 1⟩, ⟨2, 3⟩] (some ⟨w.heap.size + 1, 0, none⟩) 2 2 [⟨2, 1⟩, ⟨4, 1⟩] 1 W rfl (by omega) rfl (by omega) (by omega) ((ha.below hW).more hW.size) ((hc.below hW).more hW.size))
  have HA2 := Lib.hid (fun W (hW : Below w2.heap.size w2 W) => alias_any (some ⟨w.heap.size, 0, none⟩) 2 2 [⟨1, 1⟩, ⟨2, 3⟩] (some ⟨w.heap.size + 1, 0, none⟩) 2 2 [⟨2, 1⟩, ⟨4, 1⟩] 2 W rfl (by omega) rfl (by omega) (by omega) ((ha.below hW).more hW.size) ((hc.below hW).more hW.size))
  have HT := Lib.hid (fun W (hW : Below w2.heap.size w2 W) => ptotal_any (some ⟨w.heap.size, 0, none⟩) 2 2 [⟨1, 1⟩, ⟨2, 3⟩] W rfl (by omega) ((ha.below hW).more hW.size))
  rw [show selN [⟨1, 1⟩, ⟨2, 3⟩] [⟨2, 1⟩, ⟨4, 1⟩] 1 = 0 from by decide, show selB [⟨1, 1⟩, ⟨2, 3⟩] [⟨2, 1⟩, ⟨4, 1⟩] 1 = true from by decide] at HA1
  rw [show selN [⟨1, 1⟩, ⟨2, 3⟩] [⟨2, 1⟩, ⟨4, 1⟩] 2 = 1 from by decide, show selB [⟨1, 1⟩, ⟨2, 3⟩] [⟨2, 1⟩, ⟨4, 1⟩] 2 = true from by decide] at HA2
  rw [show totalOf [⟨1, 1⟩, ⟨2, 3⟩] = 8 from by decide] at HT
  have HW1 := Lib.hid hw1
  have HW2 := Lib.hid hw2
  clear hw1 hw2 hb1 hb2 hz1 hz2 ha hc hbw
  go_enter Try.func8, Try.ntmps8
  go_wp2_with fail
  rw [← HW1.out, ← HW2.out]
  refine (HA1.out w2 (Below.refl _ _)).mono ?_
  rintro e w3 ⟨rfl, hb3⟩
  have HB3 := Lib.hid hb3
  clear hb3
  go_wp2_with fail
  refine (HA2.out w3 HB3.out).mono ?_
  rintro e w4 ⟨rfl, hb4⟩
  have HB4 := Lib.hid (HB3.out.trans (hb4.mono HB3.out.size))
  clear hb4
  go_wp2_with fail
  refine (HT.out w4 HB4.out).mono ?_
  rintro e w5 ⟨rfl, hb5⟩
  have HB5 := Lib.hid (HB4.out.trans (hb5.mono HB4.out.size))
  clear hb5
  go_wp2
  go_ret
  exact ⟨rfl, HBW.out.trans (HB5.out.mono HBW.out.size)⟩
end Go.Proofs.Ytoflbfkmkalgcaa
