/- The example of layer 16. -/
import Derived.Test.YtimladmphcipfaaAlB
namespace Go.Proofs.Ytimladmphcipfaa
open Go.RowKit Me Va Al

theorem example_tab {T : List CelD} (h : Tabl [⟨1, 1⟩, ⟨2, 3⟩] T) : T = [⟨2, 1⟩, ⟨4, 1⟩] := by
  refine h.one ⟨upd 4 (beg 4 [2, 6]) 0 1, ?_, ?_, rfl⟩
  · refine .cons (i := 0) (j := 1) ⟨by decide, by decide, fun k hk => by omega⟩ ⟨by decide, by decide, fun k hk => ?_⟩ (.nil _)
    have : k = 0 := by omega
    subst this
    decide
  · intro k hk
    have : k = 0 ∨ k = 1 := by
      have : k < 2 := hk
      omega
    rcases this with rfl | rfl <;> decide
theorem at_zero (x : Addr) : x.add 0 = x := by unfold Addr.add; simp
set_option maxRecDepth 100000 in
set_option maxHeartbeats 2000000 in
theorem awake16_any (w : World) : Calls Try.prog 8 #[] w fun e w' => e = .returned (.bool true) ∧ Below w.heap.size w w' := by
  have HA := Lib.hid (show Arcs (w.alloc (.cells #[.int .u32 1, .int .u32 1, .int .u32 2, .int .u32 3] 37)) (w.heap.size + 1) (some ⟨w.heap.size, 0, none⟩) [⟨1, 1⟩, ⟨2, 3⟩] from
    ⟨Cs.lit w _ _, fun p hp => by simp at hp; rcases hp with rfl | rfl <;> exact ⟨by decide, by decide⟩⟩)
  have HB := Lib.hid (show Below w.heap.size w (w.alloc (.cells #[.int .u32 1, .int .u32 1, .int .u32 2, .int .u32 3] 37)) from (Below.refl _ _).alloc (Nat.le_refl _) _)
  go_enter Try.func8, Try.ntmps8
  go_wp2_with fail
  refine (build_yes (some ⟨w.heap.size, 0, none⟩) 2 2 [⟨1, 1⟩, ⟨2, 3⟩] _ rfl (by omega) (HA.out.more (by simp)) (by decide)).mono ?_
  rintro e w1 ⟨a, c, T, rfl, ht, hT, hb⟩
  have hT2 := example_tab hT
  subst hT2
  have HB1 := Lib.hid (HB.out.trans (hb.mono HB.out.size))
  obtain ⟨x, e0, r0, r1, -, -, -, -⟩ := ht.get (i := 0) (by omega)
  obtain ⟨y, e1, s0, s1, -, -, -, -⟩ := ht.get (i := 1) (by omega)
  injection e0 with e0
  subst e0
  injection e1 with e1
  subst e1
  rw [Nat.zero_mul, at_zero] at r0 r1
  rw [Nat.one_mul] at s0 s1
  have ha2 : a.add 2 = ⟨a.block, a.off + 2, none⟩ := by unfold Addr.add; simp
  rw [ha2] at s0 s1
  dsimp only [fld] at r1 s1
  clear ha2
  clear ht hT hb
  go_wp2
  go_ret
  exact ⟨rfl, HB1.out⟩
end Go.Proofs.Ytimladmphcipfaa
