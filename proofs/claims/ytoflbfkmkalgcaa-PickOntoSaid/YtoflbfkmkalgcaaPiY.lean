/- PickOnto's law. -/
import Derived.Test.YtoflbfkmkalgcaaPiF
import Derived.Test.YtoflbfkmkalgcaaPiW
import Derived.Test.YtoflbfkmkalgcaaPiS
namespace Go.Proofs.Ytoflbfkmkalgcaa
open Go.RowKit Me Va Al

set_option maxRecDepth 100000 in
set_option maxHeartbeats 4000000 in
theorem pickOnto_law (L : Option Addr) (n c : Nat) (l : List ArcD) (A : Option Addr) (m cT : Nat) (T : List CelD) (y : Nat) (w : World) (hl : l.length = n) (hnc : n ≤ c) (hr : Arcs w w.heap.size L l) (hm : T.length = m) (hc : Cels w w.heap.size A T) (hx : y < 18446744073709551616) :
    Calls Try.prog 5 #[.slice L n c, .slice A m cT, .int .u64 (y : Int)] w fun e w' => e = .returned (.bool true) ∧ Below w.heap.size w w' := by
  have HAW := Lib.hid awake17_any
  by_cases h100 : 100 < n
  · have h100' : (100 : Int) < (n : Int) := by omega
    clear hl hr hm hc
    go_enter Try.func5, Try.ntmps5
    go_wp2_with fail
    refine (HAW.out _).mono ?_
    rintro e w1 ⟨rfl, hb1⟩
    go_wp2
    go_ret
    exact ⟨rfl, hb1⟩
  have h100' : ¬ (100 : Int) < (n : Int) := by omega
  by_cases h101 : 100 < m
  · have h101' : (100 : Int) < (m : Int) := by omega
    clear hl hr hm hc
    go_enter Try.func5, Try.ntmps5
    go_wp2_with fail
    refine (HAW.out _).mono ?_
    rintro e w1 ⟨rfl, hb1⟩
    go_wp2
    go_ret
    exact ⟨rfl, hb1⟩
  have h101' : ¬ (100 : Int) < (m : Int) := by omega
  obtain ⟨t, ht⟩ : ∃ t, t = totalOf l := ⟨_, rfl⟩
  have htl := total_lt (l := l) (by omega)
  rw [← ht] at htl
  have HT := Lib.hid (show ∀ W, Below w.heap.size w W → Calls Try.prog 11 #[.slice L n c] W (fun e W' => e = .returned (.int .u64 (t : Int)) ∧ Below W.heap.size W W') from fun W hW => by rw [ht]; exact reftotal_any L n c l W hl (by omega) ((hr.below hW).more hW.size))
  by_cases hyt : y < t
  · have hyt2 : ¬ (t : Int) ≤ (y : Int) := by omega
    obtain ⟨my, hmy⟩ : ∃ my, my = mayT l T := ⟨_, rfl⟩
    have HMY := Lib.hid (show ∀ W, Below w.heap.size w W → Calls Try.prog 12 #[.slice L n c, .slice A m cT] W (fun e W' => e = .returned (.bool my) ∧ Below W.heap.size W W') from fun W hW => by rw [hmy]; exact refmayT_any L n c l A m cT T W hl (by omega) hm (by omega) ((hr.below hW).more hW.size) ((hc.below hW).more hW.size))
    cases my with
    | false =>
      clear hl hr hm hc hmy ht
      go_enter Try.func5, Try.ntmps5
      go_wp2_with fail
      refine (HT.out w (Below.refl _ _)).mono ?_
      rintro e w1 ⟨rfl, hb1⟩
      have HB1 := Lib.hid hb1
      clear hb1
      go_wp2_with fail
      refine (HMY.out w1 HB1.out).mono ?_
      rintro e w2 ⟨rfl, hb2⟩
      have HB2 := Lib.hid (HB1.out.trans (hb2.mono HB1.out.size))
      clear hb2
      go_wp2_with fail
      refine (HAW.out w2).mono ?_
      rintro e w3 ⟨rfl, hb3⟩
      have HB3 := Lib.hid (HB2.out.trans (hb3.mono HB2.out.size))
      clear hb3
      go_wp2
      go_ret
      exact ⟨rfl, HB3.out⟩
    | true =>
      have hg := (mayT_parts hmy.symm).1
      obtain ⟨i, hi⟩ := ivl_of (l := l) (y := y) (by rw [← total_good hg, ← ht]; exact hyt)
      obtain ⟨x, hx1, hx2, hx3⟩ := rmp_onto hmy.symm hi
      have hsel := sel_may (x := x) hmy.symm (by rw [total_good hg]; exact hx1)
      rw [hx2] at hsel
      rw [← total_good hg] at hx1
      have HBK := Lib.hid (show ∀ W, Below w.heap.size w W → Calls Try.prog 10 #[.slice L n c, .slice A m cT, .int .u64 (y : Int)] W (fun e W' => e = .returned (.tuple #[.int .u64 (x : Int), .bool true]) ∧ Below W.heap.size W W') from fun W hW => back_yes L n c l A m cT T x y W hl (by omega) hnc hm ((hr.below hW).more hW.size) ((hc.below hW).more hW.size) hmy.symm hx1 hx3.symm)
      have HRM := Lib.hid (show ∀ W, Below w.heap.size w W → Calls Try.prog 9 #[.slice L n c, .slice A m cT, .int .u64 (x : Int)] W (fun e W' => e = .returned (.tuple #[.int .u64 (y : Int), .bool true]) ∧ Below W.heap.size W W') from fun W hW => by rw [← hx3]; exact remap_yes L n c l A m cT T x W hl (by omega) hnc hm ((hr.below hW).more hW.size) ((hc.below hW).more hW.size) hmy.symm hx1)
      have HAL := Lib.hid (show ∀ W, Below w.heap.size w W → Calls Try.prog 15 #[.slice L n c, .slice A m cT, .int .u64 (x : Int)] W (fun e W' => e = .returned (.tuple #[.int .i64 (i : Int), .bool true]) ∧ Below W.heap.size W W') from fun W hW => by have h := alias_any L n c l A m cT T x W hl (by omega) hm (by omega) (by omega) ((hr.below hW).more hW.size) ((hc.below hW).more hW.size); rwa [hsel.1, hsel.2] at h)
      have HIV := Lib.hid (show ∀ W, Below w.heap.size w W → Calls Try.prog 16 #[.slice L n c, .int .u64 (y : Int)] W (fun e W' => e = .returned (.tuple #[.int .i64 (i : Int), .bool true]) ∧ Below W.heap.size W W') from fun W hW => ivl_yes L n c y i l W hl (by omega) hg hi ((hr.below hW).more hW.size))
      have hxt : (x : Int) < (t : Int) := by rw [ht]; omega
      clear hl hr hm hc hmy ht hg hi hx1 hx2 hx3 hsel
      go_enter Try.func5, Try.ntmps5
      go_wp2_with fail
      refine (HT.out w (Below.refl _ _)).mono ?_
      rintro e w1 ⟨rfl, hb1⟩
      have HB1 := Lib.hid hb1
      clear hb1
      go_wp2_with fail
      refine (HMY.out w1 HB1.out).mono ?_
      rintro e w2 ⟨rfl, hb2⟩
      have HB2 := Lib.hid (HB1.out.trans (hb2.mono HB1.out.size))
      clear hb2
      go_wp2_with fail
      refine (HBK.out w2 HB2.out).mono ?_
      rintro e w3 ⟨rfl, hb3⟩
      have HB3 := Lib.hid (HB2.out.trans (hb3.mono HB2.out.size))
      clear hb3
      go_wp2_with fail
      refine (HRM.out w3 HB3.out).mono ?_
      rintro e w4 ⟨rfl, hb4⟩
      have HB4 := Lib.hid (HB3.out.trans (hb4.mono HB3.out.size))
      clear hb4
      go_wp2_with fail
      refine (HAL.out w4 HB4.out).mono ?_
      rintro e w5 ⟨rfl, hb5⟩
      have HB5 := Lib.hid (HB4.out.trans (hb5.mono HB4.out.size))
      clear hb5
      go_wp2_with fail
      refine (HIV.out w5 HB5.out).mono ?_
      rintro e w6 ⟨rfl, hb6⟩
      have HB6 := Lib.hid (HB5.out.trans (hb6.mono HB5.out.size))
      clear hb6
      go_wp2_with fail
      refine (HT.out w6 HB6.out).mono ?_
      rintro e w7 ⟨rfl, hb7⟩
      have HB7 := Lib.hid (HB6.out.trans (hb7.mono HB6.out.size))
      clear hb7
      go_wp2_with fail
      refine (HAW.out w7).mono ?_
      rintro e w8 ⟨rfl, hb8⟩
      have HB8 := Lib.hid (HB7.out.trans (hb8.mono HB7.out.size))
      clear hb8
      go_wp2
      go_ret
      exact ⟨rfl, HB8.out⟩
  · have hyt2 : (t : Int) ≤ (y : Int) := by omega
    clear hl hr hm hc ht
    go_enter Try.func5, Try.ntmps5
    go_wp2_with fail
    refine (HT.out w (Below.refl _ _)).mono ?_
    rintro e w1 ⟨rfl, hb1⟩
    have HB1 := Lib.hid hb1
    clear hb1
    go_wp2_with fail
    refine (HAW.out w1).mono ?_
    rintro e w2 ⟨rfl, hb2⟩
    have HB2 := Lib.hid (HB1.out.trans (hb2.mono HB1.out.size))
    clear hb2
    go_wp2
    go_ret
    exact ⟨rfl, HB2.out⟩
end Go.Proofs.Ytoflbfkmkalgcaa
