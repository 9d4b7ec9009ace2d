/- PickRemaps's law. -/
import Derived.Test.YtoflbfkmkalgcaaPiF
import Derived.Test.YtoflbfkmkalgcaaPiS
import Derived.Test.YtoflbfkmkalgcaaPiW
namespace Go.Proofs.Ytoflbfkmkalgcaa
open Go.RowKit Me Va Al

set_option maxRecDepth 100000 in
set_option maxHeartbeats 4000000 in
theorem pickRemaps_law (L : Option Addr) (n c : Nat) (l : List ArcD) (A : Option Addr) (m cT : Nat) (T : List CelD) (x : Nat) (w : World) (hl : l.length = n) (hnc : n ≤ c) (hr : Arcs w w.heap.size L l) (hm : T.length = m) (hc : Cels w w.heap.size A T) (hx : x < 18446744073709551616) :
    Calls Try.prog 3 #[.slice L n c, .slice A m cT, .int .u64 (x : Int)] w fun e w' => e = .returned (.bool true) ∧ Below w.heap.size w w' := by
  have HAW := Lib.hid awake17_any
  by_cases h100 : 100 < n
  · have h100' : (100 : Int) < (n : Int) := by omega
    clear hl hr hm hc
    go_enter Try.func3, Try.ntmps3
    go_wp2_with fail
    refine (HAW.out _).mono ?_
    rintro e w1 ⟨rfl, hb1⟩
    go_wp2
    go_ret
    exact ⟨rfl, hb1⟩
  have h100' : ¬ (100 : Int) < (n : Int) := by omega
  by_cases h101 : 100 < m
  · have h101' : (100 : Int) < (m : Int) := by omega
    clear hl hr hm hc
    go_enter Try.func3, Try.ntmps3
    go_wp2_with fail
    refine (HAW.out _).mono ?_
    rintro e w1 ⟨rfl, hb1⟩
    go_wp2
    go_ret
    exact ⟨rfl, hb1⟩
  have h101' : ¬ (100 : Int) < (m : Int) := by omega
  obtain ⟨t, ht⟩ : ∃ t, t = totalOf l := ⟨_, rfl⟩
  have htl := total_lt (l := l) (by omega)
  rw [← ht] at htl
  have HT := Lib.hid (show ∀ W, Below w.heap.size w W → Calls Try.prog 11 #[.slice L n c] W (fun e W' => e = .returned (.int .u64 (t : Int)) ∧ Below W.heap.size W W') from fun W hW => by rw [ht]; exact reftotal_any L n c l W hl (by omega) ((hr.below hW).more hW.size))
  have HMY := Lib.hid (show ∀ W, Below w.heap.size w W → Calls Try.prog 12 #[.slice L n c, .slice A m cT] W (fun e W' => e = .returned (.bool (mayT l T)) ∧ Below W.heap.size W W') from fun W hW => refmayT_any L n c l A m cT T W hl (by omega) hm (by omega) ((hr.below hW).more hW.size) ((hc.below hW).more hW.size))
  by_cases hrb : rmB l T x = true
  · have hrb2 := hrb
    unfold rmB at hrb2
    rw [Bool.and_eq_true] at hrb2
    obtain ⟨hmy, hxt⟩ := hrb2
    replace hxt := of_decide_eq_true hxt
    have hg := (mayT_parts hmy).1
    obtain ⟨i, hi⟩ := ivl_of (l := l) (y := x) (by rw [← total_good hg]; exact hxt)
    obtain ⟨z, hz1, -, hz2⟩ := rmp_onto hmy hi
    rw [← total_good hg] at hz1
    obtain ⟨y, hy⟩ : ∃ y, y = rmp l T x := ⟨_, rfl⟩
    rw [hmy] at HMY
    have HRM := Lib.hid (show ∀ W, Below w.heap.size w W → Calls Try.prog 9 #[.slice L n c, .slice A m cT, .int .u64 (x : Int)] W (fun e W' => e = .returned (.tuple #[.int .u64 (y : Int), .bool true]) ∧ Below W.heap.size W W') from fun W hW => by rw [hy]; exact remap_yes L n c l A m cT T x W hl (by omega) hnc hm ((hr.below hW).more hW.size) ((hc.below hW).more hW.size) hmy hxt)
    have HBK := Lib.hid (show ∀ W, Below w.heap.size w W → Calls Try.prog 10 #[.slice L n c, .slice A m cT, .int .u64 (x : Int)] W (fun e W' => e = .returned (.tuple #[.int .u64 (z : Int), .bool true]) ∧ Below W.heap.size W W') from fun W hW => back_yes L n c l A m cT T z x W hl (by omega) hnc hm ((hr.below hW).more hW.size) ((hc.below hW).more hW.size) hmy hz1 hz2.symm)
    have HRR := Lib.hid (show ∀ W, Below w.heap.size w W → Calls Try.prog 13 #[.slice L n c, .slice A m cT, .int .u64 (x : Int)] W (fun e W' => e = .returned (.int .u64 (y : Int)) ∧ Below W.heap.size W W') from fun W hW => by rw [hy]; exact refremap_any L n c l A m cT T x W hl (by omega) hnc hm ((hr.below hW).more hW.size) ((hc.below hW).more hW.size) hmy hxt)
    have hxt2 : ¬ (t : Int) ≤ (x : Int) := by rw [ht]; omega
    clear hl hr hm hc hmy hxt hg hi hz1 hz2 hy hrb ht
    go_enter Try.func3, Try.ntmps3
    go_wp2_with fail
    refine (HRM.out w (Below.refl _ _)).mono ?_
    rintro e w1 ⟨rfl, hb1⟩
    have HB1 := Lib.hid hb1
    clear hb1
    go_wp2_with fail
    refine (HBK.out w1 HB1.out).mono ?_
    rintro e w2 ⟨rfl, hb2⟩
    have HB2 := Lib.hid (HB1.out.trans (hb2.mono HB1.out.size))
    clear hb2
    go_wp2_with fail
    refine (HT.out w2 HB2.out).mono ?_
    rintro e w3 ⟨rfl, hb3⟩
    have HB3 := Lib.hid (HB2.out.trans (hb3.mono HB2.out.size))
    clear hb3
    go_wp2_with fail
    refine (HMY.out w3 HB3.out).mono ?_
    rintro e w4 ⟨rfl, hb4⟩
    have HB4 := Lib.hid (HB3.out.trans (hb4.mono HB3.out.size))
    clear hb4
    go_wp2_with fail
    refine (HRR.out w4 HB4.out).mono ?_
    rintro e w5 ⟨rfl, hb5⟩
    have HB5 := Lib.hid (HB4.out.trans (hb5.mono HB4.out.size))
    clear hb5
    go_wp2_with fail
    refine (HAW.out w5).mono ?_
    rintro e w6 ⟨rfl, hb6⟩
    have HB6 := Lib.hid (HB5.out.trans (hb6.mono HB5.out.size))
    clear hb6
    go_wp2
    go_ret
    exact ⟨rfl, HB6.out⟩
  · have hrf : rmB l T x = false := by cases h : rmB l T x with
      | false => rfl
      | true => exact absurd h hrb
    have HRM := Lib.hid (show ∀ W, Below w.heap.size w W → Calls Try.prog 9 #[.slice L n c, .slice A m cT, .int .u64 (x : Int)] W (fun e W' => e = .returned (.tuple #[.int .u64 0, .bool false]) ∧ Below W.heap.size W W') from fun W hW => remap_no L n c l A m cT T x W hl (by omega) hm (by omega) hx ((hr.below hW).more hW.size) ((hc.below hW).more hW.size) hrf)
    have HBK := Lib.hid (show ∀ W, Below w.heap.size w W → Calls Try.prog 10 #[.slice L n c, .slice A m cT, .int .u64 (x : Int)] W (fun e W' => e = .returned (.tuple #[.int .u64 0, .bool false]) ∧ Below W.heap.size W W') from fun W hW => back_no L n c l A m cT T x W hl (by omega) hm (by omega) hx ((hr.below hW).more hW.size) ((hc.below hW).more hW.size) hrf)
    by_cases hxt : x < t
    · have hmf : mayT l T = false := by
        unfold rmB at hrf
        rw [decide_eq_true (show x < totalOf l by rw [← ht]; exact hxt), Bool.and_true] at hrf
        exact hrf
      rw [hmf] at HMY
      have hxt2 : ¬ (t : Int) ≤ (x : Int) := by omega
      clear hl hr hm hc hmf hrf hrb ht
      go_enter Try.func3, Try.ntmps3
      go_wp2_with fail
      refine (HRM.out w (Below.refl _ _)).mono ?_
      rintro e w1 ⟨rfl, hb1⟩
      have HB1 := Lib.hid hb1
      clear hb1
      go_wp2_with fail
      refine (HBK.out w1 HB1.out).mono ?_
      rintro e w2 ⟨rfl, hb2⟩
      have HB2 := Lib.hid (HB1.out.trans (hb2.mono HB1.out.size))
      clear hb2
      go_wp2_with fail
      refine (HT.out w2 HB2.out).mono ?_
      rintro e w3 ⟨rfl, hb3⟩
      have HB3 := Lib.hid (HB2.out.trans (hb3.mono HB2.out.size))
      clear hb3
      go_wp2_with fail
      refine (HMY.out w3 HB3.out).mono ?_
      rintro e w4 ⟨rfl, hb4⟩
      have HB4 := Lib.hid (HB3.out.trans (hb4.mono HB3.out.size))
      clear hb4
      go_wp2_with fail
      refine (HAW.out w4).mono ?_
      rintro e w5 ⟨rfl, hb5⟩
      have HB5 := Lib.hid (HB4.out.trans (hb5.mono HB4.out.size))
      clear hb5
      go_wp2
      go_ret
      exact ⟨rfl, HB5.out⟩
    · have hxt2 : (t : Int) ≤ (x : Int) := by omega
      clear hl hr hm hc hrf hrb ht
      go_enter Try.func3, Try.ntmps3
      go_wp2_with fail
      refine (HRM.out w (Below.refl _ _)).mono ?_
      rintro e w1 ⟨rfl, hb1⟩
      have HB1 := Lib.hid hb1
      clear hb1
      go_wp2_with fail
      refine (HBK.out w1 HB1.out).mono ?_
      rintro e w2 ⟨rfl, hb2⟩
      have HB2 := Lib.hid (HB1.out.trans (hb2.mono HB1.out.size))
      clear hb2
      go_wp2_with fail
      refine (HT.out w2 HB2.out).mono ?_
      rintro e w3 ⟨rfl, hb3⟩
      have HB3 := Lib.hid (HB2.out.trans (hb3.mono HB2.out.size))
      clear hb3
      go_wp2_with fail
      refine (HAW.out w3).mono ?_
      rintro e w4 ⟨rfl, hb4⟩
      have HB4 := Lib.hid (HB3.out.trans (hb4.mono HB3.out.size))
      clear hb4
      go_wp2
      go_ret
      exact ⟨rfl, HB4.out⟩
end Go.Proofs.Ytoflbfkmkalgcaa
