/- The document's Remap. -/
import Derived.Test.YtoflbfkmkalgcaaPiR
namespace Go.Proofs.Ytoflbfkmkalgcaa
open Go.RowKit Me Va Al

set_option maxRecDepth 100000 in
set_option maxHeartbeats 2000000 in
theorem refalias_yes (L : Option Addr) (n c : Nat) (l : List ArcD) (A : Option Addr) (cT : Nat) (T : List CelD) (x : Nat) (w : World) (hl : l.length = n) (hn : n ≤ 1000000) (hm : T.length = n) (hr : Arcs w w.heap.size L l) (hc : Cels w w.heap.size A T) (hmy : mayT l T = true) (hx : x < totalOf l) :
    Calls Try.prog 27 #[.slice L n c, .slice A n cT, .int .u64 (x : Int)] w fun e w' => e = .returned (.tuple #[.int .i64 (toOf T (sumOf l) x : Int), .bool true]) ∧ Below w.heap.size w w' := by
  obtain ⟨hg, hlen, hok, hcnt⟩ := mayT_parts hmy
  have htl := total_lt (l := l) (by omega)
  have hxn : x < l.length * sumOf l := by rw [← total_good hg]; exact hx
  have hk := toOf_lt (good_pos hg) hlen (fun c hc => (hok c hc).2) hxn
  have hS0 := good_pos hg
  have hS31 := may_sum (good_may hg).2
  have HT := Lib.hid (reftotal_any L n c l w hl hn hr)
  obtain ⟨S, hS⟩ : ∃ S, S = sumOf l := ⟨_, rfl⟩
  obtain ⟨t, ht⟩ : ∃ t, t = totalOf l := ⟨_, rfl⟩
  rw [← ht] at HT htl hx
  rw [← hS] at hS0 hS31 hxn hk ⊢
  rw [hl] at hxn hk
  have HSM := Lib.hid (show ∀ W, Below w.heap.size w W → Calls Try.prog 19 #[.slice L n c] W (fun e W' => e = .returned (.int .u64 (S : Int)) ∧ W = W') from fun W hW => by rw [hS]; exact refsum_any L n c l W hl (by omega) ((hr.below hW).more hW.size))
  have HTO := Lib.hid (show ∀ W, Below w.heap.size w W → Calls Try.prog 39 #[.slice A n cT, .int .u64 (S : Int), .int .u64 (x : Int)] W (fun e W' => e = .returned (.int .i64 (toOf T S x : Int)) ∧ Below W.heap.size W W') from fun W hW => refto_any A n cT T S x W hm hn hS0 hS31 (by omega) ((Nat.div_lt_iff_lt_mul hS0).2 hxn) ((hc.below hW).more hW.size))
  obtain ⟨k, hk1⟩ : ∃ k, k = toOf T S x := ⟨_, rfl⟩
  rw [← hk1] at HTO hk ⊢
  have hxt : ¬ (t : Int) ≤ (x : Int) := by omega
  have d0 : ((n : Int) != (n : Int)) = false := by simp
  have hkn : ¬ (n : Int) ≤ (k : Int) := by omega
  clear hl hm hr hc hmy hg hlen hok hcnt hS ht hxn hk1
  go_enter Try.func27, Try.ntmps27
  go_wp2_with fail
  refine HT.out.mono ?_
  rintro e w1 ⟨rfl, hb1⟩
  have HB1 := Lib.hid hb1
  clear hb1 HT
  go_wp2_with fail
  refine (HSM.out w1 HB1.out).mono ?_
  rintro e w2 ⟨rfl, rfl⟩
  go_wp2_with fail
  refine (HTO.out w1 HB1.out).mono ?_
  rintro e w2 ⟨rfl, hb2⟩
  have FIN := Lib.hid (HB1.out.trans (hb2.mono HB1.out.size))
  clear hb2
  go_wp2
  go_ret2
  exact ⟨rfl, FIN.out⟩
set_option maxRecDepth 100000 in
set_option maxHeartbeats 2000000 in
theorem refremap_any (L : Option Addr) (n c : Nat) (l : List ArcD) (A : Option Addr) (m cT : Nat) (T : List CelD) (x : Nat) (w : World) (hl : l.length = n) (hn : n ≤ 1000000) (hnc : n ≤ c) (hm : T.length = m) (hr : Arcs w w.heap.size L l) (hc : Cels w w.heap.size A T) (hmy : mayT l T = true) (hx : x < totalOf l) :
    Calls Try.prog 13 #[.slice L n c, .slice A m cT, .int .u64 (x : Int)] w fun e w' => e = .returned (.int .u64 (rmp l T x : Int)) ∧ Below w.heap.size w w' := by
  obtain ⟨hg, hlen, hok, hcnt⟩ := mayT_parts hmy
  have hmn : m = n := by rw [← hm, hlen, hl]
  subst hmn
  have htl := total_lt (l := l) (by omega)
  have hxn : x < l.length * sumOf l := by rw [← total_good hg]; exact hx
  have hiv := rmp_ivl hmy hxn
  have hyl := hiv.below
  rw [total_good hg] at htl
  have hk := hiv.lt
  have hS31 := may_sum (good_may hg).2
  have HAL := Lib.hid (refalias_yes L m c l A cT T x w hl hn hm hr hc hmy hx)
  obtain ⟨k, hk1⟩ : ∃ k, k = toOf T (sumOf l) x := ⟨_, rfl⟩
  have hrm : rmp l T x = strt l k + metN T (sumOf l) k x := by unfold rmp; rw [hk1]
  rw [← hk1] at HAL hk
  obtain ⟨y, hy⟩ : ∃ y, y = rmp l T x := ⟨_, rfl⟩
  rw [← hy] at hrm hyl ⊢
  have hsk := sumOf_take_le l k
  obtain ⟨S1, hS1⟩ : ∃ S1, S1 = sumOf (l.take k) := ⟨_, rfl⟩
  have HS1 := Lib.hid (show ∀ W, Below w.heap.size w W → Calls Try.prog 19 #[.slice L k c] W (fun e W' => e = .returned (.int .u64 (S1 : Int)) ∧ W = W') from fun W hW => by rw [hS1]; exact refsum_any L k c (l.take k) W (by rw [List.length_take]; omega) (by omega) (((hr.below hW).more hW.size).take k))
  obtain ⟨p1, hp1⟩ : ∃ p1, p1 = m * S1 := ⟨_, rfl⟩
  obtain ⟨p2, hp2⟩ : ∃ p2, p2 = metN T (sumOf l) k x := ⟨_, rfl⟩
  have hst : strt l k = p1 := by unfold strt; rw [hp1, hS1, hl]
  rw [hst, ← hp2] at hrm
  obtain ⟨S, hS⟩ : ∃ S, S = sumOf l := ⟨_, rfl⟩
  rw [← hS] at hS31 hsk hxn hyl htl hp2
  rw [← hS1] at hsk
  rw [hl] at hxn hk hyl htl
  have HSM := Lib.hid (show ∀ W, Below w.heap.size w W → Calls Try.prog 19 #[.slice L m c] W (fun e W' => e = .returned (.int .u64 (S : Int)) ∧ W = W') from fun W hW => by rw [hS]; exact refsum_any L m c l W hl (by omega) ((hr.below hW).more hW.size))
  have HBW := Lib.hid (show ∀ W, Below w.heap.size w W → Calls Try.prog 28 #[.slice A m cT, .int .u64 (S : Int), .int .i64 (k : Int), .int .u64 (x : Int)] W (fun e W' => e = .returned (.int .u64 (p2 : Int)) ∧ W' = W) from fun W hW => by rw [hp2]; exact refbelow_any A m cT T S k x W hm hn hS31 hk (by omega) (fun d hd => by rw [hS]; exact (hok d hd).1) ((hc.below hW).more hW.size))
  have e1 : (m : Int) * (S1 : Int) = (p1 : Int) := by rw [hp1]; exact (Int.natCast_mul _ _).symm
  have e2 : (p1 : Int) + (p2 : Int) = (y : Int) := by omega
  have v1 : IntKind.u64.wrap (m : Int) = (m : Int) := IntWalk.u64_in _ (by omega)
  have hp1l : p1 ≤ 2147483647000000 := by omega
  have hp2l : p2 ≤ 2147483647000000 := by omega
  have hyl2 : y ≤ 2147483647000000 := by omega
  have hkc : (k : Int) ≤ (c : Int) := by omega
  clear hl hm hr hc hmy hg hlen hok hcnt hx hxn hiv hk1 hrm hy hS1 hp1 hp2 hst hS
  go_enter Try.func13, Try.ntmps13
  go_wp2_with fail
  refine HAL.out.mono ?_
  rintro e w1 ⟨rfl, hb1⟩
  have HB1 := Lib.hid hb1
  clear hb1 HAL
  go_wp2_with fail
  refine (HS1.out w1 HB1.out).mono ?_
  rintro e w2 ⟨rfl, rfl⟩
  go_wp2_with fail
  refine (HSM.out w1 HB1.out).mono ?_
  rintro e w2 ⟨rfl, rfl⟩
  go_wp2_with fail
  refine (HBW.out w1 HB1.out).mono ?_
  rintro e w2 ⟨rfl, rfl⟩
  go_wp2
  go_ret
  exact ⟨rfl, HB1.out⟩
end Go.Proofs.Ytoflbfkmkalgcaa
