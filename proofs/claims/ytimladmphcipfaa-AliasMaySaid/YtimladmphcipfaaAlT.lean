/- AliasMay's law. -/
import Derived.Test.YtimladmphcipfaaAlS
import Derived.Test.YtimladmphcipfaaAlW
import Derived.Test.YtimladmphcipfaaAlK
namespace Go.Proofs.Ytimladmphcipfaa
open Go.RowKit Me Va Al

set_option maxRecDepth 100000 in
set_option maxHeartbeats 4000000 in
theorem aliasMay_law (L : Option Addr) (n c : Nat) (l : List ArcD) (A : Option Addr) (m cT : Nat) (T : List CelD) (s : Nat) (tz : Int) (w : World) (hl : l.length = n) (hm : T.length = m) (hr : Arcs w w.heap.size L l) (hc : Cels w w.heap.size A T) (hs : s < 18446744073709551616) (hto : -9223372036854775808 ≤ tz ∧ tz ≤ 9223372036854775807) :
    Calls Try.prog 6 #[.slice L n c, .slice A m cT, .int .u64 (s : Int), .int .i64 tz] w fun e w' => e = .returned (.bool true) ∧ Below w.heap.size w w' := by
  have HAW := Lib.hid awake16_any
  by_cases h100 : 100 < n
  · have h100' : (100 : Int) < (n : Int) := by omega
    clear hl hr hm hc
    go_enter Try.func6, Try.ntmps6
    go_wp2_with fail
    refine (HAW.out _).mono ?_
    rintro e w1 ⟨rfl, hb1⟩
    go_wp2
    go_ret
    exact ⟨rfl, hb1⟩
  have h100' : ¬ (100 : Int) < (n : Int) := by omega
  by_cases m100 : 100 < m
  · have m100' : (100 : Int) < (m : Int) := by omega
    clear hl hr hm hc
    go_enter Try.func6, Try.ntmps6
    go_wp2_with fail
    refine (HAW.out _).mono ?_
    rintro e w1 ⟨rfl, hb1⟩
    go_wp2
    go_ret
    exact ⟨rfl, hb1⟩
  have m100' : ¬ (100 : Int) < (m : Int) := by omega
  obtain ⟨b, hb⟩ : ∃ b, b = mayT l T := ⟨_, rfl⟩
  obtain ⟨x, hx⟩ : ∃ x, x = wr64 (cntZ s tz T) := ⟨_, rfl⟩
  have H1 := Lib.hid (mayT_any L n c l A m cT T w hl (by omega) hm (by omega) hr hc)
  have H2 := Lib.hid (show ∀ W, Below w.heap.size w W → Calls Try.prog 13 #[.slice L n c, .slice A m cT] W (fun e W' => e = .returned (.bool b) ∧ Below W.heap.size W W') from fun W hW => by
    rw [hb]; exact refmayT_any L n c l A m cT T W hl (by omega) hm (by omega) ((hr.below hW).more hW.size) ((hc.below hW).more hW.size))
  have H3 := Lib.hid (show ∀ W, Below w.heap.size w W → Calls Try.prog 17 #[.slice A m cT, .int .u64 (s : Int), .int .i64 tz] W (fun e W' => e = .returned (.int .u64 (x : Int)) ∧ Below W.heap.size W W') from fun W hW => by
    rw [hx]; exact count_any A m cT T s tz W hm (by omega) hs ((hc.below hW).more hW.size) hto)
  have H4 := Lib.hid (show ∀ W, Below w.heap.size w W → Calls Try.prog 19 #[.slice A m cT, .int .u64 (s : Int), .int .i64 tz] W (fun e W' => e = .returned (.int .u64 (x : Int)) ∧ W' = W) from fun W hW => by
    rw [hx]; exact refcount_any A m cT T s tz W hm (by omega) hs ((hc.below hW).more hW.size) hto)
  rw [← hb] at H1
  have d2 : ((x : Int) == (x : Int)) = true := by simp
  clear hl hm hr hc hb hx
  cases b
  all_goals
    go_enter Try.func6, Try.ntmps6
    go_wp2_with fail
    refine H1.out.mono ?_
    rintro e w1 ⟨rfl, hb1⟩
    have HB1 := Lib.hid hb1
    clear hb1
    go_wp2_with fail
    refine (H2.out w1 HB1.out).mono ?_
    rintro e w2 ⟨rfl, hb2⟩
    have HB2 := Lib.hid (HB1.out.trans (hb2.mono HB1.out.size))
    clear hb2
    go_wp2_with fail
    refine (H3.out w2 HB2.out).mono ?_
    rintro e w3 ⟨rfl, hb3⟩
    have HB3 := Lib.hid (HB2.out.trans (hb3.mono HB2.out.size))
    clear hb3
    go_wp2_with fail
    refine (H4.out w3 HB3.out).mono ?_
    rintro e w4 ⟨rfl, rfl⟩
    go_wp2_with fail
    refine (HAW.out _).mono ?_
    rintro e w5 ⟨rfl, hb5⟩
    have HB5 := Lib.hid (HB3.out.trans (hb5.mono HB3.out.size))
    clear hb5
    go_wp2
    go_ret
    exact ⟨rfl, HB5.out⟩
end Go.Proofs.Ytimladmphcipfaa
