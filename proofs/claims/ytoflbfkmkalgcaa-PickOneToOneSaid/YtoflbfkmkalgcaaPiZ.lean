/- PickOneToOne's law. -/
import Derived.Test.YtoflbfkmkalgcaaPiF
import Derived.Test.YtoflbfkmkalgcaaPiW
namespace Go.Proofs.Ytoflbfkmkalgcaa
open Go.RowKit Me Va Al

set_option maxRecDepth 100000 in
set_option maxHeartbeats 4000000 in
theorem pickOneToOne_law (L : Option Addr) (n c : Nat) (l : List ArcD) (x : Nat) (w : World) (hl : l.length = n) (hnc : n ≤ c) (hr : Arcs w w.heap.size L l) (hx : x < 18446744073709551616) :
    Calls Try.prog 4 #[.slice L n c, .int .u64 (x : Int)] w fun e w' => e = .returned (.bool true) ∧ Below w.heap.size w w' := by
  have HAW := Lib.hid awake17_any
  by_cases h100 : 100 < n
  · have h100' : (100 : Int) < (n : Int) := by omega
    clear hl hr
    go_enter Try.func4, Try.ntmps4
    go_wp2_with fail
    refine (HAW.out _).mono ?_
    rintro e w1 ⟨rfl, hb1⟩
    go_wp2
    go_ret
    exact ⟨rfl, hb1⟩
  have h100' : ¬ (100 : Int) < (n : Int) := by omega
  obtain ⟨t, ht⟩ : ∃ t, t = totalOf l := ⟨_, rfl⟩
  have htl := total_lt (l := l) (by omega)
  rw [← ht] at htl
  have HT := Lib.hid (show ∀ W, Below w.heap.size w W → Calls Try.prog 11 #[.slice L n c] W (fun e W' => e = .returned (.int .u64 (t : Int)) ∧ Below W.heap.size W W') from fun W hW => by rw [ht]; exact reftotal_any L n c l W hl (by omega) ((hr.below hW).more hW.size))
  have HPT := Lib.hid (show ∀ W, Below w.heap.size w W → Calls Try.prog 17 #[.slice L n c] W (fun e W' => e = .returned (.int .u64 (t : Int)) ∧ Below W.heap.size W W') from fun W hW => by rw [ht]; exact ptotal_any L n c l W hl (by omega) ((hr.below hW).more hW.size))
  by_cases hxt : x < t
  · have hxt2 : ¬ (t : Int) ≤ (x : Int) := by omega
    have hg : good l = true := good_of_total (by rw [← ht]; exact hxt)
    have HBD := Lib.hid (show ∀ W, Below w.heap.size w W → Calls Try.prog 14 #[.slice L n c] W (BuildPost W n l) from fun W hW => build_yes L n c l W hl (by omega) ((hr.below hW).more hW.size) hg)
    have HGG := Lib.hid (show (∀ W, Below w.heap.size w W → Arcs W W.heap.size L l) ∧ l.length = n ∧ t = totalOf l ∧ good l = true ∧ n ≤ c from ⟨fun W hW => (hr.below hW).more hW.size, hl, ht, hg, hnc⟩)
    clear hl hr ht hg
    go_enter Try.func4, Try.ntmps4
    go_wp2_with fail
    refine (HT.out w (Below.refl _ _)).mono ?_
    rintro e w1 ⟨rfl, hb1⟩
    have HB1 := Lib.hid hb1
    clear hb1
    go_wp2_with fail
    refine (HBD.out w1 HB1.out).mono ?_
    rintro e w2 ⟨a, cT, T, rfl, hta, hT, hb2⟩
    have HB2 := Lib.hid (HB1.out.trans (hb2.mono HB1.out.size))
    obtain ⟨har, hl, ht, hg, -⟩ := HGG.out
    have hmay := hT.may hg
    have hTl := hta.len
    have hce := hT.cels (by omega) (by have := may_sum (good_may hg).2; omega) hta
    have hcn : ∀ W, Below w2.heap.size w2 W → Cels W W.heap.size (some a) T := fun W hW => (hce.below hW).more hW.size
    have hup : ∀ W, Below w2.heap.size w2 W → Arcs W W.heap.size L l := fun W hW => har W (HB2.out.trans (hW.mono HB2.out.size))
    have hxn : x < l.length * sumOf l := by rw [← total_good hg, ← ht]; exact hxt
    have hsel := sel_may (x := x) hmay (by rw [← ht]; exact hxt)
    have hiv := rmp_ivl hmay hxn
    obtain ⟨k, hk⟩ : ∃ k, k = toOf T (sumOf l) x := ⟨_, rfl⟩
    obtain ⟨y, hy⟩ : ∃ y, y = rmp l T x := ⟨_, rfl⟩
    rw [← hk] at hsel hiv
    rw [← hy] at hiv
    have hyb := hiv.below
    rw [← total_good hg, ← ht] at hyb
    have hyt : (y : Int) < (t : Int) := by omega
    have HAL := Lib.hid (show ∀ W, Below w2.heap.size w2 W → Calls Try.prog 15 #[.slice L n c, .slice (some a) n cT, .int .u64 (x : Int)] W (fun e W' => e = .returned (.tuple #[.int .i64 (k : Int), .bool true]) ∧ Below W.heap.size W W') from fun W hW => by have h := alias_any L n c l (some a) n cT T x W hl (by omega) hTl (by omega) hx (hup W hW) (hcn W hW); rwa [hsel.1, hsel.2] at h)
    have HRM := Lib.hid (show ∀ W, Below w2.heap.size w2 W → Calls Try.prog 9 #[.slice L n c, .slice (some a) n cT, .int .u64 (x : Int)] W (fun e W' => e = .returned (.tuple #[.int .u64 (y : Int), .bool true]) ∧ Below W.heap.size W W') from fun W hW => by rw [hy]; exact remap_yes L n c l (some a) n cT T x W hl (by omega) hnc hTl (hup W hW) (hcn W hW) hmay (by rw [← ht]; exact hxt))
    have HBK := Lib.hid (show ∀ W, Below w2.heap.size w2 W → Calls Try.prog 10 #[.slice L n c, .slice (some a) n cT, .int .u64 (y : Int)] W (fun e W' => e = .returned (.tuple #[.int .u64 (x : Int), .bool true]) ∧ Below W.heap.size W W') from fun W hW => back_yes L n c l (some a) n cT T x y W hl (by omega) hnc hTl (hup W hW) (hcn W hW) hmay (by rw [← ht]; exact hxt) hy)
    have HIV := Lib.hid (show ∀ W, Below w2.heap.size w2 W → Calls Try.prog 16 #[.slice L n c, .int .u64 (y : Int)] W (fun e W' => e = .returned (.tuple #[.int .i64 (k : Int), .bool true]) ∧ Below W.heap.size W W') from fun W hW => ivl_yes L n c y k l W hl (by omega) hg hiv (hup W hW))
    clear hb2 hta hT har hl ht hg hmay hTl hce hcn hup hxn hsel hiv hk hy hyb
    have HC2 := Lib.hid (Below.refl w2.heap.size w2)
    go_wp2_with fail
    refine (HAL.out w2 HC2.out).mono ?_
    rintro e w3 ⟨rfl, hb3⟩
    have HC3 := Lib.hid (HC2.out.trans (hb3.mono HC2.out.size))
    have HB3 := Lib.hid (HB2.out.trans (hb3.mono HB2.out.size))
    clear hb3
    go_wp2_with fail
    refine (HRM.out w3 HC3.out).mono ?_
    rintro e w4 ⟨rfl, hb4⟩
    have HC4 := Lib.hid (HC3.out.trans (hb4.mono HC3.out.size))
    have HB4 := Lib.hid (HB3.out.trans (hb4.mono HB3.out.size))
    clear hb4
    go_wp2_with fail
    refine (HBK.out w4 HC4.out).mono ?_
    rintro e w5 ⟨rfl, hb5⟩
    have HC5 := Lib.hid (HC4.out.trans (hb5.mono HC4.out.size))
    have HB5 := Lib.hid (HB4.out.trans (hb5.mono HB4.out.size))
    clear hb5
    go_wp2_with fail
    refine (HIV.out w5 HC5.out).mono ?_
    rintro e w6 ⟨rfl, hb6⟩
    have HC6 := Lib.hid (HC5.out.trans (hb6.mono HC5.out.size))
    have HB6 := Lib.hid (HB5.out.trans (hb6.mono HB5.out.size))
    clear hb6
    go_wp2_with fail
    refine (HPT.out w6 HB6.out).mono ?_
    rintro e w7 ⟨rfl, hb7⟩
    have HB7 := Lib.hid (HB6.out.trans (hb7.mono HB6.out.size))
    clear hb7
    go_wp2_with fail
    refine (HAW.out w7).mono ?_
    rintro e w8 ⟨rfl, hb8⟩
    have HB8 := Lib.hid (HB7.out.trans (hb8.mono HB7.out.size))
    clear hb8
    go_wp2
    go_ret
    exact ⟨rfl, HB8.out⟩
  · have hxt2 : (t : Int) ≤ (x : Int) := by omega
    clear hl hr ht
    go_enter Try.func4, Try.ntmps4
    go_wp2_with fail
    refine (HT.out w (Below.refl _ _)).mono ?_
    rintro e w1 ⟨rfl, hb1⟩
    have HB1 := Lib.hid hb1
    clear hb1
    go_wp2_with fail
    refine (HAW.out w1).mono ?_
    rintro e w2 ⟨rfl, hb2⟩
    have HB2 := Lib.hid (HB1.out.trans (hb2.mono HB1.out.size))
    clear hb2
    go_wp2
    go_ret
    exact ⟨rfl, HB2.out⟩
end Go.Proofs.Ytoflbfkmkalgcaa
