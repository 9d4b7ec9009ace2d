/- PickRises's law. -/
import Derived.Test.YtoflbfkmkalgcaaPiF
import Derived.Test.YtoflbfkmkalgcaaPiW
import Derived.Test.YtoflbfkmkalgcaaPiS
namespace Go.Proofs.Ytoflbfkmkalgcaa
open Go.RowKit Me Va Al

theorem remap_any (L : Option Addr) (n c : Nat) (l : List ArcD) (A : Option Addr) (m cT : Nat) (T : List CelD) (x : Nat) (w : World) (hl : l.length = n) (hn : n ≤ 1000000) (hnc : n ≤ c) (hm : T.length = m) (hm2 : m ≤ 1000000) (hx : x < 18446744073709551616) (hr : Arcs w w.heap.size L l) (hc : Cels w w.heap.size A T) :
    Calls Try.prog 9 #[.slice L n c, .slice A m cT, .int .u64 (x : Int)] w fun e w' => e = .returned (.tuple #[.int .u64 (rmN l T x : Int), .bool (rmB l T x)]) ∧ Below w.heap.size w w' := by
  cases h : rmB l T x with
  | false =>
    have e : rmN l T x = 0 := by unfold rmN; rw [h]; rfl
    rw [e]
    exact remap_no L n c l A m cT T x w hl hn hm hm2 hx hr hc h
  | true =>
    have e : rmN l T x = rmp l T x := by unfold rmN; rw [h]; rfl
    rw [e]
    have h2 := h
    unfold rmB at h2
    rw [Bool.and_eq_true] at h2
    exact remap_yes L n c l A m cT T x w hl hn hnc hm hr hc h2.1 (of_decide_eq_true h2.2)
theorem rm_may {l : List ArcD} {T : List CelD} {x : Nat} (h : mayT l T = true) (hx : x < totalOf l) : rmB l T x = true ∧ rmN l T x = rmp l T x := by
  have h1 : rmB l T x = true := by unfold rmB; rw [h, decide_eq_true hx]; rfl
  exact ⟨h1, by unfold rmN; rw [if_pos h1]⟩
theorem rmp_lt {l : List ArcD} {T : List CelD} {x : Nat} (h : mayT l T = true) (hx : x < totalOf l) : rmp l T x < totalOf l := by
  have hg := (mayT_parts h).1
  rw [total_good hg] at hx ⊢
  exact (rmp_ivl h hx).below
set_option maxRecDepth 100000 in
set_option maxHeartbeats 4000000 in
theorem pickRises_law (L : Option Addr) (n c : Nat) (l : List ArcD) (A : Option Addr) (m cT : Nat) (T : List CelD) (a b : Nat) (w : World) (hl : l.length = n) (hnc : n ≤ c) (hr : Arcs w w.heap.size L l) (hm : T.length = m) (hc : Cels w w.heap.size A T) (ha : a < 18446744073709551616) (hb : b < 18446744073709551616) :
    Calls Try.prog 6 #[.slice L n c, .slice A m cT, .int .u64 (a : Int), .int .u64 (b : Int)] w fun e w' => e = .returned (.bool true) ∧ Below w.heap.size w w' := by
  have HAW := Lib.hid awake17_any
  by_cases h100 : 100 < n
  · have h100' : (100 : Int) < (n : Int) := by omega
    clear hl hr hm hc
    go_enter Try.func6, Try.ntmps6
    go_wp2_with fail
    refine (HAW.out _).mono ?_
    rintro e w1 ⟨rfl, hb1⟩
    go_wp2
    go_ret
    exact ⟨rfl, hb1⟩
  have h100' : ¬ (100 : Int) < (n : Int) := by omega
  by_cases h101 : 100 < m
  · have h101' : (100 : Int) < (m : Int) := by omega
    clear hl hr hm hc
    go_enter Try.func6, Try.ntmps6
    go_wp2_with fail
    refine (HAW.out _).mono ?_
    rintro e w1 ⟨rfl, hb1⟩
    go_wp2
    go_ret
    exact ⟨rfl, hb1⟩
  have h101' : ¬ (100 : Int) < (m : Int) := by omega
  obtain ⟨t, ht⟩ : ∃ t, t = totalOf l := ⟨_, rfl⟩
  have htl := total_lt (l := l) (by omega)
  rw [← ht] at htl
  have HT := Lib.hid (show ∀ W, Below w.heap.size w W → Calls Try.prog 11 #[.slice L n c] W (fun e W' => e = .returned (.int .u64 (t : Int)) ∧ Below W.heap.size W W') from fun W hW => by rw [ht]; exact reftotal_any L n c l W hl (by omega) ((hr.below hW).more hW.size))
  obtain ⟨my, hmy⟩ : ∃ my, my = mayT l T := ⟨_, rfl⟩
  have HMY := Lib.hid (show ∀ W, Below w.heap.size w W → Calls Try.prog 12 #[.slice L n c, .slice A m cT] W (fun e W' => e = .returned (.bool my) ∧ Below W.heap.size W W') from fun W hW => by rw [hmy]; exact refmayT_any L n c l A m cT T W hl (by omega) hm (by omega) ((hr.below hW).more hW.size) ((hc.below hW).more hW.size))
  cases my with
  | false =>
    clear hl hr hm hc hmy ht
    go_enter Try.func6, Try.ntmps6
    go_wp2_with fail
    refine (HMY.out w (Below.refl _ _)).mono ?_
    rintro e w1 ⟨rfl, hb1⟩
    have HB1 := Lib.hid hb1
    clear hb1
    go_wp2_with fail
    refine (HAW.out w1).mono ?_
    rintro e w2 ⟨rfl, hb2⟩
    have HB2 := Lib.hid (HB1.out.trans (hb2.mono HB1.out.size))
    clear hb2
    go_wp2
    go_ret
    exact ⟨rfl, HB2.out⟩
  | true =>
    have HAL := Lib.hid (show ∀ W, Below w.heap.size w W → Calls Try.prog 15 #[.slice L n c, .slice A m cT, .int .u64 (a : Int)] W (fun e W' => e = .returned (.tuple #[.int .i64 (selN l T a : Int), .bool (selB l T a)]) ∧ Below W.heap.size W W') from fun W hW => alias_any L n c l A m cT T a W hl (by omega) hm (by omega) ha ((hr.below hW).more hW.size) ((hc.below hW).more hW.size))
    have HBL := Lib.hid (show ∀ W, Below w.heap.size w W → Calls Try.prog 15 #[.slice L n c, .slice A m cT, .int .u64 (b : Int)] W (fun e W' => e = .returned (.tuple #[.int .i64 (selN l T b : Int), .bool (selB l T b)]) ∧ Below W.heap.size W W') from fun W hW => alias_any L n c l A m cT T b W hl (by omega) hm (by omega) hb ((hr.below hW).more hW.size) ((hc.below hW).more hW.size))
    have HAR := Lib.hid (show ∀ W, Below w.heap.size w W → Calls Try.prog 9 #[.slice L n c, .slice A m cT, .int .u64 (a : Int)] W (fun e W' => e = .returned (.tuple #[.int .u64 (rmN l T a : Int), .bool (rmB l T a)]) ∧ Below W.heap.size W W') from fun W hW => remap_any L n c l A m cT T a W hl (by omega) hnc hm (by omega) ha ((hr.below hW).more hW.size) ((hc.below hW).more hW.size))
    have HBR := Lib.hid (show ∀ W, Below w.heap.size w W → Calls Try.prog 9 #[.slice L n c, .slice A m cT, .int .u64 (b : Int)] W (fun e W' => e = .returned (.tuple #[.int .u64 (rmN l T b : Int), .bool (rmB l T b)]) ∧ Below W.heap.size W W') from fun W hW => remap_any L n c l A m cT T b W hl (by omega) hnc hm (by omega) hb ((hr.below hW).more hW.size) ((hc.below hW).more hW.size))
    by_cases hat : a < t
    · have hat2 : ¬ (t : Int) ≤ (a : Int) := by omega
      rw [(sel_may hmy.symm (by rw [← ht]; exact hat)).1, (sel_may hmy.symm (by rw [← ht]; exact hat)).2] at HAL
      rw [(rm_may hmy.symm (by rw [← ht]; exact hat)).1, (rm_may hmy.symm (by rw [← ht]; exact hat)).2] at HAR
      by_cases hbt : b < t
      · have hbt2 : ¬ (t : Int) ≤ (b : Int) := by omega
        rw [(sel_may hmy.symm (by rw [← ht]; exact hbt)).1, (sel_may hmy.symm (by rw [← ht]; exact hbt)).2] at HBL
        rw [(rm_may hmy.symm (by rw [← ht]; exact hbt)).1, (rm_may hmy.symm (by rw [← ht]; exact hbt)).2] at HBR
        have hl1 := rmp_lt hmy.symm (show a < totalOf l by rw [← ht]; exact hat)
        have hl2 := rmp_lt hmy.symm (show b < totalOf l by rw [← ht]; exact hbt)
        have hri := fun e => rmp_rises (l := l) (T := T) (a := a) (b := b) e
        obtain ⟨k1, hk1⟩ : ∃ k, k = toOf T (sumOf l) a := ⟨_, rfl⟩
        obtain ⟨k2, hk2⟩ : ∃ k, k = toOf T (sumOf l) b := ⟨_, rfl⟩
        obtain ⟨y1, hy1⟩ : ∃ k, k = rmp l T a := ⟨_, rfl⟩
        obtain ⟨y2, hy2⟩ : ∃ k, k = rmp l T b := ⟨_, rfl⟩
        rw [← hk1, ← hk2, ← hy1, ← hy2] at hri
        rw [← ht, ← hy1] at hl1
        rw [← ht, ← hy2] at hl2
        rw [← hk1] at HAL
        rw [← hk2] at HBL
        rw [← hy1] at HAR
        rw [← hy2] at HBR
        clear hl hr hm hc hmy ht hk1 hk2 hy1 hy2
        by_cases hkk : k1 = k2
        · subst hkk
          have hri2 := hri rfl
          rw [decide_eq_decide] at hri2
          clear hri
          have d0 : ((k1 : Int) != (k1 : Int)) = false := by simp
          by_cases hab : a < b
          · have hyy : (y1 : Int) < (y2 : Int) := by have := hri2.1 hab; omega
            have hab2 : (a : Int) < (b : Int) := by omega
            clear hri2
            go_enter Try.func6, Try.ntmps6
            go_wp2_with fail
            refine (HMY.out w (Below.refl _ _)).mono ?_
            rintro e w1 ⟨rfl, hb1⟩
            have HB1 := Lib.hid hb1
            clear hb1
            go_wp2_with fail
            refine (HAL.out w1 HB1.out).mono ?_
            rintro e w2 ⟨rfl, hb2⟩
            have HB2 := Lib.hid (HB1.out.trans (hb2.mono HB1.out.size))
            clear hb2
            go_wp2_with fail
            refine (HBL.out w2 HB2.out).mono ?_
            rintro e w3 ⟨rfl, hb3⟩
            have HB3 := Lib.hid (HB2.out.trans (hb3.mono HB2.out.size))
            clear hb3
            go_wp2_with fail
            refine (HAR.out w3 HB3.out).mono ?_
            rintro e w4 ⟨rfl, hb4⟩
            have HB4 := Lib.hid (HB3.out.trans (hb4.mono HB3.out.size))
            clear hb4
            go_wp2_with fail
            refine (HBR.out w4 HB4.out).mono ?_
            rintro e w5 ⟨rfl, hb5⟩
            have HB5 := Lib.hid (HB4.out.trans (hb5.mono HB4.out.size))
            clear hb5
            go_wp2_with fail
            refine (HAW.out w5).mono ?_
            rintro e w6 ⟨rfl, hb6⟩
            have HB6 := Lib.hid (HB5.out.trans (hb6.mono HB5.out.size))
            clear hb6
            go_wp2
            go_ret
            exact ⟨rfl, HB6.out⟩
          · have hyy : ¬ (y1 : Int) < (y2 : Int) := fun h => hab (hri2.2 (by omega))
            have hab2 : ¬ (a : Int) < (b : Int) := by omega
            clear hri2
            go_enter Try.func6, Try.ntmps6
            go_wp2_with fail
            refine (HMY.out w (Below.refl _ _)).mono ?_
            rintro e w1 ⟨rfl, hb1⟩
            have HB1 := Lib.hid hb1
            clear hb1
            go_wp2_with fail
            refine (HAL.out w1 HB1.out).mono ?_
            rintro e w2 ⟨rfl, hb2⟩
            have HB2 := Lib.hid (HB1.out.trans (hb2.mono HB1.out.size))
            clear hb2
            go_wp2_with fail
            refine (HBL.out w2 HB2.out).mono ?_
            rintro e w3 ⟨rfl, hb3⟩
            have HB3 := Lib.hid (HB2.out.trans (hb3.mono HB2.out.size))
            clear hb3
            go_wp2_with fail
            refine (HAR.out w3 HB3.out).mono ?_
            rintro e w4 ⟨rfl, hb4⟩
            have HB4 := Lib.hid (HB3.out.trans (hb4.mono HB3.out.size))
            clear hb4
            go_wp2_with fail
            refine (HBR.out w4 HB4.out).mono ?_
            rintro e w5 ⟨rfl, hb5⟩
            have HB5 := Lib.hid (HB4.out.trans (hb5.mono HB4.out.size))
            clear hb5
            go_wp2_with fail
            refine (HAW.out w5).mono ?_
            rintro e w6 ⟨rfl, hb6⟩
            have HB6 := Lib.hid (HB5.out.trans (hb6.mono HB5.out.size))
            clear hb6
            go_wp2
            go_ret
            exact ⟨ret_bool (show (!decide (y1 < y2)) = true by simp; omega), HB6.out⟩
        · have d0 : ((k1 : Int) != (k2 : Int)) = true := by rw [bne_iff_ne]; omega
          clear hri hkk
          go_enter Try.func6, Try.ntmps6
          go_wp2_with fail
          refine (HMY.out w (Below.refl _ _)).mono ?_
          rintro e w1 ⟨rfl, hb1⟩
          have HB1 := Lib.hid hb1
          clear hb1
          go_wp2_with fail
          refine (HAL.out w1 HB1.out).mono ?_
          rintro e w2 ⟨rfl, hb2⟩
          have HB2 := Lib.hid (HB1.out.trans (hb2.mono HB1.out.size))
          clear hb2
          go_wp2_with fail
          refine (HBL.out w2 HB2.out).mono ?_
          rintro e w3 ⟨rfl, hb3⟩
          have HB3 := Lib.hid (HB2.out.trans (hb3.mono HB2.out.size))
          clear hb3
          go_wp2_with fail
          refine (HAR.out w3 HB3.out).mono ?_
          rintro e w4 ⟨rfl, hb4⟩
          have HB4 := Lib.hid (HB3.out.trans (hb4.mono HB3.out.size))
          clear hb4
          go_wp2_with fail
          refine (HBR.out w4 HB4.out).mono ?_
          rintro e w5 ⟨rfl, hb5⟩
          have HB5 := Lib.hid (HB4.out.trans (hb5.mono HB4.out.size))
          clear hb5
          go_wp2_with fail
          refine (HAW.out w5).mono ?_
          rintro e w6 ⟨rfl, hb6⟩
          have HB6 := Lib.hid (HB5.out.trans (hb6.mono HB5.out.size))
          clear hb6
          go_wp2
          go_ret
          exact ⟨rfl, HB6.out⟩
      · have hbt2 : (t : Int) ≤ (b : Int) := by omega
        rw [(sel_no (T := T) (show totalOf l ≤ b by rw [← ht]; omega)).1, (sel_no (T := T) (show totalOf l ≤ b by rw [← ht]; omega)).2] at HBL
        obtain ⟨k1, hk1⟩ : ∃ k, k = toOf T (sumOf l) a := ⟨_, rfl⟩
        obtain ⟨y1, hy1⟩ : ∃ k, k = rmp l T a := ⟨_, rfl⟩
        obtain ⟨y2, hy2⟩ : ∃ k, k = rmN l T b := ⟨_, rfl⟩
        obtain ⟨z2, hz2⟩ : ∃ k, k = rmB l T b := ⟨_, rfl⟩
        rw [← hk1] at HAL
        rw [← hy1] at HAR
        rw [← hy2, ← hz2] at HBR
        clear hl hr hm hc hmy ht hk1 hy1 hy2 hz2
        go_enter Try.func6, Try.ntmps6
        go_wp2_with fail
        refine (HMY.out w (Below.refl _ _)).mono ?_
        rintro e w1 ⟨rfl, hb1⟩
        have HB1 := Lib.hid hb1
        clear hb1
        go_wp2_with fail
        refine (HAL.out w1 HB1.out).mono ?_
        rintro e w2 ⟨rfl, hb2⟩
        have HB2 := Lib.hid (HB1.out.trans (hb2.mono HB1.out.size))
        clear hb2
        go_wp2_with fail
        refine (HBL.out w2 HB2.out).mono ?_
        rintro e w3 ⟨rfl, hb3⟩
        have HB3 := Lib.hid (HB2.out.trans (hb3.mono HB2.out.size))
        clear hb3
        go_wp2_with fail
        refine (HAR.out w3 HB3.out).mono ?_
        rintro e w4 ⟨rfl, hb4⟩
        have HB4 := Lib.hid (HB3.out.trans (hb4.mono HB3.out.size))
        clear hb4
        go_wp2_with fail
        refine (HBR.out w4 HB4.out).mono ?_
        rintro e w5 ⟨rfl, hb5⟩
        have HB5 := Lib.hid (HB4.out.trans (hb5.mono HB4.out.size))
        clear hb5
        go_wp2_with fail
        refine (HT.out w5 HB5.out).mono ?_
        rintro e w6 ⟨rfl, hb6⟩
        have HB6 := Lib.hid (HB5.out.trans (hb6.mono HB5.out.size))
        clear hb6
        go_wp2_with fail
        refine (HT.out w6 HB6.out).mono ?_
        rintro e w7 ⟨rfl, hb7⟩
        have HB7 := Lib.hid (HB6.out.trans (hb7.mono HB6.out.size))
        clear hb7
        go_wp2_with fail
        refine (HAW.out w7).mono ?_
        rintro e w8 ⟨rfl, hb8⟩
        have HB8 := Lib.hid (HB7.out.trans (hb8.mono HB7.out.size))
        clear hb8
        go_wp2
        go_ret
        exact ⟨rfl, HB8.out⟩
    · have hat2 : (t : Int) ≤ (a : Int) := by omega
      rw [(sel_no (T := T) (show totalOf l ≤ a by rw [← ht]; omega)).1, (sel_no (T := T) (show totalOf l ≤ a by rw [← ht]; omega)).2] at HAL
      obtain ⟨k2, hk2⟩ : ∃ k, k = selN l T b := ⟨_, rfl⟩
      obtain ⟨s2, hs2⟩ : ∃ k, k = selB l T b := ⟨_, rfl⟩
      obtain ⟨y1, hy1⟩ : ∃ k, k = rmN l T a := ⟨_, rfl⟩
      obtain ⟨z1, hz1⟩ : ∃ k, k = rmB l T a := ⟨_, rfl⟩
      obtain ⟨y2, hy2⟩ : ∃ k, k = rmN l T b := ⟨_, rfl⟩
      obtain ⟨z2, hz2⟩ : ∃ k, k = rmB l T b := ⟨_, rfl⟩
      rw [← hk2, ← hs2] at HBL
      rw [← hy1, ← hz1] at HAR
      rw [← hy2, ← hz2] at HBR
      clear hl hr hm hc hmy ht hk2 hs2 hy1 hz1 hy2 hz2
      go_enter Try.func6, Try.ntmps6
      go_wp2_with fail
      refine (HMY.out w (Below.refl _ _)).mono ?_
      rintro e w1 ⟨rfl, hb1⟩
      have HB1 := Lib.hid hb1
      clear hb1
      go_wp2_with fail
      refine (HAL.out w1 HB1.out).mono ?_
      rintro e w2 ⟨rfl, hb2⟩
      have HB2 := Lib.hid (HB1.out.trans (hb2.mono HB1.out.size))
      clear hb2
      go_wp2_with fail
      refine (HBL.out w2 HB2.out).mono ?_
      rintro e w3 ⟨rfl, hb3⟩
      have HB3 := Lib.hid (HB2.out.trans (hb3.mono HB2.out.size))
      clear hb3
      go_wp2_with fail
      refine (HAR.out w3 HB3.out).mono ?_
      rintro e w4 ⟨rfl, hb4⟩
      have HB4 := Lib.hid (HB3.out.trans (hb4.mono HB3.out.size))
      clear hb4
      go_wp2_with fail
      refine (HBR.out w4 HB4.out).mono ?_
      rintro e w5 ⟨rfl, hb5⟩
      have HB5 := Lib.hid (HB4.out.trans (hb5.mono HB4.out.size))
      clear hb5
      go_wp2_with fail
      refine (HT.out w5 HB5.out).mono ?_
      rintro e w6 ⟨rfl, hb6⟩
      have HB6 := Lib.hid (HB5.out.trans (hb6.mono HB5.out.size))
      clear hb6
      go_wp2_with fail
      refine (HAW.out w6).mono ?_
      rintro e w7 ⟨rfl, hb7⟩
      have HB7 := Lib.hid (HB6.out.trans (hb7.mono HB6.out.size))
      clear hb7
      go_wp2
      go_ret
      exact ⟨rfl, HB7.out⟩
end Go.Proofs.Ytoflbfkmkalgcaa
