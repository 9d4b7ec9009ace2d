/- The section in front of bytes, the document's. -/
import Derived.Test.YtinalnjekbfifaaFGet
namespace Go.Proofs.Ytinalnjekbfifaa
open Go.RowKit Cr Me Fr

/-- What is known of each slot of the head's length. -/
def rlG (a : Addr) (c : Nat) (p1 p2 p3 p4 : Nat) : Gw.Fact := fun t v _ =>
  match t with
  | 6 | 26 | 30 | 36 | 42 => v = .slice (some a) 5 c
  | 27 => v = .pointer (some (a.add 1))
  | 31 => v = .pointer (some (a.add 2))
  | 37 => v = .pointer (some (a.add 3))
  | 43 => v = .pointer (some (a.add 4))
  | 28 => v = .int .u8 (p1 : Int)
  | 29 => v = .int .i64 (p1 : Int)
  | 32 => v = .int .u8 (p2 : Int)
  | 33 => v = .int .i64 (p2 : Int)
  | 34 => v = .int .i64 ((256 * p2 : Nat) : Int)
  | 35 => v = .int .i64 ((p1 + 256 * p2 : Nat) : Int)
  | 38 => v = .int .u8 (p3 : Int)
  | 39 => v = .int .i64 (p3 : Int)
  | 40 => v = .int .i64 ((65536 * p3 : Nat) : Int)
  | 41 => v = .int .i64 ((p1 + 256 * p2 + 65536 * p3 : Nat) : Int)
  | 44 => v = .int .u8 (p4 : Int)
  | 45 => v = .int .i64 (p4 : Int)
  | 46 => v = .int .i64 ((16777216 * p4 : Nat) : Int)
  | 8 | 47 => v = .int .i64 ((p1 + 256 * p2 + 65536 * p3 + 16777216 * p4 : Nat) : Int)
  | _ => True
theorem four_cells {w : World} {a : Addr} {h : List UInt8} (hl : h.length = 5) (hr : Rd w w.heap.size (some a) h) :
    ∃ p1 p2 p3 p4 : Nat, p1 < 256 ∧ p2 < 256 ∧ p3 < 256 ∧ p4 < 256 ∧ lenOf h = p1 + 256 * p2 + 65536 * p3 + 16777216 * p4 ∧ a.block < w.heap.size ∧
      w.cell? (a.add 1) = some (.int .u8 (p1 : Int)) ∧ w.cell? (a.add 2) = some (.int .u8 (p2 : Int)) ∧ w.cell? (a.add 3) = some (.int .u8 (p3 : Int)) ∧ w.cell? (a.add 4) = some (.int .u8 (p4 : Int)) := by
  have cell : ∀ i, i < 5 → ∃ u : UInt8, h[i]? = some u ∧ w.cell? (a.add i) = some (.int .u8 (u.toNat : Int)) ∧ a.block < w.heap.size := by
    intro i hi
    obtain ⟨a', u, e, hb, hu, hcell⟩ := hr.at (k := i) (by omega)
    cases e
    exact ⟨u, hu, hcell, hb⟩
  obtain ⟨u1, g1, c1, hab⟩ := cell 1 (by omega)
  obtain ⟨u2, g2, c2, -⟩ := cell 2 (by omega)
  obtain ⟨u3, g3, c3, -⟩ := cell 3 (by omega)
  obtain ⟨u4, g4, c4, -⟩ := cell 4 (by omega)
  refine ⟨u1.toNat, u2.toNat, u3.toNat, u4.toNat, u1.toNat_lt, u2.toNat_lt, u3.toNat_lt, u4.toNat_lt, ?_, hab, c1, c2, c3, c4⟩
  unfold lenOf
  rw [List.getD_eq_getElem?_getD, List.getD_eq_getElem?_getD, List.getD_eq_getElem?_getD, List.getD_eq_getElem?_getD, g1, g2, g3, g4]
  rfl
set_option maxRecDepth 100000 in
set_option maxHeartbeats 1000000 in
theorem ref_fget_short (A : Option Addr) (n c : Nat) (b : List UInt8) (w : World) (hb : b.length = n) (hn : n < 9) :
    Calls Try.prog 14 #[.slice A n c] w (SGetPost w (getS b)) := by
  have HG := Lib.hid (getS_short (b := b) (by omega))
  have h1 : decide ((n : Int) < 9) = true := by simp; omega
  clear hb
  have hb1 : Below w.heap.size w (w.alloc (.cells #[.int .u8 0, .slice none 0 0] 30)) := (Below.refl _ _).alloc (Nat.le_refl _) _
  have HE := Lib.hid (hb1.alloc hb1.size (.cells #[.int .u8 0, .slice none 0 0] 30))
  obtain ⟨r0, r1, -, -⟩ := (Two.new w (.int .u8 0) (.slice none 0 0) 30).alloc (.cells #[.int .u8 0, .slice none 0 0] 30)
  clear hb1
  go_enter Try.func14, Try.ntmps14
  go_wp2
  exact bodyPost_ret (v := .tuple #[.agg #[.int .u8 0, .slice none 0 0], .int .i64 0, .int .i64 2]) (by simp [results, Try.results14, go_sem, r0, r1]) rfl (sget_none HG.out HE.out)
set_option maxRecDepth 100000 in
set_option maxHeartbeats 2000000 in
theorem ref_fget_long (a : Addr) (n c : Nat) (b : List UInt8) (w : World) (hb : b.length = n) (hc : n ≤ c) (hc63 : c ≤ 9223372036854775807) (hn : 9 ≤ n) (hr : Rd w w.heap.size (some a) b) :
    Calls Try.prog 14 #[.slice (some a) n c] w (SGetPost w (getS b)) := by
  have HB := Lib.hid hb
  have HR := Lib.hid hr
  have HF := Lib.hid (fitB_nine (b := b) (by omega))
  have d1 : decide ((n : Int) < 9) = false := by simp; omega
  obtain ⟨z, hz⟩ : ∃ z, z = fitC (b.take 9) := ⟨_, rfl⟩
  obtain ⟨h, hh⟩ : ∃ h, h = fitL (b.take 9) := ⟨_, rfl⟩
  have HZ := Lib.hid hz
  have HH := Lib.hid hh
  clear hb hr hz hh
  have q0 : (9 : Int) ≤ (c : Int) := by omega
  have T0 := Lib.hid ((Two.new w (.int .u8 0) (.slice none 0 0) 30).alloc (.cells #[.int .u8 0, .slice none 0 0] 30))
  have T1 := Lib.hid (Two.new' (H := w.heap.size + 1) (w.alloc (.cells #[.int .u8 0, .slice none 0 0] 30)) (.int .u8 0) (.slice none 0 0) 30 (by simp))
  have hb1 : Below w.heap.size w (w.alloc (.cells #[.int .u8 0, .slice none 0 0] 30)) := (Below.refl _ _).alloc (Nat.le_refl _) _
  have HB1 := Lib.hid (hb1.alloc hb1.size (.cells #[.int .u8 0, .slice none 0 0] 30))
  clear hb1
  go_enter Try.func14, Try.ntmps14
  go_wp2_with fail
  generalize (w.alloc (.cells #[.int .u8 0, .slice none 0 0] 30)).alloc (.cells #[.int .u8 0, .slice none 0 0] 30) = w1 at *
  refine (ref_fits_all (some a) 9 c (b.take 9) w1 (by rw [List.length_take, HB.out]; omega) (by omega) (by omega) (((HR.out.below HB1.out).more HB1.out.size).take 9)).mono ?_
  rw [← HZ.out, ← HH.out]
  rintro e w2 ⟨hb2, X, m, d, rfl, hl2, -, hr2, -⟩
  have HB2 := Lib.hid (HB1.out.trans (hb2.mono HB1.out.size))
  have T02 := Lib.hid (T0.out.past hb2)
  have T12 := Lib.hid (T1.out.past hb2)
  have HL2 := Lib.hid hl2
  have HR2 := Lib.hid hr2
  clear hb2 hl2 hr2
  cases hfit : fitB (b.take 9) with
  | false =>
    have hz5 : z = 5 := by rw [HZ.out, HF.out, hfit]; rfl
    subst hz5
    have HG := Lib.hid (getS_head (b := b) (by rw [HB.out]; omega) hfit)
    clear hfit
    obtain ⟨r0, r1, r2, r3⟩ := T02.out
    obtain ⟨t0, t1, -, -⟩ := T12.out
    have HX := Lib.hid (T02.out.set (.int .u8 0) (.slice none 0 0))
    have HE := Lib.hid ((HB2.out.setCell (p := ⟨w.heap.size, 0, none⟩) (Nat.le_refl _) (.int .u8 0)).setCell (p := ⟨w.heap.size, 1, none⟩) (Nat.le_refl _) (.slice none 0 0))
    obtain ⟨s0, s1, -, -⟩ := HX.out
    go_wp2
    exact bodyPost_ret (v := .tuple #[.agg #[.int .u8 0, .slice none 0 0], .int .i64 0, .int .i64 5]) (by simp [results, Try.results14, go_sem, s0, s1]) rfl (sget_none HG.out HE.out)
  | true =>
    have hz0 : z = 0 := by rw [HZ.out, HF.out, hfit]; rfl
    subst hz0
    have hh5 : h = b.take 5 := by
      rw [HH.out]; unfold fitL
      rw [if_pos hfit, List.length_take, List.take_take, HB.out]
      congr 1; omega
    have hm5 : m = 5 := by rw [← HL2.out, hh5, List.length_take, HB.out]; omega
    subst hm5
    obtain ⟨a', u0, hX, -, hu0, hcu0⟩ := HR2.out.at (k := 0) (by rw [HL2.out]; omega)
    subst hX
    obtain ⟨N, hN⟩ : ∃ N, N = lenOf h := ⟨_, rfl⟩
    have hN32 : N < 4294967296 := by rw [hN]; exact lenOf_lt _
    have hN5 : N = lenOf (b.take 5) := by rw [hN, hh5]
    have HN := Lib.hid hN
    have HN5 := Lib.hid hN5
    have HU0 := Lib.hid (show b.getD 0 0 = u0 by
      rw [hh5, List.getElem?_take, if_pos (by omega)] at hu0
      rw [List.getD_eq_getElem?_getD, hu0]; rfl)
    have hu8 := u0.toNat_lt
    have HFIT := Lib.hid hfit
    have HC0 := Lib.hid hcu0
    clear hN hN5 hu0 hfit hh5 hcu0
    go_wp2_with fail
    obtain ⟨p1, p2, p3, p4, b1, b2, b3, b4, hlen, hab, c1, c2, c3, c4⟩ := four_cells HL2.out HR2.out
    rw [← HN.out] at hlen
    have v1 : IntKind.i64.wrap (p1 : Int) = p1 := IntWalk.i64_in _ (by omega)
    have v2 : IntKind.i64.wrap (p2 : Int) = p2 := IntWalk.i64_in _ (by omega)
    have v3 : IntKind.i64.wrap (p3 : Int) = p3 := IntWalk.i64_in _ (by omega)
    have v4 : IntKind.i64.wrap (p4 : Int) = p4 := IntWalk.i64_in _ (by omega)
    have x2 : IntKind.i64.wrap (256 * (p2 : Int)) = 256 * p2 := IntWalk.i64_in _ (by omega)
    have x3 : IntKind.i64.wrap (65536 * (p3 : Int)) = 65536 * p3 := IntWalk.i64_in _ (by omega)
    have x4 : IntKind.i64.wrap (16777216 * (p4 : Int)) = 16777216 * p4 := IntWalk.i64_in _ (by omega)
    have y2 : IntKind.i64.wrap ((p1 : Int) + 256 * (p2 : Int)) = p1 + 256 * p2 := IntWalk.i64_in _ (by omega)
    have y3 : IntKind.i64.wrap ((p1 : Int) + 256 * (p2 : Int) + 65536 * (p3 : Int)) = p1 + 256 * p2 + 65536 * p3 := IntWalk.i64_in _ (by omega)
    have y4 : IntKind.i64.wrap ((p1 : Int) + 256 * (p2 : Int) + 65536 * (p3 : Int) + 16777216 * (p4 : Int)) = p1 + 256 * p2 + 65536 * p3 + 16777216 * p4 := IntWalk.i64_in _ (by omega)
    refine Gw.wp_region_grow (rlG a' d p1 p2 p3 p4) [26, 27, 28, 29, 30, 31, 32, 33, 34, 35, 36, 37, 38, 39, 40, 41, 42, 43, 44, 45, 46, 47, 8] [([6], none), ([26], none), ([27], none), ([28], none), ([6], none), ([30], none), ([31], none), ([32], none), ([33], none), ([29, 34], none), ([6], none), ([36], none), ([37], none), ([38], none), ([39], none), ([35, 40], none), ([6], none), ([42], none), ([43], none), ([44], none), ([45], none), ([41, 46], none), ([47], none)] 76 (by kernel_rfl) (by kernel_rfl) rfl ?h0 ?hreq ?hend
    case h0 =>
      intro t W hnd _
      unfold rlG
      split <;> first | rfl | trivial | exact absurd (by simp) hnd
    case hreq =>
      refine ⟨?_, ?_, ?_, ?_, ?_, ?_, ?_, ?_, ?_, ?_, ?_, ?_, ?_, ?_, ?_, ?_, ?_, ?_, ?_, ?_, ?_, ?_, ?_, trivial⟩
      all_goals
        intro ac W hg hk
        have hg' : Below w2.heap.size w2 W := hg
        have k1 : W.cell? ⟨a'.block, a'.off + 1, none⟩ = _ := (hg'.cell (p := a'.add 1) (by rw [block_add]; exact hab)).trans c1
        have k2 : W.cell? ⟨a'.block, a'.off + 2, none⟩ = _ := (hg'.cell (p := a'.add 2) (by rw [block_add]; exact hab)).trans c2
        have k3 : W.cell? ⟨a'.block, a'.off + 3, none⟩ = _ := (hg'.cell (p := a'.add 3) (by rw [block_add]; exact hab)).trans c3
        have k4 : W.cell? ⟨a'.block, a'.off + 4, none⟩ = _ := (hg'.cell (p := a'.add 4) (by rw [block_add]; exact hab)).trans c4
        simp only [Gw.Knows, rlG] at hk
        try (simp [go_sem, Gw.OpReq, Gw.Ok, Gw.Post, Gw.Holds, rlG, Gw.Grows.refl, hk, k1, k2, k3, k4, v1, v2, v3, v4, x2, x3, x4, y2, y3, y4]; done)
    case hend =>
      intro x w' hg hx
      have h8 : x 8 = .int .i64 (N : Int) := by rw [hlen]; exact (hx 8 (by simp)).now
      have hg3 : Below w2.heap.size w2 w' := hg
      clear v1 v2 v3 v4 x2 x3 x4 y2 y3 y4 c1 c2 c3 c4 hlen b1 b2 b3 b4 hx hg
      generalize w' = w3 at *
      have HB3 := Lib.hid (HB2.out.trans (hg3.mono HB2.out.size))
      have T03 := Lib.hid (T02.out.past hg3)
      have T13 := Lib.hid (T12.out.past hg3)
      have HC3 := Lib.hid ((hg3.cell (p := a'.add 0) (block_lt_of_cell HC0.out)).trans HC0.out)
      have hs3 := HB3.out.size
      clear hg3 hab
      simp only [Gw.putAll, Act.put, List.setIfInBounds_toArray, List.set_cons_zero, List.set_cons_succ]
      rw [h8]
      clear h8
      by_cases hlong : 1048576 < N
      · have d2 : decide ((1048576 : Int) < (N : Int)) = true := by simp; omega
        have HG := Lib.hid (getS_long (b := b) (by rw [HB.out]; omega) HFIT.out HN5.out hlong)
        obtain ⟨r0, r1, r2, r3⟩ := T03.out
        obtain ⟨t0, t1, -, -⟩ := T13.out
        have HX := Lib.hid (T03.out.set (.int .u8 0) (.slice none 0 0))
        have HE := Lib.hid ((HB3.out.setCell (p := ⟨w.heap.size, 0, none⟩) (Nat.le_refl _) (.int .u8 0)).setCell (p := ⟨w.heap.size, 1, none⟩) (Nat.le_refl _) (.slice none 0 0))
        obtain ⟨s0, s1, -, -⟩ := HX.out
        go_wp2
        exact bodyPost_ret (v := .tuple #[.agg #[.int .u8 0, .slice none 0 0], .int .i64 0, .int .i64 4]) (by simp [results, Try.results14, go_sem, s0, s1]) rfl (sget_none HG.out HE.out)
      · have d2 : decide ((1048576 : Int) < (N : Int)) = false := by simp; omega
        by_cases hcut : n < N + 13
        · have d3 : decide ((n : Int) < (N : Int) + 13) = true := by simp; omega
          have HG := Lib.hid (getS_cut (b := b) (by rw [HB.out]; omega) HFIT.out HN5.out hlong (by rw [HB.out]; exact hcut))
          obtain ⟨r0, r1, r2, r3⟩ := T03.out
          obtain ⟨t0, t1, -, -⟩ := T13.out
          have HX := Lib.hid (T03.out.set (.int .u8 0) (.slice none 0 0))
          have HE := Lib.hid ((HB3.out.setCell (p := ⟨w.heap.size, 0, none⟩) (Nat.le_refl _) (.int .u8 0)).setCell (p := ⟨w.heap.size, 1, none⟩) (Nat.le_refl _) (.slice none 0 0))
          obtain ⟨s0, s1, -, -⟩ := HX.out
          go_wp2
          exact bodyPost_ret (v := .tuple #[.agg #[.int .u8 0, .slice none 0 0], .int .i64 0, .int .i64 2]) (by simp [results, Try.results14, go_sem, s0, s1]) rfl (sget_none HG.out HE.out)
        · have d3 : decide ((n : Int) < (N : Int) + 13) = false := by simp; omega
          have hc9 : ¬ c = 9 := by omega
          have q3 : (N : Int) + 13 ≤ (c : Int) := by omega
          have q4 : (9 : Int) ≤ (N : Int) + 13 := by omega
          have HD := Lib.hid (show Rd w3 w3.heap.size (some ⟨a.block, a.off + 9, none⟩) ((b.drop 9).take (N + 4)) from by
            have := ((HR.out.below HB3.out).more hs3).drop (k := 9) (cap := c) (by rw [HB.out]; exact hc)
            rw [if_neg hc9] at this
            exact this.take _)
          have HDL := Lib.hid (show ((b.drop 9).take (N + 4)).length = N + 4 by rw [List.length_take, List.length_drop, HB.out]; omega)
          have HFB := Lib.hid (show fitC ((b.drop 9).take (N + 4)) = if fitB ((b.drop 9).take (N + 4)) then 0 else 5 by
            unfold fitC
            rw [if_neg (by rw [HDL.out]; omega)])
          obtain ⟨y, hy⟩ : ∃ y, y = fitC ((b.drop 9).take (N + 4)) := ⟨_, rfl⟩
          obtain ⟨bo, hbo⟩ : ∃ bo, bo = fitL ((b.drop 9).take (N + 4)) := ⟨_, rfl⟩
          have HY := Lib.hid hy
          have HBO := Lib.hid hbo
          clear hy hbo
          go_wp2_with fail
          refine (ref_fits_all (some ⟨a.block, a.off + 9, none⟩) (N + 4) (c - 9) ((b.drop 9).take (N + 4)) w3 HDL.out (by omega) (by omega) HD.out).mono ?_
          rw [← HY.out, ← HBO.out]
          rintro e w4 ⟨hb4, Y, m, dd, rfl, hl4, hm4, hr4, hnw4⟩
          have HB4 := Lib.hid (HB3.out.trans (hb4.mono hs3))
          have T04 := Lib.hid (T03.out.past hb4)
          have T14 := Lib.hid (T13.out.past hb4)
          have HC4 := Lib.hid ((hb4.cell (p := a'.add 0) (block_lt_of_cell HC3.out)).trans HC3.out)
          have HL4 := Lib.hid hl4
          have HR4 := Lib.hid hr4
          have HNW4 := Lib.hid hnw4
          clear hb4 hl4 hr4 hnw4
          cases hfit2 : fitB ((b.drop 9).take (N + 4)) with
          | false =>
            have hy5 : y = 5 := by rw [HY.out, HFB.out, hfit2]; rfl
            subst hy5
            have HG := Lib.hid (getS_bad (b := b) (by rw [HB.out]; omega) HFIT.out HN5.out hlong (by rw [HB.out]; exact hcut) hfit2)
            clear hfit2
            obtain ⟨r0, r1, r2, r3⟩ := T04.out
            obtain ⟨t0, t1, -, -⟩ := T14.out
            have HX := Lib.hid (T04.out.set (.int .u8 0) (.slice none 0 0))
            have HE := Lib.hid ((HB4.out.setCell (p := ⟨w.heap.size, 0, none⟩) (Nat.le_refl _) (.int .u8 0)).setCell (p := ⟨w.heap.size, 1, none⟩) (Nat.le_refl _) (.slice none 0 0))
            obtain ⟨s0, s1, -, -⟩ := HX.out
            go_wp2
            exact bodyPost_ret (v := .tuple #[.agg #[.int .u8 0, .slice none 0 0], .int .i64 0, .int .i64 5]) (by simp [results, Try.results14, go_sem, s0, s1]) rfl (sget_none HG.out HE.out)
          | true =>
            have hy0 : y = 0 := by rw [HY.out, HFB.out, hfit2]; rfl
            subst hy0
            have hbo2 : bo = (b.drop 9).take N := by
              rw [HBO.out]; unfold fitL
              rw [if_pos hfit2, HDL.out, List.take_take]
              congr 1; omega
            have hmN : m = N := by rw [← HL4.out, hbo2, List.length_take, List.length_drop, HB.out]; omega
            subst hmN
            have HG := Lib.hid (show getS b = (⟨u0, bo⟩, m + 13, 0) by
              rw [getS_good (b := b) (by rw [HB.out]; omega) HFIT.out HN5.out hlong (by rw [HB.out]; exact hcut) hfit2, HU0.out, hbo2])
            have c0 : w4.cell? ⟨a'.block, a'.off, a'.spot⟩ = some (.int .u8 (u0.toNat : Int)) := HC4.out
            obtain ⟨r0, r1, r2, r3⟩ := T04.out
            have HX := Lib.hid ((T04.out.set (.int .u8 (u0.toNat : Int)) (.slice Y m dd)))
            have HE := Lib.hid ((HB4.out.setCell (p := ⟨w.heap.size, 0, none⟩) (Nat.le_refl _) (.int .u8 (u0.toNat : Int))).setCell (p := ⟨w.heap.size, 1, none⟩) (Nat.le_refl _) (.slice Y m dd))
            obtain ⟨s0, s1, -, -⟩ := HX.out
            clear hfit2 hbo2
            go_wp2
            exact bodyPost_ret (v := .tuple #[.agg #[.int .u8 (u0.toNat : Int), .slice Y m dd], .int .i64 ((m : Int) + 13), .int .i64 0]) (by simp [results, Try.results14, go_sem, s0, s1]) rfl (by
              rw [HG.out]
              exact ⟨HE.out, Y, m, dd, rfl, HL4.out, by omega, rd_store HR4.out HNW4.out T03.out.here _ _, fun h => by
                obtain ⟨g, e, hg⟩ := HNW4.out h
                exact ⟨g, e, by have := T03.out.here; omega⟩⟩)
theorem ref_fget_any (A : Option Addr) (n c : Nat) (b : List UInt8) (w : World) (hb : b.length = n) (hc : n ≤ c) (hc63 : c ≤ 9223372036854775807) (hr : Rd w w.heap.size A b) :
    Calls Try.prog 14 #[.slice A n c] w (SGetPost w (getS b)) := by
  by_cases h : n < 9
  · exact ref_fget_short A n c b w hb h
  · obtain ⟨a, rfl, -⟩ := hr (by omega)
    exact ref_fget_long a n c b w hb hc hc63 (by omega) hr
end Go.Proofs.Ytinalnjekbfifaa
