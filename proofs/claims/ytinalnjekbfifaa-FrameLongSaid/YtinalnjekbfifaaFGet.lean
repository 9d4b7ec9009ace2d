/- The section in front of bytes, the program's. -/
import Derived.Test.YtinalnjekbfifaaFront
namespace Go.Proofs.Ytinalnjekbfifaa
open Go.RowKit Cr Me Fr

/-- A section, how many bytes it has, and an error's number are answered. -/
def SGetPost (w : World) (R : SecD × Nat × Int) (e : Ending) (w' : World) : Prop :=
  Below w.heap.size w w' ∧ ∃ A n c, e = .returned (.tuple #[.agg #[.int .u8 (R.1.kind.toNat : Int), .slice A n c], .int .i64 (R.2.1 : Int), .int .i64 R.2.2]) ∧ R.1.body.length = n ∧ n ≤ 1048576 ∧ Rd w' w'.heap.size A R.1.body ∧ (0 < R.1.body.length → ∃ a, A = some a ∧ w.heap.size ≤ a.block)
theorem sget_none {w w' : World} {R : SecD × Nat × Int} {x : Int} (h : R = (noSec, 0, x)) (hb : Below w.heap.size w w') :
    SGetPost w R (.returned (.tuple #[.agg #[.int .u8 0, .slice none 0 0], .int .i64 0, .int .i64 x])) w' := by
  subst h
  exact ⟨hb, none, 0, 0, rfl, rfl, by omega, Rd.empty, fun h => by simp [noSec] at h⟩
set_option maxRecDepth 100000 in
set_option maxHeartbeats 1000000 in
theorem fget_short (A : Option Addr) (n c : Nat) (b : List UInt8) (w : World) (hb : b.length = n) (hn : n < 9) :
    Calls Try.prog 13 #[.slice A n c] w (SGetPost w (getS b)) := by
  have HG := Lib.hid (getS_short (b := b) (by omega))
  have HB := Lib.hid (show Below w.heap.size w (w.alloc (.cells #[.int .u8 0, .slice none 0 0] 30)) from (Below.refl _ _).alloc (Nat.le_refl _) _)
  obtain ⟨r0, r1, -, -⟩ := Two.new w (.int .u8 0) (.slice none 0 0) 30
  clear hb
  go_enter Try.func13, Try.ntmps13
  go_wp2_with fail
  refine (front_short A n c 5 _ hn (by omega)).mono ?_
  rintro e w' ⟨rfl, rfl⟩
  go_wp2
  exact bodyPost_ret (v := .tuple #[.agg #[.int .u8 0, .slice none 0 0], .int .i64 0, .int .i64 2]) (by simp [results, Try.results13, go_sem, r0, r1]) rfl (sget_none HG.out HB.out)
theorem fitB_nine {b : List UInt8} (hb : 9 ≤ b.length) : fitC (b.take 9) = if fitB (b.take 9) then 0 else 5 := by
  unfold fitC
  rw [if_neg (by rw [List.length_take]; omega)]
set_option maxRecDepth 100000 in
set_option maxHeartbeats 2000000 in
theorem fget_long (a : Addr) (n c : Nat) (b : List UInt8) (w : World) (hb : b.length = n) (hc : n ≤ c) (hc63 : c ≤ 9223372036854775807) (hn : 9 ≤ n) (hr : Rd w w.heap.size (some a) b) :
    Calls Try.prog 13 #[.slice (some a) n c] w (SGetPost w (getS b)) := by
  have T := Lib.hid (Two.new w (.int .u8 0) (.slice none 0 0) 30)
  have HB1 := Lib.hid (show Below w.heap.size w (w.alloc (.cells #[.int .u8 0, .slice none 0 0] 30)) from (Below.refl _ _).alloc (Nat.le_refl _) _)
  have HB := Lib.hid hb
  have HR := Lib.hid hr
  have HF := Lib.hid (fitB_nine (b := b) (by omega))
  obtain ⟨z, hz⟩ : ∃ z, z = fitC (b.take 9) := ⟨_, rfl⟩
  obtain ⟨h, hh⟩ : ∃ h, h = fitL (b.take 9) := ⟨_, rfl⟩
  have HZ := Lib.hid hz
  have HH := Lib.hid hh
  clear hb hr hz hh
  go_enter Try.func13, Try.ntmps13
  go_wp2_with fail
  generalize w.alloc (.cells #[.int .u8 0, .slice none 0 0] 30) = w1 at *
  refine (front_full (some a) n c 5 b w1 HB.out hc (by omega) (by omega) ((HR.out.below HB1.out).more HB1.out.size)).mono ?_
  rw [← HZ.out, ← HH.out]
  rintro e w2 ⟨hb2, X, m, d, rfl, hl2, -, hr2, -⟩
  have HB2 := Lib.hid (HB1.out.trans (hb2.mono HB1.out.size))
  have T2 := Lib.hid (T.out.past hb2)
  have HL2 := Lib.hid hl2
  have HR2 := Lib.hid hr2
  clear hb2 hl2 hr2
  cases hfit : fitB (b.take 9) with
  | false =>
    have hz5 : z = 5 := by rw [HZ.out, HF.out, hfit]; rfl
    subst hz5
    have HG := Lib.hid (getS_head (b := b) (by rw [HB.out]; omega) hfit)
    obtain ⟨r0, r1, r2, r3⟩ := T2.out
    have HX := Lib.hid ((T2.out.set (.int .u8 0) (.slice none 0 0)))
    obtain ⟨s0, s1, -, -⟩ := HX.out
    have HE := Lib.hid ((HB2.out.setCell (p := ⟨w.heap.size, 0, none⟩) (Nat.le_refl _) (.int .u8 0)).setCell (p := ⟨w.heap.size, 1, none⟩) (Nat.le_refl _) (.slice none 0 0))
    clear hfit
    go_wp2
    exact bodyPost_ret (v := .tuple #[.agg #[.int .u8 0, .slice none 0 0], .int .i64 0, .int .i64 5]) (by simp [results, Try.results13, go_sem, s0, s1]) rfl (sget_none HG.out HE.out)
  | true =>
    have hz0 : z = 0 := by rw [HZ.out, HF.out, hfit]; rfl
    subst hz0
    have hh5 : h = b.take 5 := by
      rw [HH.out]; unfold fitL
      rw [if_pos hfit, List.length_take, List.take_take, HB.out]
      congr 1; omega
    have hm5 : m = 5 := by rw [← HL2.out, hh5, List.length_take, HB.out]; omega
    subst hm5
    obtain ⟨a', u0, hX, -, hu0, hcu0⟩ := HR2.out.at (k := 0) (by rw [HL2.out]; omega)
    subst hX
    obtain ⟨N, hN⟩ : ∃ N, N = lenOf h := ⟨_, rfl⟩
    have hN32 : N < 4294967296 := by rw [hN]; exact lenOf_lt _
    have hN5 : N = lenOf (b.take 5) := by rw [hN, hh5]
    have HN := Lib.hid hN
    have HN5 := Lib.hid hN5
    have HU0 := Lib.hid (show b.getD 0 0 = u0 by
      rw [hh5, List.getElem?_take, if_pos (by omega)] at hu0
      rw [List.getD_eq_getElem?_getD, hu0]; rfl)
    have hu8 := u0.toNat_lt
    have HFIT := Lib.hid hfit
    clear hN hN5 hu0 hfit hh5
    go_wp2_with fail
    refine (bodyBytes_any a' d h w2 HL2.out HR2.out).mono ?_
    rw [← HN.out]
    rintro e w3 ⟨rfl, hb3⟩
    have HB3 := Lib.hid (HB2.out.trans (hb3.mono HB2.out.size))
    have T3 := Lib.hid (T2.out.past hb3)
    have HC0 := Lib.hid ((hb3.cell (p := a'.add 0) (block_lt_of_cell hcu0)).trans hcu0)
    have hs3 := HB3.out.size
    clear hb3 hcu0 T2
    obtain ⟨r0, r1, r2, r3⟩ := T3.out
    have HX := Lib.hid ((T3.out.set (.int .u8 0) (.slice none 0 0)))
    have HE := Lib.hid ((HB3.out.setCell (p := ⟨w.heap.size, 0, none⟩) (Nat.le_refl _) (.int .u8 0)).setCell (p := ⟨w.heap.size, 1, none⟩) (Nat.le_refl _) (.slice none 0 0))
    by_cases hlong : 1048576 < N
    · have d2 : decide ((1048576 : Int) < (N : Int)) = true := by simp; omega
      have HG := Lib.hid (getS_long (b := b) (by rw [HB.out]; omega) HFIT.out HN5.out hlong)
      obtain ⟨s0, s1, -, -⟩ := HX.out
      go_wp2
      exact bodyPost_ret (v := .tuple #[.agg #[.int .u8 0, .slice none 0 0], .int .i64 0, .int .i64 4]) (by simp [results, Try.results13, go_sem, s0, s1]) rfl (sget_none HG.out HE.out)
    · have d2 : decide ((1048576 : Int) < (N : Int)) = false := by simp; omega
      have q1 : (9 : Int) ≤ (n : Int) := by omega
      have q2 : (n : Int) ≤ (c : Int) := by omega
      clear HX HE
      by_cases hcut : n < N + 13
      · have HG := Lib.hid (getS_cut (b := b) (by rw [HB.out]; omega) HFIT.out HN5.out hlong (by rw [HB.out]; exact hcut))
        by_cases hc9 : c = 9
        · have hn9 : n = 9 := by omega
          subst hc9 hn9
          go_wp2_with fail
          refine (front_short (some a) 0 0 N w3 (by omega) (by omega)).mono ?_
          rintro e w' ⟨rfl, rfl⟩
          have HX := Lib.hid ((T3.out.set (.int .u8 0) (.slice none 0 0)))
          have HE := Lib.hid ((HB3.out.setCell (p := ⟨w.heap.size, 0, none⟩) (Nat.le_refl _) (.int .u8 0)).setCell (p := ⟨w.heap.size, 1, none⟩) (Nat.le_refl _) (.slice none 0 0))
          obtain ⟨s0, s1, -, -⟩ := HX.out
          go_wp2
          exact bodyPost_ret (v := .tuple #[.agg #[.int .u8 0, .slice none 0 0], .int .i64 0, .int .i64 2]) (by simp [results, Try.results13, go_sem, s0, s1]) rfl (sget_none HG.out HE.out)
        · go_wp2_with fail
          refine (front_short (some ⟨a.block, a.off + 9, none⟩) (n - 9) (c - 9) N w3 (by omega) (by omega)).mono ?_
          rintro e w' ⟨rfl, rfl⟩
          have HX := Lib.hid ((T3.out.set (.int .u8 0) (.slice none 0 0)))
          have HE := Lib.hid ((HB3.out.setCell (p := ⟨w.heap.size, 0, none⟩) (Nat.le_refl _) (.int .u8 0)).setCell (p := ⟨w.heap.size, 1, none⟩) (Nat.le_refl _) (.slice none 0 0))
          obtain ⟨s0, s1, -, -⟩ := HX.out
          go_wp2
          exact bodyPost_ret (v := .tuple #[.agg #[.int .u8 0, .slice none 0 0], .int .i64 0, .int .i64 2]) (by simp [results, Try.results13, go_sem, s0, s1]) rfl (sget_none HG.out HE.out)
      · have hc9 : ¬ c = 9 := by omega
        have HD := Lib.hid (show Rd w3 w3.heap.size (some ⟨a.block, a.off + 9, none⟩) (b.drop 9) from by
          have := ((HR.out.below HB3.out).more hs3).drop (k := 9) (cap := c) (by rw [HB.out]; exact hc)
          rw [if_neg hc9] at this
          exact this)
        have HDL := Lib.hid (show (b.drop 9).length = n - 9 by rw [List.length_drop, HB.out])
        have HFB := Lib.hid (show fitC ((b.drop 9).take (N + 4)) = if fitB ((b.drop 9).take (N + 4)) then 0 else 5 by
          unfold fitC
          rw [if_neg (by rw [List.length_take, HDL.out]; omega)])
        obtain ⟨y, hy⟩ : ∃ y, y = fitC ((b.drop 9).take (N + 4)) := ⟨_, rfl⟩
        obtain ⟨bo, hbo⟩ : ∃ bo, bo = fitL ((b.drop 9).take (N + 4)) := ⟨_, rfl⟩
        have HY := Lib.hid hy
        have HBO := Lib.hid hbo
        clear hy hbo
        go_wp2_with fail
        refine (front_full (some ⟨a.block, a.off + 9, none⟩) (n - 9) (c - 9) N (b.drop 9) w3 HDL.out (by omega) (by omega) (by omega) HD.out).mono ?_
        rw [← HY.out, ← HBO.out]
        rintro e w4 ⟨hb4, Y, m, dd, rfl, hl4, hm4, hr4, hnw4⟩
        have HB4 := Lib.hid (HB3.out.trans (hb4.mono hs3))
        have T4 := Lib.hid (T3.out.past hb4)
        have HC4 := Lib.hid ((hb4.cell (p := a'.add 0) (block_lt_of_cell HC0.out)).trans HC0.out)
        have HL4 := Lib.hid hl4
        have HR4 := Lib.hid hr4
        have HNW4 := Lib.hid hnw4
        have hs4 := HB4.out.size
        clear hb4 hl4 hr4 hnw4 r0 r1 r2 r3
        obtain ⟨r0, r1, r2, r3⟩ := T4.out
        cases hfit2 : fitB ((b.drop 9).take (N + 4)) with
        | false =>
          have hy5 : y = 5 := by rw [HY.out, HFB.out, hfit2]; rfl
          subst hy5
          have HG := Lib.hid (getS_bad (b := b) (by rw [HB.out]; omega) HFIT.out HN5.out hlong (by rw [HB.out]; exact hcut) hfit2)
          have HX := Lib.hid ((T4.out.set (.int .u8 0) (.slice none 0 0)))
          have HE := Lib.hid ((HB4.out.setCell (p := ⟨w.heap.size, 0, none⟩) (Nat.le_refl _) (.int .u8 0)).setCell (p := ⟨w.heap.size, 1, none⟩) (Nat.le_refl _) (.slice none 0 0))
          obtain ⟨s0, s1, -, -⟩ := HX.out
          clear hfit2
          go_wp2
          exact bodyPost_ret (v := .tuple #[.agg #[.int .u8 0, .slice none 0 0], .int .i64 0, .int .i64 5]) (by simp [results, Try.results13, go_sem, s0, s1]) rfl (sget_none HG.out HE.out)
        | true =>
          have hy0 : y = 0 := by rw [HY.out, HFB.out, hfit2]; rfl
          subst hy0
          have hbo2 : bo = (b.drop 9).take N := by
            rw [HBO.out]; unfold fitL
            rw [if_pos hfit2, List.length_take, HDL.out, List.take_take]
            congr 1; omega
          have hmN : m = N := by rw [← HL4.out, hbo2, List.length_take, HDL.out]; omega
          subst hmN
          have HG := Lib.hid (show getS b = (⟨u0, bo⟩, m + 13, 0) by
            rw [getS_good (b := b) (by rw [HB.out]; omega) HFIT.out HN5.out hlong (by rw [HB.out]; exact hcut) hfit2, HU0.out, hbo2])
          have c0 : w4.cell? ⟨a'.block, a'.off, a'.spot⟩ = some (.int .u8 (u0.toNat : Int)) := HC4.out
          have HX := Lib.hid ((T4.out.set (.int .u8 (u0.toNat : Int)) (.slice Y m dd)))
          have HE := Lib.hid ((HB4.out.setCell (p := ⟨w.heap.size, 0, none⟩) (Nat.le_refl _) (.int .u8 (u0.toNat : Int))).setCell (p := ⟨w.heap.size, 1, none⟩) (Nat.le_refl _) (.slice Y m dd))
          obtain ⟨s0, s1, -, -⟩ := HX.out
          clear hfit2 hbo2
          go_wp2
          exact bodyPost_ret (v := .tuple #[.agg #[.int .u8 (u0.toNat : Int), .slice Y m dd], .int .i64 (9 + (m : Int) + 4), .int .i64 0]) (by simp [results, Try.results13, go_sem, s0, s1]) rfl (by
            rw [HG.out]
            exact ⟨HE.out, Y, m, dd, (by rw [show (9 : Int) + (m : Int) + 4 = ((m + 13 : Nat) : Int) by omega]), HL4.out, by omega, rd_store HR4.out HNW4.out T3.out.here _ _, fun h => by
              obtain ⟨g, e, hg⟩ := HNW4.out h
              exact ⟨g, e, by have := T3.out.here; omega⟩⟩)
theorem fget_any (A : Option Addr) (n c : Nat) (b : List UInt8) (w : World) (hb : b.length = n) (hc : n ≤ c) (hc63 : c ≤ 9223372036854775807) (hr : Rd w w.heap.size A b) :
    Calls Try.prog 13 #[.slice A n c] w (SGetPost w (getS b)) := by
  by_cases h : n < 9
  · exact fget_short A n c b w hb h
  · obtain ⟨a, rfl, -⟩ := hr (by omega)
    exact fget_long a n c b w hb hc hc63 (by omega) hr
end Go.Proofs.Ytinalnjekbfifaa
