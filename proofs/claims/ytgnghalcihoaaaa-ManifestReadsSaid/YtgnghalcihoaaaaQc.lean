/- Merged: FitC, RefFGet, Ren, RGetM. -/
import Derived.Test.YtgnghalcihoaaaaFitR
import Derived.Test.YtgnghalcihoaaaaQb
import Derived.Test.YtgnghalcihoaaaaQa
import Derived.Test.YtgnghalcihoaaaaRMay
/-! Whether bytes fit, the document's answer: the capacity besides. -/
namespace Go.Proofs.Ytgnghalcihoaaaa
open Go.RowKit Cr Me

/-- As FTells; the capacity besides. -/
def FTellsC (w : World) (l : List UInt8) (code : Int) (e : Ending) (w' : World) : Prop :=
  Below w.heap.size w w' ∧ ∃ X n c, e = .returned (.tuple #[.slice X n c, .int .i64 code]) ∧ l.length = n ∧ n ≤ 140737488355328 ∧ Rd w' w'.heap.size X l ∧ (0 < l.length → ∃ a, X = some a ∧ w.heap.size ≤ a.block) ∧ n ≤ c
theorem ref_fits_cap (A : Option Addr) (n c : Nat) (l : List UInt8) (w : World) (hl : l.length = n) (hc : n ≤ c) (hn : n ≤ 70368744177664) (hr : Rd w w.heap.size A l) :
    Calls Try.prog 68 #[.slice A n c] w fun e w' => FTellsC w (fitL l) (fitC l) e w' := by
  by_cases h4 : n < 4
  · refine (ref_fits_short A n c w h4).mono fun e w' ⟨hb, X, cx, he, _, hnw, _⟩ => ?_
    have hb2 : fitB l = false := by unfold fitB; simp; omega
    exact ⟨hb, X, 0, cx, by rw [he]; unfold fitC; rw [if_pos (by omega)]; rfl, by unfold fitL; rw [hb2]; rfl, by omega, by unfold fitL; rw [hb2]; exact Rd.empty, by unfold fitL; rw [hb2]; exact fun h => by simp at h, Nat.zero_le _⟩
  · obtain ⟨k, rfl⟩ : ∃ k, n = k + 4 := ⟨n - 4, by omega⟩
    obtain ⟨a, rfl, -⟩ := hr (by omega)
    have hf := fitB_of hl
    refine (ref_fits_long a k c l w hl hc (by omega) hr _ rfl).mono fun e w' ⟨hb, X, cx, he, hx, hnw, hcx⟩ => ?_
    rw [← hf] at he hx hnw hcx
    have e1 : fitL l = if fitB l = true then l.take k else [] := by unfold fitL; rw [hl]; simp
    have e2 : fitC l = if fitB l = true then 0 else 5 := by unfold fitC; rw [if_neg (by omega)]
    rw [← e1, ← e2] at he
    rw [← e1] at hx hnw hcx
    refine ⟨hb, X, _, cx, he, rfl, ?_, hx, hnw, hcx⟩
    rw [e1]
    split
    · rw [List.length_take]; omega
    · simp

end Go.Proofs.Ytgnghalcihoaaaa

/-! The section in front of bytes, the document's. -/
namespace Go.Proofs.Ytgnghalcihoaaaa
open Go.RowKit Cr Me Fr

/-- What is known of each slot of the head's length. -/
def rlG (a : Addr) (c : Nat) (p1 p2 p3 p4 : Nat) : Gw.Fact := fun t v _ =>
  match t with
  | 6 | 26 | 30 | 36 | 42 => v = .slice (some a) 5 c
  | 27 => v = .pointer (some (a.add 1))
  | 31 => v = .pointer (some (a.add 2))
  | 37 => v = .pointer (some (a.add 3))
  | 43 => v = .pointer (some (a.add 4))
  | 28 => v = .int .u8 (p1 : Int)
  | 29 => v = .int .i64 (p1 : Int)
  | 32 => v = .int .u8 (p2 : Int)
  | 33 => v = .int .i64 (p2 : Int)
  | 34 => v = .int .i64 ((256 * p2 : Nat) : Int)
  | 35 => v = .int .i64 ((p1 + 256 * p2 : Nat) : Int)
  | 38 => v = .int .u8 (p3 : Int)
  | 39 => v = .int .i64 (p3 : Int)
  | 40 => v = .int .i64 ((65536 * p3 : Nat) : Int)
  | 41 => v = .int .i64 ((p1 + 256 * p2 + 65536 * p3 : Nat) : Int)
  | 44 => v = .int .u8 (p4 : Int)
  | 45 => v = .int .i64 (p4 : Int)
  | 46 => v = .int .i64 ((16777216 * p4 : Nat) : Int)
  | 8 | 47 => v = .int .i64 ((p1 + 256 * p2 + 65536 * p3 + 16777216 * p4 : Nat) : Int)
  | _ => True
theorem four_cells {w : World} {a : Addr} {h : List UInt8} (hl : h.length = 5) (hr : Rd w w.heap.size (some a) h) :
    ∃ p1 p2 p3 p4 : Nat, p1 < 256 ∧ p2 < 256 ∧ p3 < 256 ∧ p4 < 256 ∧ lenOf h = p1 + 256 * p2 + 65536 * p3 + 16777216 * p4 ∧ a.block < w.heap.size ∧
      w.cell? (a.add 1) = some (.int .u8 (p1 : Int)) ∧ w.cell? (a.add 2) = some (.int .u8 (p2 : Int)) ∧ w.cell? (a.add 3) = some (.int .u8 (p3 : Int)) ∧ w.cell? (a.add 4) = some (.int .u8 (p4 : Int)) := by
  have cell : ∀ i, i < 5 → ∃ u : UInt8, h[i]? = some u ∧ w.cell? (a.add i) = some (.int .u8 (u.toNat : Int)) ∧ a.block < w.heap.size := by
    intro i hi
    obtain ⟨a', u, e, hb, hu, hcell⟩ := hr.at (k := i) (by omega)
    cases e
    exact ⟨u, hu, hcell, hb⟩
  obtain ⟨u1, g1, c1, hab⟩ := cell 1 (by omega)
  obtain ⟨u2, g2, c2, -⟩ := cell 2 (by omega)
  obtain ⟨u3, g3, c3, -⟩ := cell 3 (by omega)
  obtain ⟨u4, g4, c4, -⟩ := cell 4 (by omega)
  refine ⟨u1.toNat, u2.toNat, u3.toNat, u4.toNat, u1.toNat_lt, u2.toNat_lt, u3.toNat_lt, u4.toNat_lt, ?_, hab, c1, c2, c3, c4⟩
  unfold lenOf
  rw [List.getD_eq_getElem?_getD, List.getD_eq_getElem?_getD, List.getD_eq_getElem?_getD, List.getD_eq_getElem?_getD, g1, g2, g3, g4]
  rfl
/-- As SGetPost; the capacity besides. -/
def SGetC (w : World) (R : SecD × Nat × Int) (e : Ending) (w' : World) : Prop :=
  Below w.heap.size w w' ∧ ∃ A n c, e = .returned (.tuple #[.agg #[.int .u8 (R.1.kind.toNat : Int), .slice A n c], .int .i64 (R.2.1 : Int), .int .i64 R.2.2]) ∧ R.1.body.length = n ∧ n ≤ 1048576 ∧ Rd w' w'.heap.size A R.1.body ∧ (0 < R.1.body.length → ∃ a, A = some a ∧ w.heap.size ≤ a.block) ∧ n ≤ c
theorem sgetc_none {w w' : World} {R : SecD × Nat × Int} {x : Int} (h : R = (noSec, 0, x)) (hb : Below w.heap.size w w') :
    SGetC w R (.returned (.tuple #[.agg #[.int .u8 0, .slice none 0 0], .int .i64 0, .int .i64 x])) w' := by
  subst h
  exact ⟨hb, none, 0, 0, rfl, rfl, by omega, Rd.empty, fun h => by simp [noSec] at h, Nat.zero_le _⟩
set_option maxRecDepth 100000 in
set_option maxHeartbeats 1000000 in
theorem ref_fget_short (A : Option Addr) (n c : Nat) (b : List UInt8) (w : World) (hb : b.length = n) (hn : n < 9) :
    Calls Try.prog 34 #[.slice A n c] w (SGetC w (getS b)) := by
  have HG := Lib.hid (getS_short (b := b) (by omega))
  have h1 : decide ((n : Int) < 9) = true := by simp; omega
  clear hb
  have hb1 : Below w.heap.size w (w.alloc (.cells #[.int .u8 0, .slice none 0 0] 68)) := (Below.refl _ _).alloc (Nat.le_refl _) _
  have HE := Lib.hid (hb1.alloc hb1.size (.cells #[.int .u8 0, .slice none 0 0] 68))
  obtain ⟨r0, r1, -, -⟩ := (Two.new w (.int .u8 0) (.slice none 0 0) 68).alloc (.cells #[.int .u8 0, .slice none 0 0] 68)
  clear hb1
  go_enter Try.func34, Try.ntmps34
  go_wp2
  exact bodyPost_ret (v := .tuple #[.agg #[.int .u8 0, .slice none 0 0], .int .i64 0, .int .i64 2]) (by simp [results, Try.results34, go_sem, r0, r1]) rfl (sgetc_none HG.out HE.out)
set_option maxRecDepth 100000 in
set_option maxHeartbeats 2000000 in
theorem ref_fget_long (a : Addr) (n c : Nat) (b : List UInt8) (w : World) (hb : b.length = n) (hc : n ≤ c) (hc63 : c ≤ 9223372036854775807) (hn : 9 ≤ n) (hr : Rd w w.heap.size (some a) b) :
    Calls Try.prog 34 #[.slice (some a) n c] w (SGetC w (getS b)) := by
  have HB := Lib.hid hb
  have HR := Lib.hid hr
  have HF := Lib.hid (fitB_nine (b := b) (by omega))
  have d1 : decide ((n : Int) < 9) = false := by simp; omega
  obtain ⟨z, hz⟩ : ∃ z, z = fitC (b.take 9) := ⟨_, rfl⟩
  obtain ⟨h, hh⟩ : ∃ h, h = fitL (b.take 9) := ⟨_, rfl⟩
  have HZ := Lib.hid hz
  have HH := Lib.hid hh
  clear hb hr hz hh
  have q0 : (9 : Int) ≤ (c : Int) := by omega
  have T0 := Lib.hid ((Two.new w (.int .u8 0) (.slice none 0 0) 68).alloc (.cells #[.int .u8 0, .slice none 0 0] 68))
  have T1 := Lib.hid (Two.new' (H := w.heap.size + 1) (w.alloc (.cells #[.int .u8 0, .slice none 0 0] 68)) (.int .u8 0) (.slice none 0 0) 68 (by simp))
  have hb1 : Below w.heap.size w (w.alloc (.cells #[.int .u8 0, .slice none 0 0] 68)) := (Below.refl _ _).alloc (Nat.le_refl _) _
  have HB1 := Lib.hid (hb1.alloc hb1.size (.cells #[.int .u8 0, .slice none 0 0] 68))
  clear hb1
  go_enter Try.func34, Try.ntmps34
  go_wp2_with fail
  generalize (w.alloc (.cells #[.int .u8 0, .slice none 0 0] 68)).alloc (.cells #[.int .u8 0, .slice none 0 0] 68) = w1 at *
  refine (ref_fits_all (some a) 9 c (b.take 9) w1 (by rw [List.length_take, HB.out]; omega) (by omega) (by omega) (((HR.out.below HB1.out).more HB1.out.size).take 9)).mono ?_
  rw [← HZ.out, ← HH.out]
  rintro e w2 ⟨hb2, X, m, d, rfl, hl2, -, hr2, -⟩
  have HB2 := Lib.hid (HB1.out.trans (hb2.mono HB1.out.size))
  have T02 := Lib.hid (T0.out.past hb2)
  have T12 := Lib.hid (T1.out.past hb2)
  have HL2 := Lib.hid hl2
  have HR2 := Lib.hid hr2
  clear hb2 hl2 hr2
  cases hfit : fitB (b.take 9) with
  | false =>
    have hz5 : z = 5 := by rw [HZ.out, HF.out, hfit]; rfl
    subst hz5
    have HG := Lib.hid (getS_head (b := b) (by rw [HB.out]; omega) hfit)
    clear hfit
    obtain ⟨r0, r1, r2, r3⟩ := T02.out
    obtain ⟨t0, t1, -, -⟩ := T12.out
    have HX := Lib.hid (T02.out.set (.int .u8 0) (.slice none 0 0))
    have HE := Lib.hid ((HB2.out.setCell (p := ⟨w.heap.size, 0, none⟩) (Nat.le_refl _) (.int .u8 0)).setCell (p := ⟨w.heap.size, 1, none⟩) (Nat.le_refl _) (.slice none 0 0))
    obtain ⟨s0, s1, -, -⟩ := HX.out
    go_wp2
    exact bodyPost_ret (v := .tuple #[.agg #[.int .u8 0, .slice none 0 0], .int .i64 0, .int .i64 5]) (by simp [results, Try.results34, go_sem, s0, s1]) rfl (sgetc_none HG.out HE.out)
  | true =>
    have hz0 : z = 0 := by rw [HZ.out, HF.out, hfit]; rfl
    subst hz0
    have hh5 : h = b.take 5 := by
      rw [HH.out]; unfold fitL
      rw [if_pos hfit, List.length_take, List.take_take, HB.out]
      congr 1; omega
    have hm5 : m = 5 := by rw [← HL2.out, hh5, List.length_take, HB.out]; omega
    subst hm5
    obtain ⟨a', u0, hX, -, hu0, hcu0⟩ := HR2.out.at (k := 0) (by rw [HL2.out]; omega)
    subst hX
    obtain ⟨N, hN⟩ : ∃ N, N = lenOf h := ⟨_, rfl⟩
    have hN32 : N < 4294967296 := by rw [hN]; exact lenOf_lt _
    have hN5 : N = lenOf (b.take 5) := by rw [hN, hh5]
    have HN := Lib.hid hN
    have HN5 := Lib.hid hN5
    have HU0 := Lib.hid (show b.getD 0 0 = u0 by
      rw [hh5, List.getElem?_take, if_pos (by omega)] at hu0
      rw [List.getD_eq_getElem?_getD, hu0]; rfl)
    have hu8 := u0.toNat_lt
    have HFIT := Lib.hid hfit
    have HC0 := Lib.hid hcu0
    clear hN hN5 hu0 hfit hh5 hcu0
    go_wp2_with fail
    obtain ⟨p1, p2, p3, p4, b1, b2, b3, b4, hlen, hab, c1, c2, c3, c4⟩ := four_cells HL2.out HR2.out
    rw [← HN.out] at hlen
    have v1 : IntKind.i64.wrap (p1 : Int) = p1 := IntWalk.i64_in _ (by omega)
    have v2 : IntKind.i64.wrap (p2 : Int) = p2 := IntWalk.i64_in _ (by omega)
    have v3 : IntKind.i64.wrap (p3 : Int) = p3 := IntWalk.i64_in _ (by omega)
    have v4 : IntKind.i64.wrap (p4 : Int) = p4 := IntWalk.i64_in _ (by omega)
    have x2 : IntKind.i64.wrap (256 * (p2 : Int)) = 256 * p2 := IntWalk.i64_in _ (by omega)
    have x3 : IntKind.i64.wrap (65536 * (p3 : Int)) = 65536 * p3 := IntWalk.i64_in _ (by omega)
    have x4 : IntKind.i64.wrap (16777216 * (p4 : Int)) = 16777216 * p4 := IntWalk.i64_in _ (by omega)
    have y2 : IntKind.i64.wrap ((p1 : Int) + 256 * (p2 : Int)) = p1 + 256 * p2 := IntWalk.i64_in _ (by omega)
    have y3 : IntKind.i64.wrap ((p1 : Int) + 256 * (p2 : Int) + 65536 * (p3 : Int)) = p1 + 256 * p2 + 65536 * p3 := IntWalk.i64_in _ (by omega)
    have y4 : IntKind.i64.wrap ((p1 : Int) + 256 * (p2 : Int) + 65536 * (p3 : Int) + 16777216 * (p4 : Int)) = p1 + 256 * p2 + 65536 * p3 + 16777216 * p4 := IntWalk.i64_in _ (by omega)
    refine Gw.wp_region_grow (rlG a' d p1 p2 p3 p4) [26, 27, 28, 29, 30, 31, 32, 33, 34, 35, 36, 37, 38, 39, 40, 41, 42, 43, 44, 45, 46, 47, 8] [([6], none), ([26], none), ([27], none), ([28], none), ([6], none), ([30], none), ([31], none), ([32], none), ([33], none), ([29, 34], none), ([6], none), ([36], none), ([37], none), ([38], none), ([39], none), ([35, 40], none), ([6], none), ([42], none), ([43], none), ([44], none), ([45], none), ([41, 46], none), ([47], none)] 76 (by kernel_rfl) (by kernel_rfl) rfl ?h0 ?hreq ?hend
    case h0 =>
      intro t W hnd _
      unfold rlG
      split <;> first | rfl | trivial | exact absurd (by simp) hnd
    case hreq =>
      refine ⟨?_, ?_, ?_, ?_, ?_, ?_, ?_, ?_, ?_, ?_, ?_, ?_, ?_, ?_, ?_, ?_, ?_, ?_, ?_, ?_, ?_, ?_, ?_, trivial⟩
      all_goals
        intro ac W hg hk
        have hg' : Below w2.heap.size w2 W := hg
        have k1 : W.cell? ⟨a'.block, a'.off + 1, none⟩ = _ := (hg'.cell (p := a'.add 1) (by rw [block_add]; exact hab)).trans c1
        have k2 : W.cell? ⟨a'.block, a'.off + 2, none⟩ = _ := (hg'.cell (p := a'.add 2) (by rw [block_add]; exact hab)).trans c2
        have k3 : W.cell? ⟨a'.block, a'.off + 3, none⟩ = _ := (hg'.cell (p := a'.add 3) (by rw [block_add]; exact hab)).trans c3
        have k4 : W.cell? ⟨a'.block, a'.off + 4, none⟩ = _ := (hg'.cell (p := a'.add 4) (by rw [block_add]; exact hab)).trans c4
        simp only [Gw.Knows, rlG] at hk
        try (simp [go_sem, Gw.OpReq, Gw.Ok, Gw.Post, Gw.Holds, rlG, Gw.Grows.refl, hk, k1, k2, k3, k4, v1, v2, v3, v4, x2, x3, x4, y2, y3, y4]; done)
    case hend =>
      intro x w' hg hx
      have h8 : x 8 = .int .i64 (N : Int) := by rw [hlen]; exact (hx 8 (by simp)).now
      have hg3 : Below w2.heap.size w2 w' := hg
      clear v1 v2 v3 v4 x2 x3 x4 y2 y3 y4 c1 c2 c3 c4 hlen b1 b2 b3 b4 hx hg
      generalize w' = w3 at *
      have HB3 := Lib.hid (HB2.out.trans (hg3.mono HB2.out.size))
      have T03 := Lib.hid (T02.out.past hg3)
      have T13 := Lib.hid (T12.out.past hg3)
      have HC3 := Lib.hid ((hg3.cell (p := a'.add 0) (block_lt_of_cell HC0.out)).trans HC0.out)
      have hs3 := HB3.out.size
      clear hg3 hab
      simp only [Gw.putAll, Act.put, List.setIfInBounds_toArray, List.set_cons_zero, List.set_cons_succ]
      rw [h8]
      clear h8
      by_cases hlong : 1048576 < N
      · have d2 : decide ((1048576 : Int) < (N : Int)) = true := by simp; omega
        have HG := Lib.hid (getS_long (b := b) (by rw [HB.out]; omega) HFIT.out HN5.out hlong)
        obtain ⟨r0, r1, r2, r3⟩ := T03.out
        obtain ⟨t0, t1, -, -⟩ := T13.out
        have HX := Lib.hid (T03.out.set (.int .u8 0) (.slice none 0 0))
        have HE := Lib.hid ((HB3.out.setCell (p := ⟨w.heap.size, 0, none⟩) (Nat.le_refl _) (.int .u8 0)).setCell (p := ⟨w.heap.size, 1, none⟩) (Nat.le_refl _) (.slice none 0 0))
        obtain ⟨s0, s1, -, -⟩ := HX.out
        go_wp2
        exact bodyPost_ret (v := .tuple #[.agg #[.int .u8 0, .slice none 0 0], .int .i64 0, .int .i64 4]) (by simp [results, Try.results34, go_sem, s0, s1]) rfl (sgetc_none HG.out HE.out)
      · have d2 : decide ((1048576 : Int) < (N : Int)) = false := by simp; omega
        by_cases hcut : n < N + 13
        · have d3 : decide ((n : Int) < (N : Int) + 13) = true := by simp; omega
          have HG := Lib.hid (getS_cut (b := b) (by rw [HB.out]; omega) HFIT.out HN5.out hlong (by rw [HB.out]; exact hcut))
          obtain ⟨r0, r1, r2, r3⟩ := T03.out
          obtain ⟨t0, t1, -, -⟩ := T13.out
          have HX := Lib.hid (T03.out.set (.int .u8 0) (.slice none 0 0))
          have HE := Lib.hid ((HB3.out.setCell (p := ⟨w.heap.size, 0, none⟩) (Nat.le_refl _) (.int .u8 0)).setCell (p := ⟨w.heap.size, 1, none⟩) (Nat.le_refl _) (.slice none 0 0))
          obtain ⟨s0, s1, -, -⟩ := HX.out
          go_wp2
          exact bodyPost_ret (v := .tuple #[.agg #[.int .u8 0, .slice none 0 0], .int .i64 0, .int .i64 2]) (by simp [results, Try.results34, go_sem, s0, s1]) rfl (sgetc_none HG.out HE.out)
        · have d3 : decide ((n : Int) < (N : Int) + 13) = false := by simp; omega
          have hc9 : ¬ c = 9 := by omega
          have q3 : (N : Int) + 13 ≤ (c : Int) := by omega
          have q4 : (9 : Int) ≤ (N : Int) + 13 := by omega
          have HD := Lib.hid (show Rd w3 w3.heap.size (some ⟨a.block, a.off + 9, none⟩) ((b.drop 9).take (N + 4)) from by
            have := ((HR.out.below HB3.out).more hs3).drop (k := 9) (cap := c) (by rw [HB.out]; exact hc)
            rw [if_neg hc9] at this
            exact this.take _)
          have HDL := Lib.hid (show ((b.drop 9).take (N + 4)).length = N + 4 by rw [List.length_take, List.length_drop, HB.out]; omega)
          have HFB := Lib.hid (show fitC ((b.drop 9).take (N + 4)) = if fitB ((b.drop 9).take (N + 4)) then 0 else 5 by
            unfold fitC
            rw [if_neg (by rw [HDL.out]; omega)])
          obtain ⟨y, hy⟩ : ∃ y, y = fitC ((b.drop 9).take (N + 4)) := ⟨_, rfl⟩
          obtain ⟨bo, hbo⟩ : ∃ bo, bo = fitL ((b.drop 9).take (N + 4)) := ⟨_, rfl⟩
          have HY := Lib.hid hy
          have HBO := Lib.hid hbo
          clear hy hbo
          go_wp2_with fail
          refine (ref_fits_cap (some ⟨a.block, a.off + 9, none⟩) (N + 4) (c - 9) ((b.drop 9).take (N + 4)) w3 HDL.out (by omega) (by omega) HD.out).mono ?_
          rw [← HY.out, ← HBO.out]
          rintro e w4 ⟨hb4, Y, m, dd, rfl, hl4, hm4, hr4, hnw4, hcd4⟩
          have HCD := Lib.hid hcd4
          have HB4 := Lib.hid (HB3.out.trans (hb4.mono hs3))
          have T04 := Lib.hid (T03.out.past hb4)
          have T14 := Lib.hid (T13.out.past hb4)
          have HC4 := Lib.hid ((hb4.cell (p := a'.add 0) (block_lt_of_cell HC3.out)).trans HC3.out)
          have HL4 := Lib.hid hl4
          have HR4 := Lib.hid hr4
          have HNW4 := Lib.hid hnw4
          clear hb4 hl4 hr4 hnw4 hcd4
          cases hfit2 : fitB ((b.drop 9).take (N + 4)) with
          | false =>
            have hy5 : y = 5 := by rw [HY.out, HFB.out, hfit2]; rfl
            subst hy5
            have HG := Lib.hid (getS_bad (b := b) (by rw [HB.out]; omega) HFIT.out HN5.out hlong (by rw [HB.out]; exact hcut) hfit2)
            clear hfit2
            obtain ⟨r0, r1, r2, r3⟩ := T04.out
            obtain ⟨t0, t1, -, -⟩ := T14.out
            have HX := Lib.hid (T04.out.set (.int .u8 0) (.slice none 0 0))
            have HE := Lib.hid ((HB4.out.setCell (p := ⟨w.heap.size, 0, none⟩) (Nat.le_refl _) (.int .u8 0)).setCell (p := ⟨w.heap.size, 1, none⟩) (Nat.le_refl _) (.slice none 0 0))
            obtain ⟨s0, s1, -, -⟩ := HX.out
            go_wp2
            exact bodyPost_ret (v := .tuple #[.agg #[.int .u8 0, .slice none 0 0], .int .i64 0, .int .i64 5]) (by simp [results, Try.results34, go_sem, s0, s1]) rfl (sgetc_none HG.out HE.out)
          | true =>
            have hy0 : y = 0 := by rw [HY.out, HFB.out, hfit2]; rfl
            subst hy0
            have hbo2 : bo = (b.drop 9).take N := by
              rw [HBO.out]; unfold fitL
              rw [if_pos hfit2, HDL.out, List.take_take]
              congr 1; omega
            have hmN : m = N := by rw [← HL4.out, hbo2, List.length_take, List.length_drop, HB.out]; omega
            subst hmN
            have HG := Lib.hid (show getS b = (⟨u0, bo⟩, m + 13, 0) by
              rw [getS_good (b := b) (by rw [HB.out]; omega) HFIT.out HN5.out hlong (by rw [HB.out]; exact hcut) hfit2, HU0.out, hbo2])
            have c0 : w4.cell? ⟨a'.block, a'.off, a'.spot⟩ = some (.int .u8 (u0.toNat : Int)) := HC4.out
            obtain ⟨r0, r1, r2, r3⟩ := T04.out
            have HX := Lib.hid ((T04.out.set (.int .u8 (u0.toNat : Int)) (.slice Y m dd)))
            have HE := Lib.hid ((HB4.out.setCell (p := ⟨w.heap.size, 0, none⟩) (Nat.le_refl _) (.int .u8 (u0.toNat : Int))).setCell (p := ⟨w.heap.size, 1, none⟩) (Nat.le_refl _) (.slice Y m dd))
            obtain ⟨s0, s1, -, -⟩ := HX.out
            clear hfit2 hbo2
            go_wp2
            exact bodyPost_ret (v := .tuple #[.agg #[.int .u8 (u0.toNat : Int), .slice Y m dd], .int .i64 ((m : Int) + 13), .int .i64 0]) (by simp [results, Try.results34, go_sem, s0, s1]) rfl (by
              rw [HG.out]
              exact ⟨HE.out, Y, m, dd, rfl, HL4.out, by omega, rd_store HR4.out HNW4.out T03.out.here _ _, fun h => by
                obtain ⟨g, e, hg⟩ := HNW4.out h
                exact ⟨g, e, by have := T03.out.here; omega⟩, HCD.out⟩)
theorem ref_fget_cap (A : Option Addr) (n c : Nat) (b : List UInt8) (w : World) (hb : b.length = n) (hc : n ≤ c) (hc63 : c ≤ 9223372036854775807) (hr : Rd w w.heap.size A b) :
    Calls Try.prog 34 #[.slice A n c] w (SGetC w (getS b)) := by
  by_cases h : n < 9
  · exact ref_fget_short A n c b w hb h
  · obtain ⟨a, rfl, -⟩ := hr (by omega)
    exact ref_fget_long a n c b w hb hc hc63 (by omega) hr
theorem ref_fget_any (A : Option Addr) (n c : Nat) (b : List UInt8) (w : World) (hb : b.length = n) (hc : n ≤ c) (hc63 : c ≤ 9223372036854775807) (hr : Rd w w.heap.size A b) :
    Calls Try.prog 34 #[.slice A n c] w (SGetPost w (getS b)) :=
  (ref_fget_cap A n c b w hb hc hc63 hr).mono fun e w' ⟨hb, X, m, d, h1, h2, h3, h4, h5, _⟩ => ⟨hb, X, m, d, h1, h2, h3, h4, h5⟩
end Go.Proofs.Ytgnghalcihoaaaa

/-! The document's reader: bytes, the end. -/
namespace Go.Proofs.Ytgnghalcihoaaaa
open Go.RowKit Me Va

theorem rend_any (A : Option Addr) (n c : Nat) (l : List UInt8) (x : Int) (w : World) (hl : l.length = n) :
    Calls Try.prog 38 #[.agg #[.slice A n c, .int .i64 x]] w fun e w' => e = .returned (.int .i64 (endOf l x)) ∧ Below w.heap.size w w' := by
  have HL := Lib.hid hl
  clear hl
  by_cases hx : x = 0
  · have d1 : (x == 0) = true := by rw [hx]; rfl
    by_cases hn : 0 < n
    · have hp := Lib.hid (show endOf l x = 4 by unfold endOf; rw [if_pos ⟨hx, by rw [HL.out]; exact hn⟩])
      clear hx
      go_enter Try.func38, Try.ntmps38
      go_wp2
      go_ret
      exact ⟨ret_int hp.out.symm, (Below.refl _ _).alloc (Nat.le_refl _) _⟩
    · have hp := Lib.hid (show endOf l x = x by unfold endOf; rw [if_neg (by rw [HL.out]; omega)])
      clear hx
      go_enter Try.func38, Try.ntmps38
      go_wp2
      go_ret
      exact ⟨ret_int hp.out.symm, (Below.refl _ _).alloc (Nat.le_refl _) _⟩
  · have d1 : (x == 0) = false := by rw [beq_eq_false_iff_ne]; exact hx
    have hp := Lib.hid (show endOf l x = x by unfold endOf; rw [if_neg (by omega)])
    clear hx
    go_enter Try.func38, Try.ntmps38
    go_wp2
    go_ret
    exact ⟨ret_int hp.out.symm, (Below.refl _ _).alloc (Nat.le_refl _) _⟩
theorem three_new (w : World) (o o' o2 : Obj) : Below w.heap.size w (((w.alloc o).alloc o').alloc o2) := (two_new w o o').alloc (by simp; omega) _
/-- Bytes and what is left are answered. -/
def TellsB (w : World) (B : Nat) (out l : List UInt8) (x : Int) (e : Ending) (w' : World) : Prop :=
  Below w.heap.size w w' ∧ ∃ X m d A n c, e = .returned (.tuple #[.slice X m d, .agg #[.slice A n c, .int .i64 x]]) ∧ out.length = m ∧ Rd w B X out ∧ l.length = n ∧ n ≤ c ∧ Rd w B A l
theorem tellsB_of {w w' : World} {B m d n c : Nat} {X A : Option Addr} {out l : List UInt8} {x : Int} (hb : Below w.heap.size w w') (ho : out.length = m) (hx : Rd w B X out) (hl : l.length = n) (hc : n ≤ c) (hr : Rd w B A l) :
    TellsB w B out l x (.returned (.tuple #[.slice X m d, .agg #[.slice A n c, .int .i64 x]])) w' := ⟨hb, X, m, d, A, n, c, rfl, ho, hx, hl, hc, hr⟩
set_option maxRecDepth 100000 in
set_option maxHeartbeats 1000000 in
theorem rbytes_any (A : Option Addr) (n c : Nat) (l : List UInt8) (x k : Int) (w : World) (B : Nat) (hl : l.length = n) (hc : n ≤ c) (hr : Rd w B A l) :
    Calls Try.prog 36 #[.agg #[.slice A n c, .int .i64 x], .int .i64 k] w (TellsB w B (bytesOf l x k).1 (bytesOf l x k).2.1 (bytesOf l x k).2.2) := by
  have HL := Lib.hid hl
  have HR := Lib.hid hr
  clear hl hr
  by_cases hx : x = 0
  · have d1 : (x != 0) = false := by rw [hx]; rfl
    have HX := Lib.hid hx
    clear hx
    by_cases hk : k < 0
    · have hp := Lib.hid (show bytesOf l x k = ([], [], 1) by unfold bytesOf; rw [if_neg (by rw [HX.out]; simp), if_pos hk])
      rw [hp.out]
      go_enter Try.func36, Try.ntmps36
      go_wp2
      exact bodyPost_ret (v := .tuple #[.slice (some ⟨w.heap.size + 1 + 1, 0, none⟩) 0 0, .agg #[.slice none 0 0, .int .i64 1]]) (by simp [results, Try.results36, go_sem]) rfl (tellsB_of (three_new _ _ _ _) rfl Rd.empty rfl (Nat.le_refl _) Rd.empty)
    · by_cases hkn : (n : Int) < k
      · have hp := Lib.hid (show bytesOf l x k = ([], [], 2) by unfold bytesOf; rw [if_neg (by rw [HX.out]; simp), if_neg hk, if_pos (by rw [HL.out]; exact hkn)])
        rw [hp.out]
        go_enter Try.func36, Try.ntmps36
        go_wp2
        exact bodyPost_ret (v := .tuple #[.slice (some ⟨w.heap.size + 1 + 1, 0, none⟩) 0 0, .agg #[.slice none 0 0, .int .i64 2]]) (by simp [results, Try.results36, go_sem]) rfl (tellsB_of (three_new _ _ _ _) rfl Rd.empty rfl (Nat.le_refl _) Rd.empty)
      · obtain ⟨j, rfl⟩ := Int.eq_ofNat_of_zero_le (show 0 ≤ k by omega)
        have hjn : j ≤ n := by omega
        have hp := Lib.hid (show bytesOf l x (j : Int) = (l.take j, l.drop j, 0) by
          unfold bytesOf
          rw [if_neg (by rw [HX.out]; simp), if_neg (by omega), if_neg (by rw [HL.out]; omega)]; rfl)
        rw [hp.out]
        have HDR := Lib.hid (HR.out.drop (k := j) (cap := c) (by have := HL.out; omega))
        have HDL := Lib.hid (show (l.drop j).length = n - j by rw [List.length_drop, HL.out])
        have HTL := Lib.hid (show (l.take j).length = j by rw [List.length_take, HL.out]; omega)
        have HTR := Lib.hid (HR.out.take j)
        clear hk hkn
        go_enter Try.func36, Try.ntmps36
        go_wp2
        by_cases hck : c = j
        · go_region
          all_goals
            go_wp2
            exact bodyPost_ret (v := .tuple #[.slice A j j, .agg #[.slice A (n - j) 0, .int .i64 0]]) (by simp [results, Try.results36, go_sem]) rfl (tellsB_of (two_new_drew _ _ _) HTL.out HTR.out HDL.out (by omega) (by have := HDR.out; rw [if_pos hck] at this; exact this))
        · go_region
          all_goals
            go_wp2
            exact bodyPost_ret (v := .tuple #[.slice A j c, .agg #[.slice (A.map (·.add j)) (n - j) (c - j), .int .i64 0]]) (by simp [results, Try.results36, go_sem]) rfl (tellsB_of (two_new_drew _ _ _) HTL.out HTR.out HDL.out (by omega) (by have := HDR.out; rw [if_neg hck] at this; exact this))
  · have d1 : (x != 0) = true := by rw [bne_iff_ne]; exact hx
    have hp := Lib.hid (show bytesOf l x k = ([], l, x) by unfold bytesOf; rw [if_pos hx])
    rw [hp.out]
    clear hx
    go_enter Try.func36, Try.ntmps36
    go_wp2
    go_region
    all_goals
      go_wp2
      exact bodyPost_ret (v := .tuple #[.slice (some ⟨w.heap.size + 1 + 1, 0, none⟩) 0 0, .agg #[.slice A n c, .int .i64 x]]) (by simp [results, Try.results36, go_sem]) rfl (tellsB_of (three_new _ _ _ _).drew rfl Rd.empty HL.out hc HR.out)
end Go.Proofs.Ytgnghalcihoaaaa

/-! What stands while the document reads a manifest. -/
namespace Go.Proofs.Ytgnghalcihoaaaa
open Go.RowKit Me Mf Va Fr

/-- The document's reader in block b: bytes of the memory that came in. -/
def Mdr (W : World) (B : Nat) (w : World) (b : Nat) (l : List UInt8) (x : Int) : Prop :=
  ∃ A n c, Two w b (.slice A n c) (.int .i64 x) ∧ l.length = n ∧ n ≤ c ∧ n ≤ 70368744177664 ∧ Rd W B A l
/-- A number and what is left are answered: bytes of the memory W. -/
def RTells (W : World) (B : Nat) (w : World) (v : Value) (l : List UInt8) (x : Int) (e : Ending) (w' : World) : Prop :=
  Below w.heap.size w w' ∧ ∃ A n c, e = .returned (.tuple #[v, .agg #[.slice A n c, .int .i64 x]]) ∧ l.length = n ∧ n ≤ c ∧ n ≤ 70368744177664 ∧ Rd W B A l
theorem rn_any {W w : World} {B n c : Nat} {A : Option Addr} {l : List UInt8} {x : Int} (most : Nat) (hW : Below B W w) (hB : B ≤ W.heap.size) (hl : l.length = n) (hc : n ≤ c) (hn : n ≤ 70368744177664) (hr : Rd W B A l) :
    Calls Try.prog 35 #[.agg #[.slice A n c, .int .i64 x], .int .u64 (most : Int)] w (RTells W B w (.int .u64 ((numOf l x most).1 : Int)) (numOf l x most).2.1 (numOf l x most).2.2) := by
  refine (rnum_any A n c l x most w B hl hc hn (hr.below hW) (Nat.le_trans hB hW.size)).mono ?_
  rintro e w1 ⟨hb, A1, n1, c1, rfl, h1, h2, h3⟩
  refine ⟨hb, A1, n1, c1, rfl, h1, h2, ?_, rd_back h3 hW⟩
  have := (numOf_len l x most).1
  omega
/-- Bytes and what is left are answered: bytes of the memory W. -/
def RTellsB (W : World) (B : Nat) (w : World) (out l : List UInt8) (x : Int) (e : Ending) (w' : World) : Prop :=
  Below w.heap.size w w' ∧ ∃ X m d A n c, e = .returned (.tuple #[.slice X m d, .agg #[.slice A n c, .int .i64 x]]) ∧ out.length = m ∧ Rd W B X out ∧ l.length = n ∧ n ≤ c ∧ n ≤ 70368744177664 ∧ Rd W B A l
theorem rb_any {W w : World} {B n c : Nat} {A : Option Addr} {l : List UInt8} {x : Int} (k : Int) (hW : Below B W w) (hl : l.length = n) (hc : n ≤ c) (hn : n ≤ 70368744177664) (hr : Rd W B A l) :
    Calls Try.prog 36 #[.agg #[.slice A n c, .int .i64 x], .int .i64 k] w (RTellsB W B w (bytesOf l x k).1 (bytesOf l x k).2.1 (bytesOf l x k).2.2) := by
  refine (rbytes_any A n c l x k w B hl hc (hr.below hW)).mono ?_
  rintro e w1 ⟨hb, X, m, d, A1, n1, c1, rfl, h0, hx, h1, h2, h3⟩
  refine ⟨hb, X, m, d, A1, n1, c1, rfl, h0, rd_back hx hW, h1, h2, ?_, rd_back h3 hW⟩
  have := bytesOf_len l x k
  omega
/-- Cells in memory that have turned in the reader's block alone. -/
structure RF (W wr wi : World) (B g F : Nat) (l : List UInt8) (x : Int) (cs : List Value) : Prop where
  rd : Mdr W B wi g l x
  fb : Blk wi F cs
  gr : wr.grownBy wi (some g)
section
variable {W wr wi w1 : World} {B g F : Nat} {l l' : List UInt8} {x x' : Int} {cs : List Value}
theorem RF.past (h : RF W wr wi B g F l x cs) (hb : Below wi.heap.size wi w1) : RF W wr w1 B g F l x cs := by
  obtain ⟨⟨A, n, c, ht, hr⟩, hf, hg⟩ := h
  exact ⟨⟨A, n, c, ht.past hb, hr⟩, hf.past hb, hg.trans (grown_below hb _)⟩
theorem RF.put (h : RF W wr wi B g F l x cs) (hne : g ≠ F) {A : Option Addr} {n c : Nat} (hl : l'.length = n) (hc : n ≤ c) (hn : n ≤ 70368744177664) (hr : Rd W B A l') :
    RF W wr ((wi.setCell ⟨g, 0, none⟩ (.slice A n c)).setCell ⟨g, 1, none⟩ (.int .i64 x')) B g F l' x' cs := by
  obtain ⟨⟨A, n, c, ht, -⟩, hf, hg⟩ := h
  exact ⟨⟨_, _, _, ht.set _ _, hl, hc, hn, hr⟩, (hf.other (p := ⟨g, 0, none⟩) hne _).other (p := ⟨g, 1, none⟩) hne _, (hg.trans (grownBy_set _ ⟨g, 0, none⟩ _)).trans (grownBy_set _ ⟨g, 1, none⟩ _)⟩
theorem RF.set (h : RF W wr wi B g F l x cs) (hne : g ≠ F) (hF : wr.heap.size ≤ F) (i : Nat) (v : Value) : RF W wr (wi.setCell ⟨F, i, none⟩ v) B g F l x (cs.set i v) := by
  obtain ⟨⟨A, n, c, ht, hr⟩, hf, hg⟩ := h
  exact ⟨⟨A, n, c, ht.setOther (p := ⟨F, i, none⟩) (fun e => hne e.symm) v, hr⟩, hf.set i v, grown_set hg (p := ⟨F, i, none⟩) hF v⟩
theorem RF.apart (h : RF W wr wi B g F l x cs) {r : Option Nat} (hr : ∀ k, r = some k → g < k ∧ F < k ∧ wr.heap.size ≤ k) (hw : wi.grownBy w1 r) : RF W wr w1 B g F l x cs := by
  obtain ⟨⟨A, n, c, ht, hq⟩, hf, hg⟩ := h
  refine ⟨⟨A, n, c, ht.grown hw (fun e => by have := hr _ e; omega), hq⟩, hf.grown hw (fun e => by have := hr _ e; omega), ?_⟩
  exact ⟨hw.os.trans hg.os, hw.tape.trans hg.tape, hw.output.trans hg.output, Nat.le_trans hg.size hw.size, fun k hk hne => (hw.block k (by have := hg.size; omega) (fun e => by have := hr k e.symm; omega)).trans (hg.block k hk hne)⟩
theorem RF.lo (h : RF W wr wi B g F l x cs) (hW : Below B W wr) (hB : B ≤ W.heap.size) (hg : B ≤ g) : Below B W wi :=
  hW.trans ⟨h.gr.os, h.gr.tape, h.gr.output, h.gr.size, fun k hk => h.gr.block k (by have := hW.size; omega) (fun e => by injection e with e; omega)⟩
end
/-- What stands behind some blocks of a file. -/
structure RB (W wr wi : World) (B g F N : Nat) (P : Option (FileD × List UInt8)) (nm : List UInt8) (id : Nat) (sz : Int) (k : Nat) (A : Option Addr) (n c : Nat) (bs : List Int) (l : List UInt8) (x : Int) : Prop where
  rf : RF W wr wi B g F l x [sv nm, .int .u32 (id : Int), .int .i64 sz, .slice A n c]
  own : wi.ownsRow (F + 1) 3 1 (.slice A n c) n (icells bs)
  good : x = 0 → P = withB nm id sz (parseB 65536 (N - k) bs l)
  bad : x ≠ 0 → P = none
  len : bs.length = k ∧ n = k
  le : k ≤ N
  wf : ∀ b ∈ bs, 0 ≤ b ∧ b ≤ 65536
/-- What stands behind some files. -/
structure RM (W wr : World) (B g M N : Nat) (P : Option (ManD × List UInt8)) (v nx : Nat) (A : Option Addr) (n c : Nat) (fs : List FileD) (vs : List Value) (l : List UInt8) (x : Int) : Prop where
  rd : Mdr W B wr g l x
  mb : Blk wr M [.int .u64 (v : Int), .int .u32 (nx : Int), .slice A n c]
  lo : Below B W wr
  own : wr.ownsRow (M + 1) 41 4 (.slice A n c) n vs
  fc : FCells wr (M + 1) wr.heap.size (Value.slice A n c).ownBlock vs fs
  good : x = 0 → P = withM v nx (parseFs 7340032 65536 (N - n) fs l)
  bad : x ≠ 0 → P = none
  len : fs.length = n
  le : n ≤ N
  wf : ∀ f ∈ fs, WfF f
/-- Behind a file. -/
theorem rm_next {W wr wi w6 : World} {B g M N N2 : Nat} {P : Option (ManD × List UInt8)} {v nx : Nat} {A A5 A6 : Option Addr} {n c n5 c5 d6 : Nat} {fs : List FileD} {vs : List Value} {l l5 : List UInt8} {x5 : Int} {nm : List UInt8} {id : Nat} {sz : Nat} {bs : List Int}
    (R : RM W wr B g M N P v nx A n c fs vs l 0) (hW : B ≤ W.heap.size) (hgB : B ≤ g) (hgM : g < M) (hlt : n < N) (hid : id < 4294967296) (hsz : sz ≤ 7340032) (hN2 : N2 ≤ 65536)
    (I : RB W wr wi B g wr.heap.size N2 (parseF 7340032 65536 l) nm id (sz : Int) n5 A5 n5 c5 bs l5 x5) (he : x5 ≠ 0 ∨ n5 = N2)
    (ho : w6.ownsRow (M + 1) 41 4 (.slice A6 (n + 1) d6) (n + 1) (vs ++ [.string ⟨nm.toArray⟩, .int .u32 (id : Int), .int .i64 (sz : Int), .slice A5 n5 c5]))
    (hg : (wi.alloc (.cells #[.string ⟨nm.toArray⟩, .int .u32 (id : Int), .int .i64 (sz : Int), .slice A5 n5 c5] 41)).grownBy w6 (Value.slice A n c).ownBlock)
    (hloc : (Value.slice A6 (n + 1) d6).ownBlock = (Value.slice A n c).ownBlock ∨ (Value.slice A6 (n + 1) d6).ownBlock = some (wi.alloc (.cells #[.string ⟨nm.toArray⟩, .int .u32 (id : Int), .int .i64 (sz : Int), .slice A5 n5 c5] 41)).heap.size) :
    RM W (w6.setCell ⟨M, 2, none⟩ (.slice A6 (n + 1) d6)) B g M N P v nx A6 (n + 1) d6 (fs ++ [⟨nm, id, (sz : Int), bs⟩]) (vs ++ [.string ⟨nm.toArray⟩, .int .u32 (id : Int), .int .i64 (sz : Int), .slice A5 n5 c5]) l5 x5 := by
  have hA : Below wi.heap.size wi (wi.alloc (.cells #[.string ⟨nm.toArray⟩, .int .u32 (id : Int), .int .i64 (sz : Int), .slice A5 n5 c5] 41)) := (Below.refl _ _).alloc (Nat.le_refl _) _
  have hMw := R.mb.lt
  have hr : ∀ k, (Value.slice A n c).ownBlock = some k → M < k ∧ k < wr.heap.size := fun k e => R.own.lt k e
  have hgr := I.rf.gr
  obtain ⟨A', d', e, hd⟩ := own_slice' I.own
  injection e with e1 _ e3
  subst e1 e3
  have hF1 := ((R.fc.keep (q := some g) hgr (Nat.le_refl _) (fun q e => by injection e with e; omega)).more hgr.size).snoc (f := ⟨nm, id, (sz : Int), bs⟩) I.len.1 hd (by have := I.le; omega) (Cs.of_own I.own) (fun hn0 a ha => by
    obtain ⟨q, cap, hv, hb, -⟩ := I.own.form hn0
    injection hv with hv _ _
    rw [ha] at hv
    injection hv with hv
    subst hv
    refine ⟨by show M + 1 ≤ q; omega, fun e => ?_⟩
    have := (hr _ e).2
    have : wr.heap.size + 1 ≤ q := hb
    simp only at *
    omega)
  have hF2 := hF1.past hA (Nat.le_refl _)
  have hF2' := hF2.keep (q := (Value.slice A n c).ownBlock) hg hA.size (fun q e => .inr e)
  have hF3 := hF2'.row (r' := (Value.slice A6 (n + 1) d6).ownBlock) (by
    rcases hloc with h | h
    · exact .inl h
    · exact .inr ⟨_, h, hA.size⟩)
  have hF4 := (hF3.keep (q := some M) (grownBy_set w6 ⟨M, 2, none⟩ (.slice A6 (n + 1) d6)) (Nat.le_trans hA.size hg.size) (fun q e => by injection e with e; omega)).more (B' := (w6.setCell ⟨M, 2, none⟩ (.slice A6 (n + 1) d6)).heap.size) (Nat.le_trans hA.size (Nat.le_trans hg.size (by simp [World.setCell])))
  have hne : ∀ b, b ≤ M → (Value.slice A n c).ownBlock ≠ some b := fun b hb e => by have := (hr b e).1; omega
  have hlo : Below B W w6 := ((I.rf.lo R.lo hW hgB).alloc (Nat.le_trans hW (I.rf.lo R.lo hW hgB).size) _).trans ⟨hg.os, hg.tape, hg.output, hg.size, fun k hk => hg.block k (by have := (I.rf.lo R.lo hW hgB).size; have := hA.size; omega) (fun e => by have := (hr k e.symm).1; omega)⟩
  have hNn : N - n = (N - (n + 1)) + 1 := by omega
  have hgd := R.good rfl
  rw [hNn, parseFs] at hgd
  refine ⟨?_, ?_, hlo.setCell (p := ⟨M, 2, none⟩) (show B ≤ M by omega) _, ?_, hF4, fun hx => ?_, fun hx => ?_, by simp [R.len], by omega, fun f hf => ?_⟩
  · obtain ⟨A0, n0, c0, ht, hq⟩ := I.rf.rd
    exact ⟨A0, n0, c0, (((ht.past hA).grown hg (hne g (by omega))).setOther (p := ⟨M, 2, none⟩) (show M ≠ g by omega) _), hq⟩
  · exact ((((R.mb.grown hgr (fun e => by injection e with e; omega)).past hA).grown hg (hne M (Nat.le_refl _))).set 2 (.slice A6 (n + 1) d6))
  · exact ownsRow_setCell_below ho (a := ⟨M, 2, none⟩) (show M < M + 1 by omega) (.slice A6 (n + 1) d6)
  · have hk : n5 = N2 := by
      rcases he with h | h
      · exact absurd hx h
      · exact h
    have h5 := I.good hx
    rw [hk, Nat.sub_self, parseB] at h5
    rw [h5] at hgd
    exact hgd
  · rw [I.bad hx] at hgd
    exact hgd
  · rcases List.mem_append.1 hf with hf | hf
    · exact R.wf f hf
    · simp at hf
      subst hf
      exact ⟨hid, by simp only; omega, by simp only; omega, fun b hb => by have := I.wf b hb; omega⟩
end Go.Proofs.Ytgnghalcihoaaaa
