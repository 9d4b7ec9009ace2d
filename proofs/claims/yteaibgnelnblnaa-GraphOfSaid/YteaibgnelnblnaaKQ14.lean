/- Texts put together, for a law: MkA, MkB. -/
import Derived.Deep.RegionHeld3
import Derived.RegionTactic
import Derived.Deep.DeepCutAuto
import Derived.Test.YteaibgnelnblnaaKQ2
import Derived.Test.YteaibgnelnblnaaKQ3
import Derived.Test.YteaibgnelnblnaaKQ3
import Derived.Test.YteaibgnelnblnaaKQ12
section
namespace Go.Proofs.Yteaibgnelnblnaa
open Go.RowKit Me Tx Ed Mg

theorem cells_be4 (n : Nat) (hn : n < 4294967296) : cellsOf (be4 n) = [.int .u8 ((n / 16777216 : Nat) : Int), .int .u8 ((n / 65536 % 256 : Nat) : Int), .int .u8 ((n / 256 % 256 : Nat) : Int), .int .u8 ((n % 256 : Nat) : Int)] := by
  unfold be4
  simp only [cellsOf, List.map_cons, List.map_nil]
  rw [nat_u8 (by omega), nat_u8 (by omega), nat_u8 (by omega), nat_u8 (by omega)]
set_option maxRecDepth 100000 in
set_option maxHeartbeats 1000000 in
theorem rfour_any (n : Nat) (hn : n < 4294967296) (w : World) : Calls Try.prog 81 #[.int .u32 (n : Int)] w (News w (be4 n)) := by
  obtain ⟨q0, hq0⟩ : ∃ q, q = n / 16777216 := ⟨_, rfl⟩
  obtain ⟨q1, hq1⟩ : ∃ q, q = n / 65536 := ⟨_, rfl⟩
  obtain ⟨q2, hq2⟩ : ∃ q, q = n / 256 := ⟨_, rfl⟩
  obtain ⟨r1, hr1⟩ : ∃ q, q = q1 % 256 := ⟨_, rfl⟩
  obtain ⟨r2, hr2⟩ : ∃ q, q = q2 % 256 := ⟨_, rfl⟩
  obtain ⟨r3, hr3⟩ : ∃ q, q = n % 256 := ⟨_, rfl⟩
  have t0 : (n : Int).tdiv 16777216 = (q0 : Int) := by rw [Int.tdiv_eq_ediv_of_nonneg (by omega)]; omega
  have t1 : (n : Int).tdiv 65536 = (q1 : Int) := by rw [Int.tdiv_eq_ediv_of_nonneg (by omega)]; omega
  have t2 : (n : Int).tdiv 256 = (q2 : Int) := by rw [Int.tdiv_eq_ediv_of_nonneg (by omega)]; omega
  have u1 : (q1 : Int).tmod 256 = (r1 : Int) := by rw [Int.tmod_eq_emod_of_nonneg (by omega)]; omega
  have u2 : (q2 : Int).tmod 256 = (r2 : Int) := by rw [Int.tmod_eq_emod_of_nonneg (by omega)]; omega
  have u3 : (n : Int).tmod 256 = (r3 : Int) := by rw [Int.tmod_eq_emod_of_nonneg (by omega)]; omega
  have v0 : IntKind.u32.wrap (q0 : Int) = (q0 : Int) := by rw [IntKind.wrap_u32]; omega
  have v1 : IntKind.u32.wrap (q1 : Int) = (q1 : Int) := by rw [IntKind.wrap_u32]; omega
  have v2 : IntKind.u32.wrap (q2 : Int) = (q2 : Int) := by rw [IntKind.wrap_u32]; omega
  have y0 : IntKind.u8.wrap (q0 : Int) = (q0 : Int) := by rw [IntKind.wrap_u8]; omega
  have y1 : IntKind.u8.wrap (r1 : Int) = (r1 : Int) := by rw [IntKind.wrap_u8]; omega
  have y2 : IntKind.u8.wrap (r2 : Int) = (r2 : Int) := by rw [IntKind.wrap_u8]; omega
  have y3 : IntKind.u8.wrap (r3 : Int) = (r3 : Int) := by rw [IntKind.wrap_u8]; omega
  have z1 : IntKind.u32.wrap (r1 : Int) = (r1 : Int) := by rw [IntKind.wrap_u32]; omega
  have z2 : IntKind.u32.wrap (r2 : Int) = (r2 : Int) := by rw [IntKind.wrap_u32]; omega
  have z3 : IntKind.u32.wrap (r3 : Int) = (r3 : Int) := by rw [IntKind.wrap_u32]; omega
  have FIN := Lib.hid (show ∀ w' v, w' = w.alloc (.cells #[.int .u8 (q0 : Int), .int .u8 (r1 : Int), .int .u8 (r2 : Int), .int .u8 (r3 : Int)] 5) → v = Value.slice (some ⟨w.heap.size, 0, none⟩) 4 4 → News w (be4 n) (.returned v) w' from fun w' v hw hv => by
    subst hw hv
    have e : cellsOf (be4 n) = (#[.int .u8 (q0 : Int), .int .u8 (r1 : Int), .int .u8 (r2 : Int), .int .u8 (r3 : Int)] : Array Value).toList := by
      rw [cells_be4 n hn, hq0, hr1, hr2, hr3, hq1, hq2]
    refine ⟨_, 4, rfl, ?_, (Below.refl _ _).alloc (Nat.le_refl _) _⟩
    rw [e]
    exact World.ownsRow_lit w _ 4 (Nat.le_refl _) (by unfold maxLen; omega) rfl)
  clear hq0 hq1 hq2 hr1 hr2 hr3
  go_enter Try.func81, Try.ntmps81
  go_wp2
  go_ret
  exact FIN.out _ _ rfl rfl
set_option maxRecDepth 100000 in
set_option maxHeartbeats 2000000 in
theorem rkey_any (x : EdD) (hx : FitE x) (w : World) : Calls Try.prog 55 #[Ed.agg x] w (News w (keyB x)) := by
  obtain ⟨H, hH⟩ : ∃ H, H = w.heap.size := ⟨_, rfl⟩
  obtain ⟨w0, hw0⟩ : ∃ w0, w0 = w.alloc (.cells #[.int .u32 (x.src : Int), .int .u32 (x.dst : Int), .int .u32 (x.wgt : Int)] 58) := ⟨_, rfl⟩
  have hb0 : Below w.heap.size w w0 := by rw [hw0]; exact (Below.refl _ _).alloc (Nat.le_refl _) _
  have BA := Lib.hid (show Blk w0 H [.int .u32 (x.src : Int), .int .u32 (x.dst : Int), .int .u32 (x.wgt : Int)] by rw [hw0, hH]; exact Blk.new w [.int .u32 (x.src : Int), .int .u32 (x.dst : Int), .int .u32 (x.wgt : Int)] _)
  obtain ⟨a, ha⟩ : ∃ a, a = x.src := ⟨_, rfl⟩
  obtain ⟨b, hb⟩ : ∃ a, a = x.dst := ⟨_, rfl⟩
  obtain ⟨d, hd⟩ : ∃ a, a = x.wgt := ⟨_, rfl⟩
  have HK := Lib.hid (show keyB x = be4 a ++ be4 b ++ be4 d by unfold keyB; rw [ha, hb, hd, List.append_assoc])
  have HF := Lib.hid (show a < 4294967296 ∧ b < 4294967296 ∧ d < 4294967296 by rw [ha, hb, hd]; exact hx)
  rw [← ha, ← hb, ← hd] at BA
  obtain ⟨i0, hi0, hz0, hz1, hz2⟩ := info_parts u8_info
  have c0 : w0.cell? ⟨H, 0, none⟩ = some (.int .u32 (a : Int)) := BA.out.cell rfl
  have c1 : w0.cell? ⟨H, 1, none⟩ = some (.int .u32 (b : Int)) := BA.out.cell rfl
  have c2 : w0.cell? ⟨H, 2, none⟩ = some (.int .u32 (d : Int)) := BA.out.cell rfl
  have hH0 : H < w0.heap.size := BA.out.lt
  have HW0 := Lib.hid hw0
  have HHE := Lib.hid hH
  have HB0 := Lib.hid hb0
  clear ha hb hd hw0 hH hb0
  go_enter Try.func55, Try.ntmps55
  go_upto_region 1 with fail
  rw [← HW0.out, ← HHE.out]
  go_wp2_with fail
  refine (rfour_any a HF.out.1 _).mono ?_
  rintro e w1 h1
  obtain ⟨A1, n1, k1, rfl, hl1, hn1, ho1, hr1, hb1⟩ := h1.open
  obtain rfl : 4 = n1 := hl1
  have hbe : Below w0.heap.size w0 (w0.alloc (.cells #[] 5)) := (Below.refl _ _).alloc (Nat.le_refl _) _
  have HO1 := Lib.hid (own_below (own_empty w0 w0.heap.size 5 (Nat.le_refl _)) hb1)
  have HR1 := Lib.hid hr1
  have HB1 := Lib.hid (hbe.trans (hb1.mono hbe.size))
  have hs1 : w0.heap.size ≤ w1.heap.size := HB1.out.size
  have HBL := Lib.hid (be4_length a)
  clear h1 ho1 hr1 hb1 hbe
  go_wp2_with (at_builtin
               go_loud (refine wpList_app rfl (.tmp 4) (.tmp 7) 62 rfl w0.heap.size 5 i0 _ Try.underlying62 hi0 hz0 hz1 hz2 rfl (.slice (some ⟨w0.heap.size, 0, none⟩) 0 0) 0 [] rfl HO1.out w1.heap.size A1 4 k1 (be4 a) rfl HBL.out HR1.out (by omega) hs1 ?_)
               intro v2 w2 ho2 hg2 hn2
               refine Classical.byContradiction fun hcontra => ?_)
  obtain ⟨B2, d2, hv2⟩ := own_slice ho2
  subst hv2
  rw [Nat.zero_add] at ho2 hcontra
  rw [List.nil_append] at ho2
  have HO2 := Lib.hid ho2
  have HB2 := Lib.hid (below_app HB1.out HO1.out (Nat.le_refl _) HB1.out.size hg2)
  clear ho2 hg2 hn2 HO1 HR1
  apply hcontra
  clear hcontra
  have c3 : w2.cell? ⟨H, 1, none⟩ = some (.int .u32 (b : Int)) := (HB2.out.cell hH0).trans c1
  go_wp2_with fail
  refine (rfour_any b HF.out.2.1 _).mono ?_
  rintro e w3 h3
  obtain ⟨A3, n3, k3, rfl, hl3, hn3, ho3, hr3, hb3⟩ := h3.open
  obtain rfl : 4 = n3 := hl3
  have HO3 := Lib.hid (own_below HO2.out hb3)
  have HR3 := Lib.hid hr3
  have HB3 := Lib.hid (HB2.out.trans (hb3.mono HB2.out.size))
  have hs3 : w0.heap.size ≤ w3.heap.size := HB3.out.size
  have HBL3 := Lib.hid (be4_length b)
  clear h3 ho3 hr3 hb3 c3
  go_wp2_with (at_builtin
               go_loud (refine wpList_app rfl (.tmp 9) (.tmp 12) 62 rfl w0.heap.size 5 i0 _ Try.underlying62 hi0 hz0 hz1 hz2 rfl (.slice B2 4 d2) 4 (be4 a) rfl HO3.out w3.heap.size A3 4 k3 (be4 b) rfl HBL3.out HR3.out (by omega) hs3 ?_)
               intro v4 w4 ho4 hg4 hn4
               refine Classical.byContradiction fun hcontra => ?_)
  obtain ⟨B4, d4, hv4⟩ := own_slice ho4
  subst hv4
  have HO4 := Lib.hid ho4
  have HB4 := Lib.hid (below_app HB3.out HO3.out (Nat.le_refl _) HB3.out.size hg4)
  clear ho4 hg4 hn4 HO3 HR3
  apply hcontra
  clear hcontra
  have c5 : w4.cell? ⟨H, 2, none⟩ = some (.int .u32 (d : Int)) := (HB4.out.cell hH0).trans c2
  go_wp2_with fail
  refine (rfour_any d HF.out.2.2 _).mono ?_
  rintro e w5 h5
  obtain ⟨A5, n5, k5, rfl, hl5, hn5, ho5, hr5, hb5⟩ := h5.open
  obtain rfl : 4 = n5 := hl5
  have HO5 := Lib.hid (own_below HO4.out hb5)
  have HR5 := Lib.hid hr5
  have HB5 := Lib.hid (HB4.out.trans (hb5.mono HB4.out.size))
  have hs5 : w0.heap.size ≤ w5.heap.size := HB5.out.size
  have HBL5 := Lib.hid (be4_length d)
  clear h5 ho5 hr5 hb5 c5
  go_wp2_with (at_builtin
               go_loud (refine wpList_app rfl (.tmp 14) (.tmp 17) 62 rfl w0.heap.size 5 i0 _ Try.underlying62 hi0 hz0 hz1 hz2 rfl (.slice B4 8 d4) 8 (be4 a ++ be4 b) rfl HO5.out w5.heap.size A5 4 k5 (be4 d) rfl HBL5.out HR5.out (by omega) hs5 ?_)
               intro v6 w6 ho6 hg6 hn6
               refine Classical.byContradiction fun hcontra => ?_)
  obtain ⟨B6, d6, hv6⟩ := own_slice ho6
  subst hv6
  have HO6 := Lib.hid ho6
  have HB6 := Lib.hid (below_app HB5.out HO5.out (Nat.le_refl _) HB5.out.size hg6)
  clear ho6 hg6 hn6 HO5 HR5
  apply hcontra
  clear hcontra
  go_wp2
  go_ret
  refine ⟨_, 12, rfl, ?_, (HB0.out.trans (HB6.out.mono HB0.out.size))⟩
  rw [HK.out]
  exact own_more HO6.out HB0.out.size
end Go.Proofs.Yteaibgnelnblnaa
end
section
namespace Go.Proofs.Yteaibgnelnblnaa
open Go.RowKit Me Tx Ed Mg

theorem adr_at (x : Addr) (j : Nat) : x.add (j + 1) = ⟨x.block, x.off + (j + 1), none⟩ := by
  have := add_field x 0 j
  rw [Nat.zero_add] at this
  rw [this]
  unfold Addr.add
  simp
theorem adr_zero (x : Addr) : x.add 0 = x := by unfold Addr.add; simp
/-- What is known of each slot where four bytes are put together. -/
def rnG (c : Nat) (a : Addr) (x0 x1 x2 x3 m0 m1 m2 s1 s2 s3 : Nat) : Gw.Fact := fun t v _ =>
  match t with
  | 0 | 3 | 8 | 14 | 20 => v = .slice (some a) 4 c
  | 4 => v = .pointer (some (a.add 0))
  | 9 => v = .pointer (some (a.add 1))
  | 15 => v = .pointer (some (a.add 2))
  | 21 => v = .pointer (some (a.add 3))
  | 5 => v = .int .u8 (x0 : Int)
  | 6 => v = .int .u32 (x0 : Int)
  | 7 => v = .int .u32 (m0 : Int)
  | 10 => v = .int .u8 (x1 : Int)
  | 11 => v = .int .u32 (x1 : Int)
  | 12 => v = .int .u32 (m1 : Int)
  | 13 => v = .int .u32 (s1 : Int)
  | 16 => v = .int .u8 (x2 : Int)
  | 17 => v = .int .u32 (x2 : Int)
  | 18 => v = .int .u32 (m2 : Int)
  | 19 => v = .int .u32 (s2 : Int)
  | 22 => v = .int .u8 (x3 : Int)
  | 23 => v = .int .u32 (x3 : Int)
  | 24 | 2 => v = .int .u32 (s3 : Int)
  | _ => True
set_option maxRecDepth 100000 in
set_option maxHeartbeats 2000000 in
theorem rnumber_any (a : Addr) (c : Nat) (b0 b1 b2 b3 : UInt8) (w : World) (h : Rd w w.heap.size (some a) [b0, b1, b2, b3]) :
    Calls Try.prog 80 #[.slice (some a) 4 c] w fun e w' => e = .returned (.int .u32 (nb4 [b0, b1, b2, b3] : Int)) ∧ Below w.heap.size w w' := by
  obtain ⟨a', e, hlt, hc⟩ := h (by simp)
  injection e with e
  subst e
  obtain ⟨x0, hx0⟩ : ∃ x, x = b0.toNat := ⟨_, rfl⟩
  obtain ⟨x1, hx1⟩ : ∃ x, x = b1.toNat := ⟨_, rfl⟩
  obtain ⟨x2, hx2⟩ : ∃ x, x = b2.toNat := ⟨_, rfl⟩
  obtain ⟨x3, hx3⟩ : ∃ x, x = b3.toNat := ⟨_, rfl⟩
  have l0 : x0 < 256 := by rw [hx0]; exact b0.toNat_lt
  have l1 : x1 < 256 := by rw [hx1]; exact b1.toNat_lt
  have l2 : x2 < 256 := by rw [hx2]; exact b2.toNat_lt
  have l3 : x3 < 256 := by rw [hx3]; exact b3.toNat_lt
  obtain ⟨m0, hm0⟩ : ∃ m, m = 16777216 * x0 := ⟨_, rfl⟩
  obtain ⟨m1, hm1⟩ : ∃ m, m = 65536 * x1 := ⟨_, rfl⟩
  obtain ⟨m2, hm2⟩ : ∃ m, m = 256 * x2 := ⟨_, rfl⟩
  obtain ⟨s1, hs1⟩ : ∃ m, m = m0 + m1 := ⟨_, rfl⟩
  obtain ⟨s2, hs2⟩ : ∃ m, m = s1 + m2 := ⟨_, rfl⟩
  obtain ⟨s3, hs3⟩ : ∃ m, m = s2 + x3 := ⟨_, rfl⟩
  have HN := Lib.hid (show nb4 [b0, b1, b2, b3] = s3 by show 16777216 * b0.toNat + 65536 * b1.toNat + 256 * b2.toNat + b3.toNat = _; rw [← hx0, ← hx1, ← hx2, ← hx3, hs3, hs2, hs1, hm0, hm1, hm2])
  have e0 : IntKind.u32.wrap (16777216 * (x0 : Int)) = (m0 : Int) := by rw [IntKind.wrap_u32]; omega
  have e1 : IntKind.u32.wrap (65536 * (x1 : Int)) = (m1 : Int) := by rw [IntKind.wrap_u32]; omega
  have e2 : IntKind.u32.wrap (256 * (x2 : Int)) = (m2 : Int) := by rw [IntKind.wrap_u32]; omega
  have f1 : IntKind.u32.wrap ((m0 : Int) + (m1 : Int)) = (s1 : Int) := by rw [IntKind.wrap_u32]; omega
  have f2 : IntKind.u32.wrap ((s1 : Int) + (m2 : Int)) = (s2 : Int) := by rw [IntKind.wrap_u32]; omega
  have f3 : IntKind.u32.wrap ((s2 : Int) + (x3 : Int)) = (s3 : Int) := by rw [IntKind.wrap_u32]; omega
  have g0 : IntKind.u32.wrap (x0 : Int) = (x0 : Int) := by rw [IntKind.wrap_u32]; omega
  have g1 : IntKind.u32.wrap (x1 : Int) = (x1 : Int) := by rw [IntKind.wrap_u32]; omega
  have g2 : IntKind.u32.wrap (x2 : Int) = (x2 : Int) := by rw [IntKind.wrap_u32]; omega
  have g3 : IntKind.u32.wrap (x3 : Int) = (x3 : Int) := by rw [IntKind.wrap_u32]; omega
  have HC := Lib.hid (show ∀ W, Below w.heap.size w W → W.cell? a = some (.int .u8 (x0 : Int)) ∧ W.cell? ⟨a.block, a.off + 1, none⟩ = some (.int .u8 (x1 : Int)) ∧ W.cell? ⟨a.block, a.off + 2, none⟩ = some (.int .u8 (x2 : Int)) ∧ W.cell? ⟨a.block, a.off + 3, none⟩ = some (.int .u8 (x3 : Int)) from fun W hW => by
    rw [hx0, hx1, hx2, hx3, ← adr_at a 0, ← adr_at a 1, ← adr_at a 2]
    conv => lhs; rw [← adr_zero a]
    exact ⟨(hW.cell (by rw [block_add]; exact hlt)).trans (hc 0 b0 rfl), (hW.cell (by rw [block_add]; exact hlt)).trans (hc 1 b1 rfl), (hW.cell (by rw [block_add]; exact hlt)).trans (hc 2 b2 rfl), (hW.cell (by rw [block_add]; exact hlt)).trans (hc 3 b3 rfl)⟩)
  clear hx0 hx1 hx2 hx3 hm0 hm1 hm2 hs1 hs2 hs3 hc h hlt
  go_enter Try.func80, Try.ntmps80
  go_upto_region 1 with fail
  refine Gw.wp_region_grow (rnG c a x0 x1 x2 x3 m0 m1 m2 s1 s2 s3) [3, 4, 5, 6, 7, 8, 9, 10, 11, 12, 13, 14, 15, 16, 17, 18, 19, 20, 21, 22, 23, 24, 2] [([0], none), ([3], none), ([4], none), ([5], none), ([6], none), ([0], none), ([8], none), ([9], none), ([10], none), ([11], none), ([7, 12], none), ([0], none), ([14], none), ([15], none), ([16], none), ([17], none), ([13, 18], none), ([0], none), ([20], none), ([21], none), ([22], none), ([19, 23], none), ([24], none)] 25 (by kernel_rfl) (by kernel_rfl) rfl ?h0 ?hreq ?hend
  case h0 =>
    intro t W hnd _
    unfold rnG
    split <;> first | rfl | trivial | exact absurd (by simp) hnd
  case hreq =>
    refine ⟨?_, ?_, ?_, ?_, ?_, ?_, ?_, ?_, ?_, ?_, ?_, ?_, ?_, ?_, ?_, ?_, ?_, ?_, ?_, ?_, ?_, ?_, ?_, trivial⟩
    all_goals
      intro ac W hg hk
      obtain ⟨z0, z1, z2, z3⟩ := HC.out W hg
      simp only [Gw.Knows, rnG] at hk
      try (simp [go_sem, Gw.OpReq, Gw.Ok, Gw.Post, Gw.Holds, rnG, Gw.Grows.refl, hk, z0, z1, z2, z3, e0, e1, e2, f1, f2, f3, g0, g1, g2, g3]; done)
  case hend =>
    intro x w' hg hx
    have h2 : x 2 = .int .u32 (s3 : Int) := (hx 2 (by simp)).now
    simp only [Gw.putAll, Act.put, List.setIfInBounds_toArray, List.set_cons_zero, List.set_cons_succ]
    rw [h2]
    have HG := Lib.hid (show Below w.heap.size w w' from hg)
    clear hg hx h2
    go_wp2
    go_ret
    exact ⟨by rw [HN.out]; rfl, HG.out⟩
set_option maxRecDepth 100000 in
set_option maxHeartbeats 2000000 in
theorem rbelow_any (x y : EdD) (w : World) : Calls Try.prog 52 #[Ed.agg x, Ed.agg y] w fun e w' => e = .returned (.bool (lowE x y)) ∧ Below w.heap.size w w' := by
  obtain ⟨a0, a1, a2⟩ := x
  obtain ⟨b0, b1, b2⟩ := y
  have HB := Lib.hid (show Below w.heap.size w ((w.alloc (.cells #[.int .u32 (a0 : Int), .int .u32 (a1 : Int), .int .u32 (a2 : Int)] 58)).alloc (.cells #[.int .u32 (b0 : Int), .int .u32 (b1 : Int), .int .u32 (b2 : Int)] 58)) from ((Below.refl _ _).alloc (Nat.le_refl _) _).alloc (by simp) _)
  by_cases h0 : a0 = b0
  · subst h0
    have d0 : ((a0 : Int) != (a0 : Int)) = false := by simp
    by_cases h1 : a1 = b1
    · subst h1
      have d1 : ((a1 : Int) != (a1 : Int)) = false := by simp
      have HE := Lib.hid (show decide ((a2 : Int) < (b2 : Int)) = lowE ⟨a0, a1, a2⟩ ⟨a0, a1, b2⟩ by unfold lowE; simp)
      go_enter Try.func52, Try.ntmps52
      go_wp2
      go_ret
      exact ⟨by rw [← HE.out]; simp, HB.out⟩
    · have d1 : ((a1 : Int) != (b1 : Int)) = true := by simp; omega
      have HE := Lib.hid (show decide ((a1 : Int) < (b1 : Int)) = lowE ⟨a0, a1, a2⟩ ⟨a0, b1, b2⟩ by unfold lowE; simp [h1])
      go_enter Try.func52, Try.ntmps52
      go_wp2
      go_ret
      exact ⟨by rw [← HE.out]; simp, HB.out⟩
  · have d0 : ((a0 : Int) != (b0 : Int)) = true := by simp; omega
    have HE := Lib.hid (show decide ((a0 : Int) < (b0 : Int)) = lowE ⟨a0, a1, a2⟩ ⟨b0, b1, b2⟩ by unfold lowE; simp [h0])
    go_enter Try.func52, Try.ntmps52
    go_wp2
    go_ret
    exact ⟨by rw [← HE.out]; simp, HB.out⟩
/-- An operation of a tail whose run is known. -/
theorem tlk_run {P : Program} {w w' : World} {o : Oper} {rest : List Oper} {a : Act} {Q : Exit → Act → World → Prop} (v : Value) (h : (execOp a.eval o).run P w = .ok (.value v) w') (k : Tl (Gw.seqTail P Q rest (a.put o.dst v) w')) : Tl (Gw.seqTail P Q (o :: rest) a w) :=
  ⟨by unfold Gw.seqTail Oper.wp; rw [h]; exact k.out⟩
theorem tlk_skip {P : Program} {w w' : World} {o : Oper} {rest : List Oper} {a : Act} {Q : Exit → Act → World → Prop} (h : (execOp a.eval o).run P w = .ok .skip w') (k : Tl (Gw.seqTail P Q rest (a.put o.dst undef) w')) : Tl (Gw.seqTail P Q (o :: rest) a w) :=
  ⟨by unfold Gw.seqTail Oper.wp; rw [h]; exact k.out⟩
/-- What is known of each slot where a key is taken apart. -/
def roG (a : Addr) (c x0 x1 x2 : Nat) : Gw.Fact := fun t v _ =>
  match t with
  | 0 | 8 | 11 | 14 => v = .slice (some a) 12 c
  | 9 => v = .slice (some a) 4 c
  | 12 => v = .slice (some ⟨a.block, a.off + 4, none⟩) 4 (c - 4)
  | 15 => v = .slice (some ⟨a.block, a.off + 8, none⟩) 4 (c - 8)
  | 10 => v = .int .u32 (x0 : Int)
  | 13 => v = .int .u32 (x1 : Int)
  | 16 => v = .int .u32 (x2 : Int)
  | _ => True
theorem ed_size : (Try.prog.info? 58).map (·.size) = some 3 := by kernel_rfl
theorem ed_one (x y z : Nat) : (#[.int .u32 (x : Int), .int .u32 (y : Int), .int .u32 (z : Int)] : Array Value).all (·.oneCell') = true := by simp [Value.oneCell']
theorem rd_piece {w : World} {B : Nat} {a : Addr} {l : List UInt8} (h : Rd w B (some a) l) (k : Nat) : Rd w B (some (a.add k)) (l.drop k) := fun hn => by
  obtain ⟨a', e, hb, hc⟩ := h (by rw [List.length_drop] at hn; omega)
  injection e with e
  subst e
  refine ⟨_, rfl, by rw [block_add]; exact hb, fun i u hu => ?_⟩
  rw [List.getElem?_drop] at hu
  have := hc _ _ hu
  rwa [← add_add] at this
theorem rd_front {w : World} {B : Nat} {A : Option Addr} {l : List UInt8} (h : Rd w B A l) (k : Nat) : Rd w B A (l.take k) := fun hn => by
  obtain ⟨a, e, hb, hc⟩ := h (by rw [List.length_take] at hn; omega)
  refine ⟨a, e, hb, fun i u hu => hc i u ?_⟩
  rw [List.getElem?_take] at hu
  split at hu
  · exact hu
  · cases hu
set_option maxRecDepth 100000 in
set_option maxHeartbeats 2000000 in
theorem rof_any (A : Option Addr) (n c : Nat) (l : List UInt8) (w : World) (hl : l.length = n) (hc : n ≤ c) (hc63 : c ≤ 9223372036854775807) (h : Rd w w.heap.size A l) :
    Calls Try.prog 51 #[.slice A n c] w fun e w' => (if n = 12 then e = .returned (.tuple #[Ed.agg (edB l), .bool true]) else e = .returned (.tuple #[Ed.agg ⟨0, 0, 0⟩, .bool false])) ∧ Below w.heap.size w w' := by
  obtain ⟨H, hH⟩ : ∃ H, H = w.heap.size := ⟨_, rfl⟩
  obtain ⟨w0, hw0⟩ : ∃ w0, w0 = w.alloc (.cells #[.int .u32 0, .int .u32 0, .int .u32 0] 58) := ⟨_, rfl⟩
  have hb0 : Below w.heap.size w w0 := by rw [hw0]; exact (Below.refl _ _).alloc (Nat.le_refl _) _
  have BZ := Lib.hid (show Blk w0 H [.int .u32 0, .int .u32 0, .int .u32 0] by rw [hw0, hH]; exact Blk.new w [.int .u32 0, .int .u32 0, .int .u32 0] _)
  have HW0 := Lib.hid hw0
  have HHE := Lib.hid hH
  have HB0 := Lib.hid hb0
  by_cases h12 : n = 12
  · subst h12
    obtain ⟨a, rfl, hlt, hcell⟩ := h (by omega)
    obtain ⟨b0, b1, b2, b3, b4, b5, b6, b7, b8, b9, b10, b11, rfl⟩ : ∃ b0 b1 b2 b3 b4 b5 b6 b7 b8 b9 b10 b11, l = [b0, b1, b2, b3, b4, b5, b6, b7, b8, b9, b10, b11] := by
      match l, hl with
      | [b0, b1, b2, b3, b4, b5, b6, b7, b8, b9, b10, b11], _ => exact ⟨_, _, _, _, _, _, _, _, _, _, _, _, rfl⟩
    have hr0 : ∀ W, Below w.heap.size w W → Rd W W.heap.size (some a) [b0, b1, b2, b3, b4, b5, b6, b7, b8, b9, b10, b11] := fun W hW => (h.below hW).more hW.size
    obtain ⟨x0, hx0⟩ : ∃ x, x = nb4 [b0, b1, b2, b3] := ⟨_, rfl⟩
    obtain ⟨x1, hx1⟩ : ∃ x, x = nb4 [b4, b5, b6, b7] := ⟨_, rfl⟩
    obtain ⟨x2, hx2⟩ : ∃ x, x = nb4 [b8, b9, b10, b11] := ⟨_, rfl⟩
    have HE := Lib.hid (show edB [b0, b1, b2, b3, b4, b5, b6, b7, b8, b9, b10, b11] = ⟨x0, x1, x2⟩ by rw [hx0, hx1, hx2]; rfl)
    have HN0 := Lib.hid (show ∀ W, Below w.heap.size w W → Calls Try.prog 80 #[.slice (some a) 4 c] W fun e w' => e = .returned (.int .u32 (x0 : Int)) ∧ Below W.heap.size W w' from fun W hW => by
      rw [hx0]; exact rnumber_any a c b0 b1 b2 b3 W (rd_front (hr0 W hW) 4))
    have HN1 := Lib.hid (show ∀ W, Below w.heap.size w W → Calls Try.prog 80 #[.slice (some ⟨a.block, a.off + 4, none⟩) 4 (c - 4)] W fun e w' => e = .returned (.int .u32 (x1 : Int)) ∧ Below W.heap.size W w' from fun W hW => by
      rw [hx1, ← adr_at a 3]; exact rnumber_any _ _ b4 b5 b6 b7 W (rd_front (rd_piece (hr0 W hW) 4) 4))
    have HN2 := Lib.hid (show ∀ W, Below w.heap.size w W → Calls Try.prog 80 #[.slice (some ⟨a.block, a.off + 8, none⟩) 4 (c - 8)] W fun e w' => e = .returned (.int .u32 (x2 : Int)) ∧ Below W.heap.size W w' from fun W hW => by
      rw [hx2, ← adr_at a 7]; exact rnumber_any _ _ b8 b9 b10 b11 W (rd_front (rd_piece (hr0 W hW) 8) 4))
    have k4 : ¬ c = 4 := by omega
    have k8 : ¬ c = 8 := by omega
    have i0 : (4 : Int) ≤ (c : Int) := by omega
    have i1 : (8 : Int) ≤ (c : Int) := by omega
    have i2 : (12 : Int) ≤ (c : Int) := by omega
    have m4 : ((c : Int) - 4).toNat = c - 4 := by omega
    have m8 : ((c : Int) - 8).toNat = c - 8 := by omega
    clear hx0 hx1 hx2 hr0 h hcell hlt hl hw0 hH hb0
    go_enter Try.func51, Try.ntmps51
    go_upto_region 1 with fail
    rw [← HW0.out, ← HHE.out]
    go_upto_region 3 with fail
    refine wp_region_tlT 9 (roG a c x0 x1 x2) [8, 9, 10, 11, 12, 13, 14, 15, 16] [([0], none), ([8], none), ([9], none), ([0], none), ([11], none), ([12], none), ([0], none), ([14], none), ([15], none)] 18 (by kernel_rfl) (by kernel_rfl) rfl ?h0 ?hreq rfl ?hend
    case h0 =>
      intro t W hnd _
      unfold roG
      split <;> first | rfl | trivial | exact absurd (by simp) hnd
    case hreq =>
      refine ⟨?_, ?_, ?_, ?_, ?_, ?_, ?_, ?_, ?_, trivial⟩
      all_goals
        intro ac W hg hk
        have hg' : Below w.heap.size w W := HB0.out.trans (Below.mono (show Below w0.heap.size w0 W from hg) HB0.out.size)
        simp only [Gw.Knows, roG] at hk
        try (simp [go_sem, Gw.OpReq, Gw.Ok, Gw.Post, Gw.Holds, roG, Gw.Grows.refl, hk, k4, k8, i0, i1, i2, m4, m8]; done)
      · simp [go_sem, Gw.OpReq, Gw.Ok, Gw.Post, Gw.Holds, roG, Gw.Grows.refl, hk]
        refine (HN0.out W hg').mono ?_
        rintro e W' ⟨rfl, hb4⟩
        exact ⟨_, rfl, hb4, fun _ _ => rfl⟩
      · simp [go_sem, Gw.OpReq, Gw.Ok, Gw.Post, Gw.Holds, roG, Gw.Grows.refl, hk]
        refine (HN1.out W hg').mono ?_
        rintro e W' ⟨rfl, hb4⟩
        exact ⟨_, rfl, hb4, fun _ _ => rfl⟩
      · simp [go_sem, Gw.OpReq, Gw.Ok, Gw.Post, Gw.Holds, roG, Gw.Grows.refl, hk]
        refine (HN2.out W hg').mono ?_
        rintro e W' ⟨rfl, hb4⟩
        exact ⟨_, rfl, hb4, fun _ _ => rfl⟩
    case hend =>
      intro y w5 hg hy
      have hg' : Below w0.heap.size w0 w5 := hg
      have y10 : y 10 = .int .u32 (x0 : Int) := (hy 10 (by simp)).now
      have y13 : y 13 = .int .u32 (x1 : Int) := (hy 13 (by simp)).now
      have y16 : y 16 = .int .u32 (x2 : Int) := (hy 16 (by simp)).now
      simp only [Gw.putAll, Act.put, List.setIfInBounds_toArray, List.set_cons_zero, List.set_cons_succ]
      rw [y10, y13, y16]
      refine tlk_run (w' := w5) (Ed.agg ⟨x0, x1, x2⟩) (by simp [execOp, go_sem]) ?_
      refine tl_store 58 _ _ rfl H _ #[.int .u32 (x0 : Int), .int .u32 (x1 : Int), .int .u32 (x2 : Int)] rfl rfl (BZ.out.past hg') rfl ed_size (ed_one _ _ _) ?_
      intro w6 hb6 ho6
      refine tlk_run (w' := w6) (.bool true) (by simp [execOp, go_sem]) ?_
      refine tl_nil ?_
      have HB6 := Lib.hid (HB0.out.trans ((hg'.mono HB0.out.size).trans (ho6.below (fun k _ e => by have := HHE.out; omega) (by have := hg'.size; have := HB0.out.size; omega))))
      have r0 := hb6.cell (i := 0) rfl
      have r1 := hb6.cell (i := 1) rfl
      have r2 := hb6.cell (i := 2) rfl
      clear hg hy hg' y10 y13 y16 hb6 ho6
      go_wp2
      refine bodyPost_ret (v := .tuple #[Ed.agg ⟨x0, x1, x2⟩, .bool true]) (by simp [results, Try.results51, go_sem, r0, r1, r2]) rfl ?_
      exact ⟨by rw [HE.out], HB6.out⟩
  · have hne : ((n : Int) != 12) = true := by simp; omega
    clear h hl hw0 hH hb0
    go_enter Try.func51, Try.ntmps51
    go_upto_region 1 with fail
    rw [← HW0.out, ← HHE.out]
    go_wp2_with (refine wpList_store_blk rfl 58 _ _ rfl H _ #[.int .u32 0, .int .u32 0, .int .u32 0] rfl rfl BZ.out rfl ed_size (ed_one 0 0 0) ?_
                 intro w1 hb1 ho1
                 have HB1 := Lib.hid hb1
                 have HO1 := Lib.hid ho1
                 clear hb1 ho1)
    have r0 := HB1.out.cell (i := 0) rfl
    have r1 := HB1.out.cell (i := 1) rfl
    have r2 := HB1.out.cell (i := 2) rfl
    refine bodyPost_ret (v := .tuple #[Ed.agg ⟨0, 0, 0⟩, .bool false]) (by simp [results, Try.results51, go_sem, r0, r1, r2]) rfl ?_
    exact ⟨by simp [h12], HB0.out.trans (HO1.out.below (fun k _ e => by have := HHE.out; omega) HB0.out.size)⟩
end Go.Proofs.Yteaibgnelnblnaa
end
