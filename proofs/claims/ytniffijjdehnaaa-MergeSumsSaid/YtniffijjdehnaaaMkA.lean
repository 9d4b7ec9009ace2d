/- The document's keys of edges. -/
import Derived.Test.YtniffijjdehnaaaMkP
import Derived.Test.YtniffijjdehnaaaByts
import Derived.Test.YtniffijjdehnaaaEdM
import Derived.Deep.RegionHeld3
import Derived.RegionTactic
import Derived.Deep.DeepCutAuto
import Derived.Test.YtniffijjdehnaaaCrcs
namespace Go.Proofs.Ytniffijjdehnaaa
open Go.RowKit Me Tx Ed Mg

theorem cells_be4 (n : Nat) (hn : n < 4294967296) : cellsOf (be4 n) = [.int .u8 ((n / 16777216 : Nat) : Int), .int .u8 ((n / 65536 % 256 : Nat) : Int), .int .u8 ((n / 256 % 256 : Nat) : Int), .int .u8 ((n % 256 : Nat) : Int)] := by
  unfold be4
  simp only [cellsOf, List.map_cons, List.map_nil]
  rw [nat_u8 (by omega), nat_u8 (by omega), nat_u8 (by omega), nat_u8 (by omega)]
set_option maxRecDepth 100000 in
set_option maxHeartbeats 1000000 in
theorem rfour_any (n : Nat) (hn : n < 4294967296) (w : World) : Calls Try.prog 25 #[.int .u32 (n : Int)] w (News w (be4 n)) := by
  obtain ⟨q0, hq0⟩ : ∃ q, q = n / 16777216 := ⟨_, rfl⟩
  obtain ⟨q1, hq1⟩ : ∃ q, q = n / 65536 := ⟨_, rfl⟩
  obtain ⟨q2, hq2⟩ : ∃ q, q = n / 256 := ⟨_, rfl⟩
  obtain ⟨r1, hr1⟩ : ∃ q, q = q1 % 256 := ⟨_, rfl⟩
  obtain ⟨r2, hr2⟩ : ∃ q, q = q2 % 256 := ⟨_, rfl⟩
  obtain ⟨r3, hr3⟩ : ∃ q, q = n % 256 := ⟨_, rfl⟩
  have t0 : (n : Int).tdiv 16777216 = (q0 : Int) := by rw [Int.tdiv_eq_ediv_of_nonneg (by omega)]; omega
  have t1 : (n : Int).tdiv 65536 = (q1 : Int) := by rw [Int.tdiv_eq_ediv_of_nonneg (by omega)]; omega
  have t2 : (n : Int).tdiv 256 = (q2 : Int) := by rw [Int.tdiv_eq_ediv_of_nonneg (by omega)]; omega
  have u1 : (q1 : Int).tmod 256 = (r1 : Int) := by rw [Int.tmod_eq_emod_of_nonneg (by omega)]; omega
  have u2 : (q2 : Int).tmod 256 = (r2 : Int) := by rw [Int.tmod_eq_emod_of_nonneg (by omega)]; omega
  have u3 : (n : Int).tmod 256 = (r3 : Int) := by rw [Int.tmod_eq_emod_of_nonneg (by omega)]; omega
  have v0 : IntKind.u32.wrap (q0 : Int) = (q0 : Int) := by rw [IntKind.wrap_u32]; omega
  have v1 : IntKind.u32.wrap (q1 : Int) = (q1 : Int) := by rw [IntKind.wrap_u32]; omega
  have v2 : IntKind.u32.wrap (q2 : Int) = (q2 : Int) := by rw [IntKind.wrap_u32]; omega
  have y0 : IntKind.u8.wrap (q0 : Int) = (q0 : Int) := by rw [IntKind.wrap_u8]; omega
  have y1 : IntKind.u8.wrap (r1 : Int) = (r1 : Int) := by rw [IntKind.wrap_u8]; omega
  have y2 : IntKind.u8.wrap (r2 : Int) = (r2 : Int) := by rw [IntKind.wrap_u8]; omega
  have y3 : IntKind.u8.wrap (r3 : Int) = (r3 : Int) := by rw [IntKind.wrap_u8]; omega
  have z1 : IntKind.u32.wrap (r1 : Int) = (r1 : Int) := by rw [IntKind.wrap_u32]; omega
  have z2 : IntKind.u32.wrap (r2 : Int) = (r2 : Int) := by rw [IntKind.wrap_u32]; omega
  have z3 : IntKind.u32.wrap (r3 : Int) = (r3 : Int) := by rw [IntKind.wrap_u32]; omega
  have FIN := Lib.hid (show ∀ w' v, w' = w.alloc (.cells #[.int .u8 (q0 : Int), .int .u8 (r1 : Int), .int .u8 (r2 : Int), .int .u8 (r3 : Int)] 5) → v = Value.slice (some ⟨w.heap.size, 0, none⟩) 4 4 → News w (be4 n) (.returned v) w' from fun w' v hw hv => by
    subst hw hv
    have e : cellsOf (be4 n) = (#[.int .u8 (q0 : Int), .int .u8 (r1 : Int), .int .u8 (r2 : Int), .int .u8 (r3 : Int)] : Array Value).toList := by
      rw [cells_be4 n hn, hq0, hr1, hr2, hr3, hq1, hq2]
    refine ⟨_, 4, rfl, ?_, (Below.refl _ _).alloc (Nat.le_refl _) _⟩
    rw [e]
    exact World.ownsRow_lit w _ 4 (Nat.le_refl _) (by unfold maxLen; omega) rfl)
  clear hq0 hq1 hq2 hr1 hr2 hr3
  go_enter Try.func25, Try.ntmps25
  go_wp2
  go_ret
  exact FIN.out _ _ rfl rfl
set_option maxRecDepth 100000 in
set_option maxHeartbeats 2000000 in
theorem rkey_any (x : EdD) (hx : FitE x) (w : World) : Calls Try.prog 12 #[Ed.agg x] w (News w (keyB x)) := by
  obtain ⟨H, hH⟩ : ∃ H, H = w.heap.size := ⟨_, rfl⟩
  obtain ⟨w0, hw0⟩ : ∃ w0, w0 = w.alloc (.cells #[.int .u32 (x.src : Int), .int .u32 (x.dst : Int), .int .u32 (x.wgt : Int)] 24) := ⟨_, rfl⟩
  have hb0 : Below w.heap.size w w0 := by rw [hw0]; exact (Below.refl _ _).alloc (Nat.le_refl _) _
  have BA := Lib.hid (show Blk w0 H [.int .u32 (x.src : Int), .int .u32 (x.dst : Int), .int .u32 (x.wgt : Int)] by rw [hw0, hH]; exact Blk.new w [.int .u32 (x.src : Int), .int .u32 (x.dst : Int), .int .u32 (x.wgt : Int)] _)
  obtain ⟨a, ha⟩ : ∃ a, a = x.src := ⟨_, rfl⟩
  obtain ⟨b, hb⟩ : ∃ a, a = x.dst := ⟨_, rfl⟩
  obtain ⟨d, hd⟩ : ∃ a, a = x.wgt := ⟨_, rfl⟩
  have HK := Lib.hid (show keyB x = be4 a ++ be4 b ++ be4 d by unfold keyB; rw [ha, hb, hd, List.append_assoc])
  have HF := Lib.hid (show a < 4294967296 ∧ b < 4294967296 ∧ d < 4294967296 by rw [ha, hb, hd]; exact hx)
  rw [← ha, ← hb, ← hd] at BA
  obtain ⟨i0, hi0, hz0, hz1, hz2⟩ := info_parts u8_info
  have c0 : w0.cell? ⟨H, 0, none⟩ = some (.int .u32 (a : Int)) := BA.out.cell rfl
  have c1 : w0.cell? ⟨H, 1, none⟩ = some (.int .u32 (b : Int)) := BA.out.cell rfl
  have c2 : w0.cell? ⟨H, 2, none⟩ = some (.int .u32 (d : Int)) := BA.out.cell rfl
  have hH0 : H < w0.heap.size := BA.out.lt
  have HW0 := Lib.hid hw0
  have HHE := Lib.hid hH
  have HB0 := Lib.hid hb0
  clear ha hb hd hw0 hH hb0
  go_enter Try.func12, Try.ntmps12
  go_upto_region 1 with fail
  rw [← HW0.out, ← HHE.out]
  go_wp2_with fail
  refine (rfour_any a HF.out.1 _).mono ?_
  rintro e w1 h1
  obtain ⟨A1, n1, k1, rfl, hl1, hn1, ho1, hr1, hb1⟩ := h1.open
  obtain rfl : 4 = n1 := hl1
  have hbe : Below w0.heap.size w0 (w0.alloc (.cells #[] 5)) := (Below.refl _ _).alloc (Nat.le_refl _) _
  have HO1 := Lib.hid (own_below (own_empty w0 w0.heap.size 5 (Nat.le_refl _)) hb1)
  have HR1 := Lib.hid hr1
  have HB1 := Lib.hid (hbe.trans (hb1.mono hbe.size))
  have hs1 : w0.heap.size ≤ w1.heap.size := HB1.out.size
  have HBL := Lib.hid (be4_length a)
  clear h1 ho1 hr1 hb1 hbe
  go_wp2_with (at_builtin
               go_loud (refine wpList_app rfl (.tmp 4) (.tmp 7) 25 rfl w0.heap.size 5 i0 _ Try.underlying25 hi0 hz0 hz1 hz2 rfl (.slice (some ⟨w0.heap.size, 0, none⟩) 0 0) 0 [] rfl HO1.out w1.heap.size A1 4 k1 (be4 a) rfl HBL.out HR1.out (by omega) hs1 ?_)
               intro v2 w2 ho2 hg2 hn2
               refine Classical.byContradiction fun hcontra => ?_)
  obtain ⟨B2, d2, hv2⟩ := own_slice ho2
  subst hv2
  rw [Nat.zero_add] at ho2 hcontra
  rw [List.nil_append] at ho2
  have HO2 := Lib.hid ho2
  have HB2 := Lib.hid (below_app HB1.out HO1.out (Nat.le_refl _) HB1.out.size hg2)
  clear ho2 hg2 hn2 HO1 HR1
  apply hcontra
  clear hcontra
  have c3 : w2.cell? ⟨H, 1, none⟩ = some (.int .u32 (b : Int)) := (HB2.out.cell hH0).trans c1
  go_wp2_with fail
  refine (rfour_any b HF.out.2.1 _).mono ?_
  rintro e w3 h3
  obtain ⟨A3, n3, k3, rfl, hl3, hn3, ho3, hr3, hb3⟩ := h3.open
  obtain rfl : 4 = n3 := hl3
  have HO3 := Lib.hid (own_below HO2.out hb3)
  have HR3 := Lib.hid hr3
  have HB3 := Lib.hid (HB2.out.trans (hb3.mono HB2.out.size))
  have hs3 : w0.heap.size ≤ w3.heap.size := HB3.out.size
  have HBL3 := Lib.hid (be4_length b)
  clear h3 ho3 hr3 hb3 c3
  go_wp2_with (at_builtin
               go_loud (refine wpList_app rfl (.tmp 9) (.tmp 12) 25 rfl w0.heap.size 5 i0 _ Try.underlying25 hi0 hz0 hz1 hz2 rfl (.slice B2 4 d2) 4 (be4 a) rfl HO3.out w3.heap.size A3 4 k3 (be4 b) rfl HBL3.out HR3.out (by omega) hs3 ?_)
               intro v4 w4 ho4 hg4 hn4
               refine Classical.byContradiction fun hcontra => ?_)
  obtain ⟨B4, d4, hv4⟩ := own_slice ho4
  subst hv4
  have HO4 := Lib.hid ho4
  have HB4 := Lib.hid (below_app HB3.out HO3.out (Nat.le_refl _) HB3.out.size hg4)
  clear ho4 hg4 hn4 HO3 HR3
  apply hcontra
  clear hcontra
  have c5 : w4.cell? ⟨H, 2, none⟩ = some (.int .u32 (d : Int)) := (HB4.out.cell hH0).trans c2
  go_wp2_with fail
  refine (rfour_any d HF.out.2.2 _).mono ?_
  rintro e w5 h5
  obtain ⟨A5, n5, k5, rfl, hl5, hn5, ho5, hr5, hb5⟩ := h5.open
  obtain rfl : 4 = n5 := hl5
  have HO5 := Lib.hid (own_below HO4.out hb5)
  have HR5 := Lib.hid hr5
  have HB5 := Lib.hid (HB4.out.trans (hb5.mono HB4.out.size))
  have hs5 : w0.heap.size ≤ w5.heap.size := HB5.out.size
  have HBL5 := Lib.hid (be4_length d)
  clear h5 ho5 hr5 hb5 c5
  go_wp2_with (at_builtin
               go_loud (refine wpList_app rfl (.tmp 14) (.tmp 17) 25 rfl w0.heap.size 5 i0 _ Try.underlying25 hi0 hz0 hz1 hz2 rfl (.slice B4 8 d4) 8 (be4 a ++ be4 b) rfl HO5.out w5.heap.size A5 4 k5 (be4 d) rfl HBL5.out HR5.out (by omega) hs5 ?_)
               intro v6 w6 ho6 hg6 hn6
               refine Classical.byContradiction fun hcontra => ?_)
  obtain ⟨B6, d6, hv6⟩ := own_slice ho6
  subst hv6
  have HO6 := Lib.hid ho6
  have HB6 := Lib.hid (below_app HB5.out HO5.out (Nat.le_refl _) HB5.out.size hg6)
  clear ho6 hg6 hn6 HO5 HR5
  apply hcontra
  clear hcontra
  go_wp2
  go_ret
  refine ⟨_, 12, rfl, ?_, (HB0.out.trans (HB6.out.mono HB0.out.size))⟩
  rw [HK.out]
  exact own_more HO6.out HB0.out.size
end Go.Proofs.Ytniffijjdehnaaa
