/- How many bytes a block tells of, the program's. -/
import Derived.Test.YtledmlndlpmgdaaPPut
import Derived.Test.YtledmlndlpmgdaaGrow
namespace Go.Proofs.Ytledmlndlpmgdaa
open Go.RowKit Cr Me Pg

/-- What is known of each slot of contained. -/
def ctG (d : Addr) (c : Nat) (p0 p1 p2 p3 : Nat) : Gw.Fact := fun t v _ =>
  match t with
  | 3 | 7 | 11 | 17 | 23 => v = .slice (some d) 4 c
  | 8 => v = .pointer (some d)
  | 12 => v = .pointer (some (d.add 1))
  | 18 => v = .pointer (some (d.add 2))
  | 24 => v = .pointer (some (d.add 3))
  | 9 => v = .int .u8 (p0 : Int)
  | 10 => v = .int .u32 (p0 : Int)
  | 13 => v = .int .u8 (p1 : Int)
  | 14 => v = .int .u32 (p1 : Int)
  | 15 => v = .int .u32 ((256 * p1 : Nat) : Int)
  | 16 => v = .int .u32 ((p0 + 256 * p1 : Nat) : Int)
  | 19 => v = .int .u8 (p2 : Int)
  | 20 => v = .int .u32 (p2 : Int)
  | 21 => v = .int .u32 ((65536 * p2 : Nat) : Int)
  | 22 => v = .int .u32 ((p0 + 256 * p1 + 65536 * p2 : Nat) : Int)
  | 25 => v = .int .u8 (p3 : Int)
  | 26 => v = .int .u32 (p3 : Int)
  | 27 => v = .int .u32 ((16777216 * p3 : Nat) : Int)
  | 4 | 28 => v = .int .u32 ((p0 + 256 * p1 + 65536 * p2 + 16777216 * p3 : Nat) : Int)
  | _ => True
theorem num_cells {w : World} {a : Addr} {k : List UInt8} (hl : 12 ≤ k.length) (hr : Rd w w.heap.size (some a) k) :
    ∃ u0 u1 u2 u3 : UInt8, num (k.drop 8) = u0.toNat + 256 * u1.toNat + 65536 * u2.toNat + 16777216 * u3.toNat ∧ w.cell? (a.add 8) = some (.int .u8 (u0.toNat : Int)) ∧ w.cell? (a.add 9) = some (.int .u8 (u1.toNat : Int)) ∧ w.cell? (a.add 10) = some (.int .u8 (u2.toNat : Int)) ∧ w.cell? (a.add 11) = some (.int .u8 (u3.toNat : Int)) ∧ a.block < w.heap.size := by
  have cell : ∀ i, i < 12 → ∃ u : UInt8, k[i]? = some u ∧ w.cell? (a.add i) = some (.int .u8 (u.toNat : Int)) ∧ a.block < w.heap.size := by
    intro i hi
    obtain ⟨a', u, e, hb, hu, hcell⟩ := hr.at (k := i) (by omega)
    cases e
    exact ⟨u, hu, hcell, hb⟩
  obtain ⟨u0, g0, c0, hab⟩ := cell 8 (by omega)
  obtain ⟨u1, g1, c1, -⟩ := cell 9 (by omega)
  obtain ⟨u2, g2, c2, -⟩ := cell 10 (by omega)
  obtain ⟨u3, g3, c3, -⟩ := cell 11 (by omega)
  refine ⟨u0, u1, u2, u3, ?_, c0, c1, c2, c3, hab⟩
  unfold num
  simp only [List.getD_eq_getElem?_getD, List.getElem?_drop, g0, g1, g2, g3]
  rfl
set_option maxRecDepth 100000 in
set_option maxHeartbeats 1000000 in
theorem contained_any (a : Addr) (c : Nat) (k : List UInt8) (w : World) (hl : k.length = 128) (hc : 128 ≤ c) (hr : Rd w w.heap.size (some a) k) :
    Calls Try.prog 15 #[.slice (some a) 128 c] w fun e w' => e = .returned (.int .u32 ((min (num (k.drop 8)) 112 : Nat) : Int)) ∧ Below w.heap.size w w' := by
  obtain ⟨u0, u1, u2, u3, hnum, c0, c1, c2, c3, hab⟩ := num_cells (by omega) hr
  rw [hnum]
  have b0 : u0.toNat < 256 := u0.toNat_lt
  have b1 : u1.toNat < 256 := u1.toNat_lt
  have b2 : u2.toNat < 256 := u2.toNat_lt
  have b3 : u3.toNat < 256 := u3.toNat_lt
  clear hnum hl hr
  generalize u0.toNat = p0 at *
  generalize u1.toNat = p1 at *
  generalize u2.toNat = p2 at *
  generalize u3.toNat = p3 at *
  have v0 : IntKind.u32.wrap (p0 : Int) = p0 := by rw [IntKind.wrap_u32]; omega
  have v1 : IntKind.u32.wrap (p1 : Int) = p1 := by rw [IntKind.wrap_u32]; omega
  have v2 : IntKind.u32.wrap (p2 : Int) = p2 := by rw [IntKind.wrap_u32]; omega
  have v3 : IntKind.u32.wrap (p3 : Int) = p3 := by rw [IntKind.wrap_u32]; omega
  have x1 : IntKind.u32.wrap ((p1 : Int) * 256) = 256 * p1 := by rw [IntKind.wrap_u32]; omega
  have x2 : IntKind.u32.wrap ((p2 : Int) * 65536) = 65536 * p2 := by rw [IntKind.wrap_u32]; omega
  have x3 : IntKind.u32.wrap ((p3 : Int) * 16777216) = 16777216 * p3 := by rw [IntKind.wrap_u32]; omega
  have o1 : bits .or .u32 (p0 : Int) (256 * (p1 : Int)) = (p0 : Int) + 256 * p1 := by
    have := or_bytes 8 p0 p1 (by omega) (by omega) (by omega)
    simpa using this
  have o2 : bits .or .u32 ((p0 : Int) + 256 * (p1 : Int)) (65536 * (p2 : Int)) = (p0 : Int) + 256 * p1 + 65536 * p2 := by
    have := or_bytes 16 (p0 + 256 * p1) p2 (by omega) (by omega) (by omega)
    simpa using this
  have o3 : bits .or .u32 ((p0 : Int) + 256 * (p1 : Int) + 65536 * (p2 : Int)) (16777216 * (p3 : Int)) = (p0 : Int) + 256 * p1 + 65536 * p2 + 16777216 * p3 := by
    have := or_bytes 24 (p0 + 256 * p1 + 65536 * p2) p3 (by omega) (by omega) (by omega)
    simpa using this
  obtain ⟨d, hd⟩ : ∃ d, d = a.add 8 := ⟨_, rfl⟩
  have hdb : d.block < w.heap.size := by rw [hd, block_add]; exact hab
  have d1 : a.add 9 = d.add 1 := by rw [hd, add_add]
  have d2 : a.add 10 = d.add 2 := by rw [hd, add_add]
  have d3 : a.add 11 = d.add 3 := by rw [hd, add_add]
  rw [d1] at c1
  rw [d2] at c2
  rw [d3] at c3
  rw [← hd] at c0
  have HD := Lib.hid hd
  have HC0 := Lib.hid c0
  have HC1 := Lib.hid c1
  have HC2 := Lib.hid c2
  have HC3 := Lib.hid c3
  clear d1 d2 d3 c0 c1 c2 c3 hab hd
  obtain ⟨z, hz⟩ : ∃ z : Nat, z = min (p0 + 256 * p1 + 65536 * p2 + 16777216 * p3) 112 := ⟨_, rfl⟩
  rw [← hz]
  have HZ := Lib.hid hz
  clear hz
  have q1 : ¬ c = 8 := by omega
  have q2 : (12 : Int) ≤ (c : Int) := by omega
  go_enter Try.func15, Try.ntmps15
  go_wp2_with fail
  rw [show (⟨a.block, a.off + 8, none⟩ : Addr) = d from HD.out.symm]
  refine Gw.wp_region_grow (ctG d (c - 8) p0 p1 p2 p3) [7, 8, 9, 10, 11, 12, 13, 14, 15, 16, 17, 18, 19, 20, 21, 22, 23, 24, 25, 26, 27, 28, 4] [([3], none), ([7], none), ([8], none), ([9], none), ([3], none), ([11], none), ([12], none), ([13], none), ([14], none), ([10, 15], none), ([3], none), ([17], none), ([18], none), ([19], none), ([20], none), ([16, 21], none), ([3], none), ([23], none), ([24], none), ([25], none), ([26], none), ([22, 27], none), ([28], none)] 31 (by kernel_rfl) (by kernel_rfl) rfl ?h0 ?hreq ?hend
  case h0 =>
    intro t W hnd _
    unfold ctG
    split <;> first | rfl | trivial | exact absurd (by simp) hnd
  case hreq =>
    refine ⟨?_, ?_, ?_, ?_, ?_, ?_, ?_, ?_, ?_, ?_, ?_, ?_, ?_, ?_, ?_, ?_, ?_, ?_, ?_, ?_, ?_, ?_, ?_, trivial⟩
    all_goals
      intro ac W hg hk
      have hg' : Below w.heap.size w W := hg
      have k0' : W.cell? d = _ := (hg'.cell (p := d) hdb).trans HC0.out
      have k1 : W.cell? ⟨d.block, d.off + 1, none⟩ = _ := (hg'.cell (p := d.add 1) (by rw [block_add]; exact hdb)).trans HC1.out
      have k2 : W.cell? ⟨d.block, d.off + 2, none⟩ = _ := (hg'.cell (p := d.add 2) (by rw [block_add]; exact hdb)).trans HC2.out
      have k3 : W.cell? ⟨d.block, d.off + 3, none⟩ = _ := (hg'.cell (p := d.add 3) (by rw [block_add]; exact hdb)).trans HC3.out
      simp only [Gw.Knows, ctG] at hk
      try (simp [go_sem, Gw.OpReq, Gw.Ok, Gw.Post, Gw.Holds, ctG, Gw.Grows.refl, hk, k0', k1, k2, k3, v0, v1, v2, v3, x1, x2, x3, o1, o2, o3]; done)
  case hend =>
    intro x w' hg hx
    have h2 : x 4 = .int .u32 ((p0 + 256 * p1 + 65536 * p2 + 16777216 * p3 : Nat) : Int) := (hx 4 (by simp)).now
    have HB := Lib.hid (show Below w.heap.size w w' from hg)
    clear v0 v1 v2 v3 x1 x2 x3 o1 o2 o3
    simp only [Gw.putAll, Act.put, List.setIfInBounds_toArray, List.set_cons_zero, List.set_cons_succ]
    rw [h2]
    have HZ2 := Lib.hid HZ.out
    clear HZ h2
    generalize p0 + 256 * p1 + 65536 * p2 + 16777216 * p3 = m at *
    by_cases hm : m ≤ 112
    · have m1 : decide ((112 : Int) < (m : Int)) = false := by simp; omega
      have HM := Lib.hid (show z = m by have := HZ2.out; omega)
      clear HZ2
      go_wp2
      go_ret
      exact ⟨by rw [HM.out]; rfl, HB.out⟩
    · have m1 : decide ((112 : Int) < (m : Int)) = true := by simp; omega
      have HM := Lib.hid (show z = 112 by have := HZ2.out; omega)
      clear HZ2
      go_wp2
      go_ret
      exact ⟨by rw [HM.out]; rfl, HB.out⟩
end Go.Proofs.Ytledmlndlpmgdaa
