/- The section in front of bytes, the program's: the parts. -/
import Derived.Test.YtinalnjekbfifaaRefFPut
namespace Go.Proofs.Ytinalnjekbfifaa
open Go.RowKit Cr Me Fr

theorem front_short (A : Option Addr) (n c k : Nat) (w : World) (hn : n < k + 4) (hk : k ≤ 1048576) :
    Calls Try.prog 22 #[.slice A n c, .int .i64 (k : Int)] w fun e w' => e = .returned (.tuple #[.slice none 0 0, .int .i64 2]) ∧ w = w' := by
  have h1 : decide ((n : Int) < (k : Int) + 4) = true := by simp; omega
  go_enter Try.func22, Try.ntmps22
  go_wp2
  go_ret2
  exact ⟨rfl, rfl⟩
theorem front_full (A : Option Addr) (n c k : Nat) (b : List UInt8) (w : World) (hb : b.length = n) (hc : n ≤ c) (hn : k + 4 ≤ n) (hk : k ≤ 1048576) (hr : Rd w w.heap.size A b) :
    Calls Try.prog 22 #[.slice A n c, .int .i64 (k : Int)] w fun e w' => FTells w (fitL (b.take (k + 4))) (fitC (b.take (k + 4))) e w' := by
  have h1 : decide ((n : Int) < (k : Int) + 4) = false := by simp; omega
  have HT := Lib.hid (hr.take (k + 4))
  have HL := Lib.hid (show (b.take (k + 4)).length = k + 4 by rw [List.length_take, hb]; omega)
  obtain ⟨a, rfl, -⟩ := hr (by omega)
  have HX := Lib.hid (show ∃ z, z = fitC (b.take (k + 4)) from ⟨_, rfl⟩)
  clear hb hr
  have q1 : (k : Int) + 4 ≤ (c : Int) := by omega
  go_enter Try.func22, Try.ntmps22
  go_wp2_with fail
  refine (fits_all (some a) (k + 4) c (b.take (k + 4)) w HL.out (by omega) (by omega) HT.out).mono ?_
  rintro e w' ⟨hb, X, m, d, rfl, hl, hm, hx, hnw⟩
  have HB := Lib.hid hb
  have HLX := Lib.hid hl
  have HRX := Lib.hid hx
  have HNW := Lib.hid hnw
  clear hb hl hx hnw
  go_wp2
  go_ret2
  exact ⟨HB.out, X, m, d, rfl, HLX.out, hm, HRX.out, HNW.out⟩

theorem or_bytes (k x y : Nat) (hx : x < 2 ^ k) (h1 : x < 4294967296) (h2 : 2 ^ k * y < 4294967296) : bits .or .u32 (x : Int) ((2 ^ k * y : Nat) : Int) = ((x + 2 ^ k * y : Nat) : Int) := by
  rw [u32_or_nat _ _ h1 h2, Nat.or_comm, ← Nat.two_pow_add_eq_or_of_lt hx y, Nat.add_comm]
/-- What is known of each slot of bodyBytes. -/
def bbG (a : Addr) (c : Nat) (p1 p2 p3 p4 : Nat) : Gw.Fact := fun t v _ =>
  match t with
  | 0 | 3 | 7 | 13 | 19 => v = .slice (some a) 5 c
  | 4 => v = .pointer (some (a.add 1))
  | 8 => v = .pointer (some (a.add 2))
  | 14 => v = .pointer (some (a.add 3))
  | 20 => v = .pointer (some (a.add 4))
  | 5 => v = .int .u8 (p1 : Int)
  | 6 => v = .int .u32 (p1 : Int)
  | 9 => v = .int .u8 (p2 : Int)
  | 10 => v = .int .u32 (p2 : Int)
  | 11 => v = .int .u32 ((256 * p2 : Nat) : Int)
  | 12 => v = .int .u32 ((p1 + 256 * p2 : Nat) : Int)
  | 15 => v = .int .u8 (p3 : Int)
  | 16 => v = .int .u32 (p3 : Int)
  | 17 => v = .int .u32 ((65536 * p3 : Nat) : Int)
  | 18 => v = .int .u32 ((p1 + 256 * p2 + 65536 * p3 : Nat) : Int)
  | 21 => v = .int .u8 (p4 : Int)
  | 22 => v = .int .u32 (p4 : Int)
  | 23 => v = .int .u32 ((16777216 * p4 : Nat) : Int)
  | 2 | 24 => v = .int .u32 ((p1 + 256 * p2 + 65536 * p3 + 16777216 * p4 : Nat) : Int)
  | _ => True
set_option maxRecDepth 100000 in
set_option maxHeartbeats 1000000 in
theorem bodyBytes_any (a : Addr) (c : Nat) (h : List UInt8) (w : World) (hl : h.length = 5) (hr : Rd w w.heap.size (some a) h) :
    Calls Try.prog 23 #[.slice (some a) 5 c] w fun e w' => e = .returned (.int .u32 (lenOf h : Int)) ∧ Below w.heap.size w w' := by
  have cell : ∀ i, i < 5 → ∃ u : UInt8, h[i]? = some u ∧ w.cell? (a.add i) = some (.int .u8 (u.toNat : Int)) ∧ a.block < w.heap.size := by
    intro i hi
    obtain ⟨a', u, e, hb, hu, hcell⟩ := hr.at (k := i) (by omega)
    cases e
    exact ⟨u, hu, hcell, hb⟩
  obtain ⟨u1, g1, c1, hab⟩ := cell 1 (by omega)
  obtain ⟨u2, g2, c2, -⟩ := cell 2 (by omega)
  obtain ⟨u3, g3, c3, -⟩ := cell 3 (by omega)
  obtain ⟨u4, g4, c4, -⟩ := cell 4 (by omega)
  have hlen : lenOf h = u1.toNat + 256 * u2.toNat + 65536 * u3.toNat + 16777216 * u4.toNat := by
    unfold lenOf
    rw [List.getD_eq_getElem?_getD, List.getD_eq_getElem?_getD, List.getD_eq_getElem?_getD, List.getD_eq_getElem?_getD, g1, g2, g3, g4]
    rfl
  rw [hlen]
  have b1 : u1.toNat < 256 := u1.toNat_lt
  have b2 : u2.toNat < 256 := u2.toNat_lt
  have b3 : u3.toNat < 256 := u3.toNat_lt
  have b4 : u4.toNat < 256 := u4.toNat_lt
  clear hlen cell hl g1 g2 g3 g4
  generalize u1.toNat = p1 at *
  generalize u2.toNat = p2 at *
  generalize u3.toNat = p3 at *
  generalize u4.toNat = p4 at *
  have v1 : IntKind.u32.wrap (p1 : Int) = p1 := by rw [IntKind.wrap_u32]; omega
  have v2 : IntKind.u32.wrap (p2 : Int) = p2 := by rw [IntKind.wrap_u32]; omega
  have v3 : IntKind.u32.wrap (p3 : Int) = p3 := by rw [IntKind.wrap_u32]; omega
  have v4 : IntKind.u32.wrap (p4 : Int) = p4 := by rw [IntKind.wrap_u32]; omega
  have x2 : IntKind.u32.wrap ((p2 : Int) * 256) = 256 * p2 := by rw [IntKind.wrap_u32]; omega
  have x3 : IntKind.u32.wrap ((p3 : Int) * 65536) = 65536 * p3 := by rw [IntKind.wrap_u32]; omega
  have x4 : IntKind.u32.wrap ((p4 : Int) * 16777216) = 16777216 * p4 := by rw [IntKind.wrap_u32]; omega
  have o2 : bits .or .u32 (p1 : Int) (256 * (p2 : Int)) = (p1 : Int) + 256 * p2 := by
    have := or_bytes 8 p1 p2 (by omega) (by omega) (by omega)
    simpa using this
  have o3 : bits .or .u32 ((p1 : Int) + 256 * (p2 : Int)) (65536 * (p3 : Int)) = (p1 : Int) + 256 * p2 + 65536 * p3 := by
    have := or_bytes 16 (p1 + 256 * p2) p3 (by omega) (by omega) (by omega)
    simpa using this
  have o4 : bits .or .u32 ((p1 : Int) + 256 * (p2 : Int) + 65536 * (p3 : Int)) (16777216 * (p4 : Int)) = (p1 : Int) + 256 * p2 + 65536 * p3 + 16777216 * p4 := by
    have := or_bytes 24 (p1 + 256 * p2 + 65536 * p3) p4 (by omega) (by omega) (by omega)
    simpa using this
  clear hr
  go_enter Try.func23, Try.ntmps23
  go_wp2_with fail
  refine Gw.wp_region_grow (bbG a c p1 p2 p3 p4) [3, 4, 5, 6, 7, 8, 9, 10, 11, 12, 13, 14, 15, 16, 17, 18, 19, 20, 21, 22, 23, 24, 2] [([0], none), ([3], none), ([4], none), ([5], none), ([0], none), ([7], none), ([8], none), ([9], none), ([10], none), ([6, 11], none), ([0], none), ([13], none), ([14], none), ([15], none), ([16], none), ([12, 17], none), ([0], none), ([19], none), ([20], none), ([21], none), ([22], none), ([18, 23], none), ([24], none)] 25 (by kernel_rfl) (by kernel_rfl) rfl ?h0 ?hreq ?hend
  case h0 =>
    intro t W hnd _
    unfold bbG
    split <;> first | rfl | trivial | exact absurd (by simp) hnd
  case hreq =>
    refine ⟨?_, ?_, ?_, ?_, ?_, ?_, ?_, ?_, ?_, ?_, ?_, ?_, ?_, ?_, ?_, ?_, ?_, ?_, ?_, ?_, ?_, ?_, ?_, trivial⟩
    all_goals
      intro ac W hg hk
      have hg' : Below w.heap.size w W := hg
      have k1 : W.cell? ⟨a.block, a.off + 1, none⟩ = _ := (hg'.cell (p := a.add 1) (by rw [block_add]; exact hab)).trans c1
      have k2 : W.cell? ⟨a.block, a.off + 2, none⟩ = _ := (hg'.cell (p := a.add 2) (by rw [block_add]; exact hab)).trans c2
      have k3 : W.cell? ⟨a.block, a.off + 3, none⟩ = _ := (hg'.cell (p := a.add 3) (by rw [block_add]; exact hab)).trans c3
      have k4 : W.cell? ⟨a.block, a.off + 4, none⟩ = _ := (hg'.cell (p := a.add 4) (by rw [block_add]; exact hab)).trans c4
      simp only [Gw.Knows, bbG] at hk
      try (simp [go_sem, Gw.OpReq, Gw.Ok, Gw.Post, Gw.Holds, bbG, Gw.Grows.refl, hk, k1, k2, k3, k4, v1, v2, v3, v4, x2, x3, x4, o2, o3, o4]; done)
  case hend =>
    intro x w' hg hx
    have h2 : x 2 = .int .u32 ((p1 + 256 * p2 + 65536 * p3 + 16777216 * p4 : Nat) : Int) := (hx 2 (by simp)).now
    have HB := Lib.hid (show Below w.heap.size w w' from hg)
    clear v1 v2 v3 v4 x2 x3 x4 o2 o3 o4
    simp only [Gw.putAll, Act.put, List.setIfInBounds_toArray, List.set_cons_zero, List.set_cons_succ]
    rw [h2]
    go_wp2
    go_ret
    exact ⟨rfl, HB.out⟩
end Go.Proofs.Ytinalnjekbfifaa
