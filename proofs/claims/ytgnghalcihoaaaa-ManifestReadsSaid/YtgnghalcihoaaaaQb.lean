/- Merged: RefFPut, Front, FGet, MGet. -/
import Derived.Test.YtgnghalcihoaaaaFPut
import Derived.Test.YtgnghalcihoaaaaTail
import Derived.Test.YtgnghalcihoaaaaQa
import Derived.Test.YtgnghalcihoaaaaMAw
/-! A section's bytes, the document's. -/
namespace Go.Proofs.Ytgnghalcihoaaaa
open Go.RowKit Cr Me Fr

/-- What is known of each slot of the head's region. -/
def rfG1 (B H : Nat) (M : Option Addr) (m d : Nat) (s : SecD) (r : Reg) : Gw.Fact := fun t v w =>
  match t with
  | 1 | 4 => v = .pointer (some ⟨H, 0, none⟩)
  | 5 => v = .int .u8 (s.kind.toNat : Int)
  | 6 => w.ownsRow B 5 1 v 1 (cellsOf [s.kind])
  | 7 => v = .pointer (some ⟨H, 1, none⟩)
  | 8 => v = .slice M m d
  | 9 => v = .int .i64 (m : Int)
  | 10 => v = .int .u32 (r.toNat : Int)
  | 11 => ∃ X, v = .slice X 4 4 ∧ Rd w w.heap.size X (four r)
  | _ => True
/-- .. of the last region. -/
def rfG2 (B H : Nat) (X M : Option Addr) (cx m d : Nat) (s : SecD) : Gw.Fact := fun t v w =>
  match t with
  | 1 => v = .pointer (some ⟨H, 0, none⟩)
  | 3 | 13 => v = .slice X 5 cx
  | 14 => w.ownsRow B 5 1 v 9 (cellsOf (Cr.mark (head s.kind m)))
  | 15 => v = .pointer (some ⟨H, 1, none⟩)
  | 16 => v = .slice M m d
  | 17 => ∃ Y cy, v = .slice Y (m + 4) cy ∧ Rd w w.heap.size Y (Cr.mark s.body)
  | _ => True
set_option maxRecDepth 100000 in
set_option maxHeartbeats 1000000 in
theorem ref_fput_any (M : Option Addr) (m d : Nat) (s : SecD) (w : World) (hs : s.body.length = m) (hm : m ≤ 1048576) (hrs : Rd w w.heap.size M s.body) :
    Calls Try.prog 79 #[.agg #[.int .u8 (s.kind.toNat : Int), .slice M m d]] w (News w (encS s)) := by
  obtain ⟨i0, hi0, hz0, hz1, hz2⟩ := info_parts u8_info
  have hk := s.kind.toNat_lt
  have HS := Lib.hid hs
  have HRS := Lib.hid hrs
  obtain ⟨r, hr⟩ : ∃ r : Reg, r = BitVec.ofNat 32 m := ⟨_, rfl⟩
  have hmr : (r.toNat : Int) = (m : Int) := by rw [hr, BitVec.toNat_ofNat]; omega
  have HRr := Lib.hid hr
  have HMR := Lib.hid hmr
  clear hs hrs hr hmr
  go_enter Try.func79, Try.ntmps79
  go_wp2_with fail
  have T := Lib.hid (Two.new w (.int .u8 (s.kind.toNat : Int)) (.slice M m d) 68)
  have HB0 := Lib.hid (show Below w.heap.size w (w.alloc (.cells #[.int .u8 (s.kind.toNat : Int), .slice M m d] 68)) from (Below.refl _ _).alloc (Nat.le_refl _) _)
  have hs1 : (w.alloc (.cells #[.int .u8 (s.kind.toNat : Int), .slice M m d] 68)).heap.size = w.heap.size + 1 := by simp
  generalize hw1 : w.alloc (.cells #[.int .u8 (s.kind.toNat : Int), .slice M m d] 68) = w1 at *
  refine Gw.wp_region_tail 8 (rfG1 w1.heap.size w.heap.size M m d s r) [4, 5, 6, 7, 8, 9, 10, 11] [([1], none), ([4], none), ([5], none), ([1], none), ([7], none), ([8], none), ([9], none), ([10], none)] 19 (by kernel_rfl) (by kernel_rfl) rfl ?h0 ?hreq rfl ?hend
  case h0 =>
    intro t W hnd _
    unfold rfG1
    split <;> first | rfl | trivial | exact absurd (by simp) hnd
  case hreq =>
    refine ⟨?_, ?_, ?_, ?_, ?_, ?_, ?_, ?_, trivial⟩
    all_goals
      intro a W hg hk
      have hg' : Below w1.heap.size w1 W := hg
      obtain ⟨k1, k2, -, -⟩ := T.out.past hg'
      have hsz : w1.heap.size ≤ W.heap.size := hg'.size
      simp only [Gw.Knows, rfG1] at hk
      try (simp [go_sem, Gw.OpReq, Gw.Ok, Gw.Post, Gw.Holds, rfG1, Gw.Grows.refl, hk, k1, k2]; done)
    · simp [go_sem, Gw.OpReq, Gw.Ok, Gw.Post, Gw.Holds, rfG1, hk]
      have ho := World.ownsRow_lit (base := w1.heap.size) (e := 5) (size := 1) W #[.int .u8 (s.kind.toNat : Int)] 1 hsz (by unfold maxLen; omega) rfl
      exact ⟨(Below.refl _ _).alloc (Nat.le_refl _) _, fun W2 hW2 => own_below ho hW2⟩
    · simp [go_sem, Gw.OpReq, Gw.Ok, Gw.Post, Gw.Holds, rfG1, Gw.Grows.refl, hk]
      rw [IntKind.wrap_u32, HMR.out]
      omega
    · simp [go_sem, Gw.OpReq, Gw.Ok, Gw.Post, Gw.Holds, rfG1, Gw.Grows.refl, hk]
      refine (ref_four_any r W).mono ?_
      rintro e w5 ⟨rfl, hr5, hb5⟩
      exact ⟨_, rfl, hb5, fun W2 hW2 => ⟨_, rfl, (hr5.below hW2).more (Below.size hW2)⟩⟩
  case hend =>
    intro x w2 hg hx
    have h6 : w2.ownsRow w1.heap.size 5 1 (x 6) 1 (cellsOf [s.kind]) := (hx 6 (by simp)).now
    obtain ⟨X, h11, hr11⟩ : ∃ X, x 11 = .slice X 4 4 ∧ Rd w2 w2.heap.size X (four r) := (hx 11 (by simp)).now
    have HB2 := Lib.hid (show Below w1.heap.size w1 w2 from hg)
    have T2 := Lib.hid (T.out.past HB2.out)
    simp only [Gw.putAll, Act.put, List.setIfInBounds_toArray, List.set_cons_zero, List.set_cons_succ]
    rw [h11]
    refine Gw.wp_app (.tmp 6) (.tmp 11) 22 rfl w1.heap.size 5 i0 _ Try.underlying22 hi0 hz0 hz1 hz2 rfl (x 6) 1 [s.kind] rfl h6 w2.heap.size X 4 4 (four r) rfl rfl hr11 (by omega) HB2.out.size ?_
    intro v3 w3 hown3 hg3
    refine Gw.wp_assign (.tmp 12) v3 rfl rfl ?_
    have HB3 := Lib.hid (HB0.out.trans ((below_app HB2.out h6 (Nat.le_refl _) HB2.out.size hg3).mono HB0.out.size))
    have T3 := Lib.hid (T2.out.grown hg3 (fun e => by have := (h6.lt _ e).1; omega))
    have hh : cellsOf ([s.kind] ++ four r) = cellsOf (head s.kind m) := by unfold head; rw [HRr.out]; rfl
    rw [hh] at hown3
    obtain ⟨X3, c3, rfl⟩ := own_slice hown3
    have HR3 := Lib.hid (Rd.of_own hown3)
    have hs3 : w.heap.size < w3.heap.size := by have := T3.out.here; exact this
    clear hown3 hg3 h6 hr11 h11 hx hg hh
    simp only [Gw.seqTail, Act.put, List.setIfInBounds_toArray, List.set_cons_zero, List.set_cons_succ]
    go_wp2_with fail
    refine Gw.wp_region_tail 5 (rfG2 w3.heap.size w.heap.size X3 M c3 m d s) [13, 14, 15, 16, 17] [([3], none), ([13], none), ([1], none), ([15], none), ([16], none)] 19 (by kernel_rfl) (by kernel_rfl) rfl ?h1 ?hreq1 rfl ?hend1
    case h1 =>
      intro t W hnd _
      unfold rfG2
      split <;> first | rfl | trivial | exact absurd (by simp) hnd
    case hreq1 =>
      refine ⟨?_, ?_, ?_, ?_, ?_, trivial⟩
      all_goals
        intro a W hg hk
        have hg' : Below w3.heap.size w3 W := hg
        obtain ⟨-, k2, -, -⟩ := T3.out.past hg'
        simp only [Gw.Knows, rfG2] at hk
        try (simp [go_sem, Gw.OpReq, Gw.Ok, Gw.Post, Gw.Holds, rfG2, Gw.Grows.refl, hk, k2]; done)
      · simp [go_sem, Gw.OpReq, Gw.Ok, Gw.Post, Gw.Holds, rfG2, Gw.Grows.refl, hk]
        refine (ref_mark_any X3 5 c3 _ W (head_length _ _) (by omega) ((HR3.out.below hg').more hg'.size)).mono ?_
        rintro e w5 ⟨v, rfl, ho, hb5⟩
        exact ⟨_, rfl, hb5, fun W2 hW2 => own_below (own_more ho hg'.size) hW2⟩
      · simp [go_sem, Gw.OpReq, Gw.Ok, Gw.Post, Gw.Holds, rfG2, Gw.Grows.refl, hk]
        have hb := HB3.out.trans (hg'.mono HB3.out.size)
        refine (ref_mark_news M m d s.body W HS.out (by omega) ((HRS.out.below hb).more hb.size)).mono ?_
        intro e w5 h5
        obtain ⟨Y, n5, c5, rfl, hl, -, -, hr5, hb5⟩ := h5.open
        have e5 : n5 = m + 4 := by rw [← hl, mark_length, HS.out]
        subst e5
        exact ⟨_, rfl, hb5, fun W2 hW2 => ⟨Y, ⟨c5, rfl⟩, (hr5.below hW2).more (Below.size hW2)⟩⟩
    case hend1 =>
      intro y w4 hg hy
      have h14 : w4.ownsRow w3.heap.size 5 1 (y 14) 9 (cellsOf (Cr.mark (head s.kind m))) := (hy 14 (by simp)).now
      obtain ⟨Y, cy, h17, hr17⟩ : ∃ Y cy, y 17 = .slice Y (m + 4) cy ∧ Rd w4 w4.heap.size Y (Cr.mark s.body) := (hy 17 (by simp)).now
      have HB4 := Lib.hid (show Below w3.heap.size w3 w4 from hg)
      simp only [Gw.putAll, Act.put, List.setIfInBounds_toArray, List.set_cons_zero, List.set_cons_succ]
      rw [h17]
      refine Gw.wp_app (.tmp 14) (.tmp 17) 22 rfl w3.heap.size 5 i0 _ Try.underlying22 hi0 hz0 hz1 hz2 rfl (y 14) 9 _ rfl h14 w4.heap.size Y (m + 4) cy _ rfl (by rw [mark_length, HS.out]) hr17 (by omega) HB4.out.size ?_
      intro v5 w5 hown5 hg5
      refine Gw.wp_assign (.tmp 18) v5 rfl rfl ?_
      have HB5 := Lib.hid (HB3.out.trans ((below_app HB4.out h14 (Nat.le_refl _) HB4.out.size hg5).mono HB3.out.size))
      have HO5 := Lib.hid (own_more hown5 HB3.out.size)
      clear hown5 hg5 h14 hr17 h17 hy hg
      simp only [Gw.seqTail, Act.put, List.setIfInBounds_toArray, List.set_cons_zero, List.set_cons_succ]
      go_wp2
      go_ret
      refine ⟨v5, 9 + (m + 4), rfl, ?_, HB5.out⟩
      have := HO5.out
      unfold encS
      rw [HS.out]
      exact this
end Go.Proofs.Ytgnghalcihoaaaa

/-! The section in front of bytes, the program's: the parts. -/
namespace Go.Proofs.Ytgnghalcihoaaaa
open Go.RowKit Cr Me Fr

theorem front_short (A : Option Addr) (n c k : Nat) (w : World) (hn : n < k + 4) (hk : k ≤ 1048576) :
    Calls Try.prog 61 #[.slice A n c, .int .i64 (k : Int)] w fun e w' => e = .returned (.tuple #[.slice none 0 0, .int .i64 2]) ∧ w = w' := by
  have h1 : decide ((n : Int) < (k : Int) + 4) = true := by simp; omega
  go_enter Try.func61, Try.ntmps61
  go_wp2
  go_ret2
  exact ⟨rfl, rfl⟩
theorem front_full (A : Option Addr) (n c k : Nat) (b : List UInt8) (w : World) (hb : b.length = n) (hc : n ≤ c) (hn : k + 4 ≤ n) (hk : k ≤ 1048576) (hr : Rd w w.heap.size A b) :
    Calls Try.prog 61 #[.slice A n c, .int .i64 (k : Int)] w fun e w' => FTells w (fitL (b.take (k + 4))) (fitC (b.take (k + 4))) e w' := by
  have h1 : decide ((n : Int) < (k : Int) + 4) = false := by simp; omega
  have HT := Lib.hid (hr.take (k + 4))
  have HL := Lib.hid (show (b.take (k + 4)).length = k + 4 by rw [List.length_take, hb]; omega)
  obtain ⟨a, rfl, -⟩ := hr (by omega)
  have HX := Lib.hid (show ∃ z, z = fitC (b.take (k + 4)) from ⟨_, rfl⟩)
  clear hb hr
  have q1 : (k : Int) + 4 ≤ (c : Int) := by omega
  go_enter Try.func61, Try.ntmps61
  go_wp2_with fail
  refine (fits_all (some a) (k + 4) c (b.take (k + 4)) w HL.out (by omega) (by omega) HT.out).mono ?_
  rintro e w' ⟨hb, X, m, d, rfl, hl, hm, hx, hnw⟩
  have HB := Lib.hid hb
  have HLX := Lib.hid hl
  have HRX := Lib.hid hx
  have HNW := Lib.hid hnw
  clear hb hl hx hnw
  go_wp2
  go_ret2
  exact ⟨HB.out, X, m, d, rfl, HLX.out, hm, HRX.out, HNW.out⟩

/-- What is known of each slot of bodyBytes. -/
def bbG (a : Addr) (c : Nat) (p1 p2 p3 p4 : Nat) : Gw.Fact := fun t v _ =>
  match t with
  | 0 | 3 | 7 | 13 | 19 => v = .slice (some a) 5 c
  | 4 => v = .pointer (some (a.add 1))
  | 8 => v = .pointer (some (a.add 2))
  | 14 => v = .pointer (some (a.add 3))
  | 20 => v = .pointer (some (a.add 4))
  | 5 => v = .int .u8 (p1 : Int)
  | 6 => v = .int .u32 (p1 : Int)
  | 9 => v = .int .u8 (p2 : Int)
  | 10 => v = .int .u32 (p2 : Int)
  | 11 => v = .int .u32 ((256 * p2 : Nat) : Int)
  | 12 => v = .int .u32 ((p1 + 256 * p2 : Nat) : Int)
  | 15 => v = .int .u8 (p3 : Int)
  | 16 => v = .int .u32 (p3 : Int)
  | 17 => v = .int .u32 ((65536 * p3 : Nat) : Int)
  | 18 => v = .int .u32 ((p1 + 256 * p2 + 65536 * p3 : Nat) : Int)
  | 21 => v = .int .u8 (p4 : Int)
  | 22 => v = .int .u32 (p4 : Int)
  | 23 => v = .int .u32 ((16777216 * p4 : Nat) : Int)
  | 2 | 24 => v = .int .u32 ((p1 + 256 * p2 + 65536 * p3 + 16777216 * p4 : Nat) : Int)
  | _ => True
set_option maxRecDepth 100000 in
set_option maxHeartbeats 1000000 in
theorem bodyBytes_any (a : Addr) (c : Nat) (h : List UInt8) (w : World) (hl : h.length = 5) (hr : Rd w w.heap.size (some a) h) :
    Calls Try.prog 62 #[.slice (some a) 5 c] w fun e w' => e = .returned (.int .u32 (lenOf h : Int)) ∧ Below w.heap.size w w' := by
  have cell : ∀ i, i < 5 → ∃ u : UInt8, h[i]? = some u ∧ w.cell? (a.add i) = some (.int .u8 (u.toNat : Int)) ∧ a.block < w.heap.size := by
    intro i hi
    obtain ⟨a', u, e, hb, hu, hcell⟩ := hr.at (k := i) (by omega)
    cases e
    exact ⟨u, hu, hcell, hb⟩
  obtain ⟨u1, g1, c1, hab⟩ := cell 1 (by omega)
  obtain ⟨u2, g2, c2, -⟩ := cell 2 (by omega)
  obtain ⟨u3, g3, c3, -⟩ := cell 3 (by omega)
  obtain ⟨u4, g4, c4, -⟩ := cell 4 (by omega)
  have hlen : lenOf h = u1.toNat + 256 * u2.toNat + 65536 * u3.toNat + 16777216 * u4.toNat := by
    unfold lenOf
    rw [List.getD_eq_getElem?_getD, List.getD_eq_getElem?_getD, List.getD_eq_getElem?_getD, List.getD_eq_getElem?_getD, g1, g2, g3, g4]
    rfl
  rw [hlen]
  have b1 : u1.toNat < 256 := u1.toNat_lt
  have b2 : u2.toNat < 256 := u2.toNat_lt
  have b3 : u3.toNat < 256 := u3.toNat_lt
  have b4 : u4.toNat < 256 := u4.toNat_lt
  clear hlen cell hl g1 g2 g3 g4
  generalize u1.toNat = p1 at *
  generalize u2.toNat = p2 at *
  generalize u3.toNat = p3 at *
  generalize u4.toNat = p4 at *
  have v1 : IntKind.u32.wrap (p1 : Int) = p1 := by rw [IntKind.wrap_u32]; omega
  have v2 : IntKind.u32.wrap (p2 : Int) = p2 := by rw [IntKind.wrap_u32]; omega
  have v3 : IntKind.u32.wrap (p3 : Int) = p3 := by rw [IntKind.wrap_u32]; omega
  have v4 : IntKind.u32.wrap (p4 : Int) = p4 := by rw [IntKind.wrap_u32]; omega
  have x2 : IntKind.u32.wrap ((p2 : Int) * 256) = 256 * p2 := by rw [IntKind.wrap_u32]; omega
  have x3 : IntKind.u32.wrap ((p3 : Int) * 65536) = 65536 * p3 := by rw [IntKind.wrap_u32]; omega
  have x4 : IntKind.u32.wrap ((p4 : Int) * 16777216) = 16777216 * p4 := by rw [IntKind.wrap_u32]; omega
  have o2 : bits .or .u32 (p1 : Int) (256 * (p2 : Int)) = (p1 : Int) + 256 * p2 := by
    have := or_bytes 8 p1 p2 (by omega) (by omega) (by omega)
    simpa using this
  have o3 : bits .or .u32 ((p1 : Int) + 256 * (p2 : Int)) (65536 * (p3 : Int)) = (p1 : Int) + 256 * p2 + 65536 * p3 := by
    have := or_bytes 16 (p1 + 256 * p2) p3 (by omega) (by omega) (by omega)
    simpa using this
  have o4 : bits .or .u32 ((p1 : Int) + 256 * (p2 : Int) + 65536 * (p3 : Int)) (16777216 * (p4 : Int)) = (p1 : Int) + 256 * p2 + 65536 * p3 + 16777216 * p4 := by
    have := or_bytes 24 (p1 + 256 * p2 + 65536 * p3) p4 (by omega) (by omega) (by omega)
    simpa using this
  clear hr
  go_enter Try.func62, Try.ntmps62
  go_wp2_with fail
  refine Gw.wp_region_grow (bbG a c p1 p2 p3 p4) [3, 4, 5, 6, 7, 8, 9, 10, 11, 12, 13, 14, 15, 16, 17, 18, 19, 20, 21, 22, 23, 24, 2] [([0], none), ([3], none), ([4], none), ([5], none), ([0], none), ([7], none), ([8], none), ([9], none), ([10], none), ([6, 11], none), ([0], none), ([13], none), ([14], none), ([15], none), ([16], none), ([12, 17], none), ([0], none), ([19], none), ([20], none), ([21], none), ([22], none), ([18, 23], none), ([24], none)] 25 (by kernel_rfl) (by kernel_rfl) rfl ?h0 ?hreq ?hend
  case h0 =>
    intro t W hnd _
    unfold bbG
    split <;> first | rfl | trivial | exact absurd (by simp) hnd
  case hreq =>
    refine ⟨?_, ?_, ?_, ?_, ?_, ?_, ?_, ?_, ?_, ?_, ?_, ?_, ?_, ?_, ?_, ?_, ?_, ?_, ?_, ?_, ?_, ?_, ?_, trivial⟩
    all_goals
      intro ac W hg hk
      have hg' : Below w.heap.size w W := hg
      have k1 : W.cell? ⟨a.block, a.off + 1, none⟩ = _ := (hg'.cell (p := a.add 1) (by rw [block_add]; exact hab)).trans c1
      have k2 : W.cell? ⟨a.block, a.off + 2, none⟩ = _ := (hg'.cell (p := a.add 2) (by rw [block_add]; exact hab)).trans c2
      have k3 : W.cell? ⟨a.block, a.off + 3, none⟩ = _ := (hg'.cell (p := a.add 3) (by rw [block_add]; exact hab)).trans c3
      have k4 : W.cell? ⟨a.block, a.off + 4, none⟩ = _ := (hg'.cell (p := a.add 4) (by rw [block_add]; exact hab)).trans c4
      simp only [Gw.Knows, bbG] at hk
      try (simp [go_sem, Gw.OpReq, Gw.Ok, Gw.Post, Gw.Holds, bbG, Gw.Grows.refl, hk, k1, k2, k3, k4, v1, v2, v3, v4, x2, x3, x4, o2, o3, o4]; done)
  case hend =>
    intro x w' hg hx
    have h2 : x 2 = .int .u32 ((p1 + 256 * p2 + 65536 * p3 + 16777216 * p4 : Nat) : Int) := (hx 2 (by simp)).now
    have HB := Lib.hid (show Below w.heap.size w w' from hg)
    clear v1 v2 v3 v4 x2 x3 x4 o2 o3 o4
    simp only [Gw.putAll, Act.put, List.setIfInBounds_toArray, List.set_cons_zero, List.set_cons_succ]
    rw [h2]
    go_wp2
    go_ret
    exact ⟨rfl, HB.out⟩
end Go.Proofs.Ytgnghalcihoaaaa

/-! The section in front of bytes, the program's. -/
namespace Go.Proofs.Ytgnghalcihoaaaa
open Go.RowKit Cr Me Fr

/-- A section, how many bytes it has, and an error's number are answered. -/
def SGetPost (w : World) (R : SecD × Nat × Int) (e : Ending) (w' : World) : Prop :=
  Below w.heap.size w w' ∧ ∃ A n c, e = .returned (.tuple #[.agg #[.int .u8 (R.1.kind.toNat : Int), .slice A n c], .int .i64 (R.2.1 : Int), .int .i64 R.2.2]) ∧ R.1.body.length = n ∧ n ≤ 1048576 ∧ Rd w' w'.heap.size A R.1.body ∧ (0 < R.1.body.length → ∃ a, A = some a ∧ w.heap.size ≤ a.block)
theorem sget_none {w w' : World} {R : SecD × Nat × Int} {x : Int} (h : R = (noSec, 0, x)) (hb : Below w.heap.size w w') :
    SGetPost w R (.returned (.tuple #[.agg #[.int .u8 0, .slice none 0 0], .int .i64 0, .int .i64 x])) w' := by
  subst h
  exact ⟨hb, none, 0, 0, rfl, rfl, by omega, Rd.empty, fun h => by simp [noSec] at h⟩
set_option maxRecDepth 100000 in
set_option maxHeartbeats 1000000 in
theorem fget_short (A : Option Addr) (n c : Nat) (b : List UInt8) (w : World) (hb : b.length = n) (hn : n < 9) :
    Calls Try.prog 30 #[.slice A n c] w (SGetPost w (getS b)) := by
  have HG := Lib.hid (getS_short (b := b) (by omega))
  have HB := Lib.hid (show Below w.heap.size w (w.alloc (.cells #[.int .u8 0, .slice none 0 0] 68)) from (Below.refl _ _).alloc (Nat.le_refl _) _)
  obtain ⟨r0, r1, -, -⟩ := Two.new w (.int .u8 0) (.slice none 0 0) 68
  clear hb
  go_enter Try.func30, Try.ntmps30
  go_wp2_with fail
  refine (front_short A n c 5 _ hn (by omega)).mono ?_
  rintro e w' ⟨rfl, rfl⟩
  go_wp2
  exact bodyPost_ret (v := .tuple #[.agg #[.int .u8 0, .slice none 0 0], .int .i64 0, .int .i64 2]) (by simp [results, Try.results30, go_sem, r0, r1]) rfl (sget_none HG.out HB.out)
theorem fitB_nine {b : List UInt8} (hb : 9 ≤ b.length) : fitC (b.take 9) = if fitB (b.take 9) then 0 else 5 := by
  unfold fitC
  rw [if_neg (by rw [List.length_take]; omega)]
set_option maxRecDepth 100000 in
set_option maxHeartbeats 2000000 in
theorem fget_long (a : Addr) (n c : Nat) (b : List UInt8) (w : World) (hb : b.length = n) (hc : n ≤ c) (hc63 : c ≤ 9223372036854775807) (hn : 9 ≤ n) (hr : Rd w w.heap.size (some a) b) :
    Calls Try.prog 30 #[.slice (some a) n c] w (SGetPost w (getS b)) := by
  have T := Lib.hid (Two.new w (.int .u8 0) (.slice none 0 0) 68)
  have HB1 := Lib.hid (show Below w.heap.size w (w.alloc (.cells #[.int .u8 0, .slice none 0 0] 68)) from (Below.refl _ _).alloc (Nat.le_refl _) _)
  have HB := Lib.hid hb
  have HR := Lib.hid hr
  have HF := Lib.hid (fitB_nine (b := b) (by omega))
  obtain ⟨z, hz⟩ : ∃ z, z = fitC (b.take 9) := ⟨_, rfl⟩
  obtain ⟨h, hh⟩ : ∃ h, h = fitL (b.take 9) := ⟨_, rfl⟩
  have HZ := Lib.hid hz
  have HH := Lib.hid hh
  clear hb hr hz hh
  go_enter Try.func30, Try.ntmps30
  go_wp2_with fail
  generalize w.alloc (.cells #[.int .u8 0, .slice none 0 0] 68) = w1 at *
  refine (front_full (some a) n c 5 b w1 HB.out hc (by omega) (by omega) ((HR.out.below HB1.out).more HB1.out.size)).mono ?_
  rw [← HZ.out, ← HH.out]
  rintro e w2 ⟨hb2, X, m, d, rfl, hl2, -, hr2, -⟩
  have HB2 := Lib.hid (HB1.out.trans (hb2.mono HB1.out.size))
  have T2 := Lib.hid (T.out.past hb2)
  have HL2 := Lib.hid hl2
  have HR2 := Lib.hid hr2
  clear hb2 hl2 hr2
  cases hfit : fitB (b.take 9) with
  | false =>
    have hz5 : z = 5 := by rw [HZ.out, HF.out, hfit]; rfl
    subst hz5
    have HG := Lib.hid (getS_head (b := b) (by rw [HB.out]; omega) hfit)
    obtain ⟨r0, r1, r2, r3⟩ := T2.out
    have HX := Lib.hid ((T2.out.set (.int .u8 0) (.slice none 0 0)))
    obtain ⟨s0, s1, -, -⟩ := HX.out
    have HE := Lib.hid ((HB2.out.setCell (p := ⟨w.heap.size, 0, none⟩) (Nat.le_refl _) (.int .u8 0)).setCell (p := ⟨w.heap.size, 1, none⟩) (Nat.le_refl _) (.slice none 0 0))
    clear hfit
    go_wp2
    exact bodyPost_ret (v := .tuple #[.agg #[.int .u8 0, .slice none 0 0], .int .i64 0, .int .i64 5]) (by simp [results, Try.results30, go_sem, s0, s1]) rfl (sget_none HG.out HE.out)
  | true =>
    have hz0 : z = 0 := by rw [HZ.out, HF.out, hfit]; rfl
    subst hz0
    have hh5 : h = b.take 5 := by
      rw [HH.out]; unfold fitL
      rw [if_pos hfit, List.length_take, List.take_take, HB.out]
      congr 1; omega
    have hm5 : m = 5 := by rw [← HL2.out, hh5, List.length_take, HB.out]; omega
    subst hm5
    obtain ⟨a', u0, hX, -, hu0, hcu0⟩ := HR2.out.at (k := 0) (by rw [HL2.out]; omega)
    subst hX
    obtain ⟨N, hN⟩ : ∃ N, N = lenOf h := ⟨_, rfl⟩
    have hN32 : N < 4294967296 := by rw [hN]; exact lenOf_lt _
    have hN5 : N = lenOf (b.take 5) := by rw [hN, hh5]
    have HN := Lib.hid hN
    have HN5 := Lib.hid hN5
    have HU0 := Lib.hid (show b.getD 0 0 = u0 by
      rw [hh5, List.getElem?_take, if_pos (by omega)] at hu0
      rw [List.getD_eq_getElem?_getD, hu0]; rfl)
    have hu8 := u0.toNat_lt
    have HFIT := Lib.hid hfit
    clear hN hN5 hu0 hfit hh5
    go_wp2_with fail
    refine (bodyBytes_any a' d h w2 HL2.out HR2.out).mono ?_
    rw [← HN.out]
    rintro e w3 ⟨rfl, hb3⟩
    have HB3 := Lib.hid (HB2.out.trans (hb3.mono HB2.out.size))
    have T3 := Lib.hid (T2.out.past hb3)
    have HC0 := Lib.hid ((hb3.cell (p := a'.add 0) (block_lt_of_cell hcu0)).trans hcu0)
    have hs3 := HB3.out.size
    clear hb3 hcu0 T2
    obtain ⟨r0, r1, r2, r3⟩ := T3.out
    have HX := Lib.hid ((T3.out.set (.int .u8 0) (.slice none 0 0)))
    have HE := Lib.hid ((HB3.out.setCell (p := ⟨w.heap.size, 0, none⟩) (Nat.le_refl _) (.int .u8 0)).setCell (p := ⟨w.heap.size, 1, none⟩) (Nat.le_refl _) (.slice none 0 0))
    by_cases hlong : 1048576 < N
    · have d2 : decide ((1048576 : Int) < (N : Int)) = true := by simp; omega
      have HG := Lib.hid (getS_long (b := b) (by rw [HB.out]; omega) HFIT.out HN5.out hlong)
      obtain ⟨s0, s1, -, -⟩ := HX.out
      go_wp2
      exact bodyPost_ret (v := .tuple #[.agg #[.int .u8 0, .slice none 0 0], .int .i64 0, .int .i64 4]) (by simp [results, Try.results30, go_sem, s0, s1]) rfl (sget_none HG.out HE.out)
    · have d2 : decide ((1048576 : Int) < (N : Int)) = false := by simp; omega
      have q1 : (9 : Int) ≤ (n : Int) := by omega
      have q2 : (n : Int) ≤ (c : Int) := by omega
      clear HX HE
      by_cases hcut : n < N + 13
      · have HG := Lib.hid (getS_cut (b := b) (by rw [HB.out]; omega) HFIT.out HN5.out hlong (by rw [HB.out]; exact hcut))
        by_cases hc9 : c = 9
        · have hn9 : n = 9 := by omega
          subst hc9 hn9
          go_wp2_with fail
          refine (front_short (some a) 0 0 N w3 (by omega) (by omega)).mono ?_
          rintro e w' ⟨rfl, rfl⟩
          have HX := Lib.hid ((T3.out.set (.int .u8 0) (.slice none 0 0)))
          have HE := Lib.hid ((HB3.out.setCell (p := ⟨w.heap.size, 0, none⟩) (Nat.le_refl _) (.int .u8 0)).setCell (p := ⟨w.heap.size, 1, none⟩) (Nat.le_refl _) (.slice none 0 0))
          obtain ⟨s0, s1, -, -⟩ := HX.out
          go_wp2
          exact bodyPost_ret (v := .tuple #[.agg #[.int .u8 0, .slice none 0 0], .int .i64 0, .int .i64 2]) (by simp [results, Try.results30, go_sem, s0, s1]) rfl (sget_none HG.out HE.out)
        · go_wp2_with fail
          refine (front_short (some ⟨a.block, a.off + 9, none⟩) (n - 9) (c - 9) N w3 (by omega) (by omega)).mono ?_
          rintro e w' ⟨rfl, rfl⟩
          have HX := Lib.hid ((T3.out.set (.int .u8 0) (.slice none 0 0)))
          have HE := Lib.hid ((HB3.out.setCell (p := ⟨w.heap.size, 0, none⟩) (Nat.le_refl _) (.int .u8 0)).setCell (p := ⟨w.heap.size, 1, none⟩) (Nat.le_refl _) (.slice none 0 0))
          obtain ⟨s0, s1, -, -⟩ := HX.out
          go_wp2
          exact bodyPost_ret (v := .tuple #[.agg #[.int .u8 0, .slice none 0 0], .int .i64 0, .int .i64 2]) (by simp [results, Try.results30, go_sem, s0, s1]) rfl (sget_none HG.out HE.out)
      · have hc9 : ¬ c = 9 := by omega
        have HD := Lib.hid (show Rd w3 w3.heap.size (some ⟨a.block, a.off + 9, none⟩) (b.drop 9) from by
          have := ((HR.out.below HB3.out).more hs3).drop (k := 9) (cap := c) (by rw [HB.out]; exact hc)
          rw [if_neg hc9] at this
          exact this)
        have HDL := Lib.hid (show (b.drop 9).length = n - 9 by rw [List.length_drop, HB.out])
        have HFB := Lib.hid (show fitC ((b.drop 9).take (N + 4)) = if fitB ((b.drop 9).take (N + 4)) then 0 else 5 by
          unfold fitC
          rw [if_neg (by rw [List.length_take, HDL.out]; omega)])
        obtain ⟨y, hy⟩ : ∃ y, y = fitC ((b.drop 9).take (N + 4)) := ⟨_, rfl⟩
        obtain ⟨bo, hbo⟩ : ∃ bo, bo = fitL ((b.drop 9).take (N + 4)) := ⟨_, rfl⟩
        have HY := Lib.hid hy
        have HBO := Lib.hid hbo
        clear hy hbo
        go_wp2_with fail
        refine (front_full (some ⟨a.block, a.off + 9, none⟩) (n - 9) (c - 9) N (b.drop 9) w3 HDL.out (by omega) (by omega) (by omega) HD.out).mono ?_
        rw [← HY.out, ← HBO.out]
        rintro e w4 ⟨hb4, Y, m, dd, rfl, hl4, hm4, hr4, hnw4⟩
        have HB4 := Lib.hid (HB3.out.trans (hb4.mono hs3))
        have T4 := Lib.hid (T3.out.past hb4)
        have HC4 := Lib.hid ((hb4.cell (p := a'.add 0) (block_lt_of_cell HC0.out)).trans HC0.out)
        have HL4 := Lib.hid hl4
        have HR4 := Lib.hid hr4
        have HNW4 := Lib.hid hnw4
        have hs4 := HB4.out.size
        clear hb4 hl4 hr4 hnw4 r0 r1 r2 r3
        obtain ⟨r0, r1, r2, r3⟩ := T4.out
        cases hfit2 : fitB ((b.drop 9).take (N + 4)) with
        | false =>
          have hy5 : y = 5 := by rw [HY.out, HFB.out, hfit2]; rfl
          subst hy5
          have HG := Lib.hid (getS_bad (b := b) (by rw [HB.out]; omega) HFIT.out HN5.out hlong (by rw [HB.out]; exact hcut) hfit2)
          have HX := Lib.hid ((T4.out.set (.int .u8 0) (.slice none 0 0)))
          have HE := Lib.hid ((HB4.out.setCell (p := ⟨w.heap.size, 0, none⟩) (Nat.le_refl _) (.int .u8 0)).setCell (p := ⟨w.heap.size, 1, none⟩) (Nat.le_refl _) (.slice none 0 0))
          obtain ⟨s0, s1, -, -⟩ := HX.out
          clear hfit2
          go_wp2
          exact bodyPost_ret (v := .tuple #[.agg #[.int .u8 0, .slice none 0 0], .int .i64 0, .int .i64 5]) (by simp [results, Try.results30, go_sem, s0, s1]) rfl (sget_none HG.out HE.out)
        | true =>
          have hy0 : y = 0 := by rw [HY.out, HFB.out, hfit2]; rfl
          subst hy0
          have hbo2 : bo = (b.drop 9).take N := by
            rw [HBO.out]; unfold fitL
            rw [if_pos hfit2, List.length_take, HDL.out, List.take_take]
            congr 1; omega
          have hmN : m = N := by rw [← HL4.out, hbo2, List.length_take, HDL.out]; omega
          subst hmN
          have HG := Lib.hid (show getS b = (⟨u0, bo⟩, m + 13, 0) by
            rw [getS_good (b := b) (by rw [HB.out]; omega) HFIT.out HN5.out hlong (by rw [HB.out]; exact hcut) hfit2, HU0.out, hbo2])
          have c0 : w4.cell? ⟨a'.block, a'.off, a'.spot⟩ = some (.int .u8 (u0.toNat : Int)) := HC4.out
          have HX := Lib.hid ((T4.out.set (.int .u8 (u0.toNat : Int)) (.slice Y m dd)))
          have HE := Lib.hid ((HB4.out.setCell (p := ⟨w.heap.size, 0, none⟩) (Nat.le_refl _) (.int .u8 (u0.toNat : Int))).setCell (p := ⟨w.heap.size, 1, none⟩) (Nat.le_refl _) (.slice Y m dd))
          obtain ⟨s0, s1, -, -⟩ := HX.out
          clear hfit2 hbo2
          go_wp2
          exact bodyPost_ret (v := .tuple #[.agg #[.int .u8 (u0.toNat : Int), .slice Y m dd], .int .i64 (9 + (m : Int) + 4), .int .i64 0]) (by simp [results, Try.results30, go_sem, s0, s1]) rfl (by
            rw [HG.out]
            exact ⟨HE.out, Y, m, dd, (by rw [show (9 : Int) + (m : Int) + 4 = ((m + 13 : Nat) : Int) by omega]), HL4.out, by omega, rd_store HR4.out HNW4.out T3.out.here _ _, fun h => by
              obtain ⟨g, e, hg⟩ := HNW4.out h
              exact ⟨g, e, by have := T3.out.here; omega⟩⟩)
theorem fget_any (A : Option Addr) (n c : Nat) (b : List UInt8) (w : World) (hb : b.length = n) (hc : n ≤ c) (hc63 : c ≤ 9223372036854775807) (hr : Rd w w.heap.size A b) :
    Calls Try.prog 30 #[.slice A n c] w (SGetPost w (getS b)) := by
  by_cases h : n < 9
  · exact fget_short A n c b w hb h
  · obtain ⟨a, rfl, -⟩ := hr (by omega)
    exact fget_long a n c b w hb hc hc63 (by omega) hr
end Go.Proofs.Ytgnghalcihoaaaa

/-! The manifest with whose bytes bytes begin, the program's. -/
namespace Go.Proofs.Ytgnghalcihoaaaa
open Go.RowKit Me Mf Va Fr

/-- What getting a manifest answers. -/
def GMPost (w : World) (b : List UInt8) (okv errv : Value) (e : Ending) (w' : World) : Prop :=
  Below w.heap.size w w' ∧ ((∃ m A n c, GetsM b m ∧ e = .returned (.tuple #[mval m.version m.next A n c, okv]) ∧ ManAt w' w'.heap.size A n c m ∧ n ≤ 2097153) ∨ ((∀ m, ¬ GetsM b m) ∧ e = .returned (.tuple #[.agg #[.int .u64 0, .int .u32 0, .slice none 0 0], errv])))
theorem countOf_enc : ∀ l : List FileD, countOf l ≤ (encFs l).length
  | [] => Nat.le_refl _
  | f :: l => by
    have h1 := countOf_enc l
    have h2 := (encF_length f).2.2
    unfold countOf allBlocks at *
    simp only [List.flatMap_cons, List.length_append, encFs]
    omega
theorem small_of_body {m : ManD} (h : (body m).length ≤ 1048576) : Small m := by
  have h1 := body_length m
  have h2 := encFs_length m.files
  have h3 := countOf_enc m.files
  exact ⟨by omega, by omega, by omega⟩
theorem not_gets {b : List UInt8} {s : SecD} {k : Nat} {x : Int} (hs : getS b = (s, k, x)) (h : x ≠ 0 ∨ s.kind ≠ 77) : ∀ m, ¬ GetsM b m := fun m ⟨⟨k', e⟩, _, _⟩ => by
  rw [hs] at e
  injection e with e1 e2
  injection e2 with _ e2
  rcases h with h | h
  · exact h e2
  · exact h (by rw [e1])
theorem end_zero {l : List UInt8} {x : Int} (h : endOf l x = 0) : x = 0 ∧ l = [] := by
  unfold endOf at h
  split at h
  · cases h
  · rename_i hn
    refine ⟨h, ?_⟩
    cases l with
    | nil => rfl
    | cons a t => exact absurd ⟨h, by simp⟩ hn
set_option maxRecDepth 100000 in
set_option maxHeartbeats 2000000 in
theorem mget_any (A : Option Addr) (n c : Nat) (b : List UInt8) (w : World) (hb : b.length = n) (hc : n ≤ c) (hc63 : c ≤ 9223372036854775807) (hr : Rd w w.heap.size A b) :
    Calls Try.prog 9 #[.slice A n c] w (GMPost w b (.int .i64 0) (.int .i64 5)) := by
  obtain ⟨s, k, x, hs⟩ : ∃ s k x, getS b = (s, k, x) := ⟨_, _, _, rfl⟩
  have HS := Lib.hid hs
  have HBB := Lib.hid hb
  obtain ⟨H, hH⟩ : ∃ H, H = w.heap.size := ⟨_, rfl⟩
  obtain ⟨wz, hwz⟩ : ∃ wz, wz = w.alloc (.cells #[.int .u64 0, .int .u32 0, .slice none 0 0] 28) := ⟨_, rfl⟩
  have HWZ := Lib.hid hwz
  have HB0 := Lib.hid (show Below w.heap.size w wz by rw [hwz]; exact (Below.refl _ _).alloc (Nat.le_refl _) _)
  have HR0 := Lib.hid ((hr.below HB0.out).more HB0.out.size)
  have RS0 := Lib.hid (show Blk wz H [.int .u64 0, .int .u32 0, .slice none 0 0] by rw [hwz, hH]; exact Blk.new w [.int .u64 0, .int .u32 0, .slice none 0 0] _)
  have HHW := Lib.hid hH
  have hwH : w.heap.size ≤ H := by omega
  clear hs hb hwz hH hr
  go_enter Try.func9, Try.ntmps9
  go_wp2_with fail
  rw [← HWZ.out, ← HHW.out]
  clear HWZ
  refine (fget_any A n c b wz HBB.out hc hc63 HR0.out).mono ?_
  rw [HS.out]
  obtain ⟨q, hq⟩ : ∃ q, q = s.kind.toNat := ⟨_, rfl⟩
  have HQ := Lib.hid hq
  rintro e w1 ⟨hb1, A1, n1, c1, he, hl1, hn1, hr1, -⟩
  replace he : e = .returned (.tuple #[.agg #[.int .u8 (q : Int), .slice A1 n1 c1], .int .i64 (k : Int), .int .i64 x]) := by rw [hq]; exact he
  subst he
  clear hq
  have HB1 := Lib.hid (HB0.out.trans (hb1.mono HB0.out.size))
  have RS1 := Lib.hid (RS0.out.past hb1)
  have HL1 := Lib.hid (show s.body.length = n1 from hl1)
  have HR1 := Lib.hid (show Rd w1 w1.heap.size A1 s.body from hr1)
  replace RS1 := RS1
  clear hb1 hl1 hr1 HR0 HB0 RS0
  have HX := Lib.hid (show (x = 0 ∧ q = 77) ∨ (x ≠ 0 ∨ q ≠ 77) by omega)
  rcases HX.out with ⟨hx, hq⟩ | hbad
  · clear HX
    subst hx hq
    have HG := Lib.hid (show getS b = (⟨77, s.body⟩, k, 0) by rw [HS.out]; congr 1; have h1 := HQ.out; have : s.kind = 77 := by apply UInt8.toNat.inj; rw [← h1]; rfl
                                                              rw [← this])
    obtain ⟨w2, hw2⟩ : ∃ w2, w2 = w1.alloc (.cells #[.int .u8 77, .slice A1 n1 c1] 68) := ⟨_, rfl⟩
    have HW2 := Lib.hid hw2
    have hb2 : Below w1.heap.size w1 w2 := by rw [hw2]; exact (Below.refl _ _).alloc (Nat.le_refl _) _
    have HB2 := Lib.hid (HB1.out.trans (hb2.mono HB1.out.size))
    have HR2 := Lib.hid ((HR1.out.below hb2).more hb2.size)
    have RS2 := Lib.hid (RS1.out.past hb2)
    clear hb2 hw2
    go_wp2_with fail
    rw [← HW2.out]
    clear HW2
    refine (new_any A1 n1 c1 s.body w2 HL1.out (by omega) HR2.out).mono ?_
    rintro e w3 ⟨g, rfl, hg2, hg3, hrd, hb3⟩
    have HRD := Lib.hid hrd
    have HB3 := Lib.hid (HB2.out.trans (hb3.mono HB2.out.size))
    have RS3 := Lib.hid (RS2.out.past hb3)
    have hgw : w.heap.size ≤ g := Nat.le_trans HB2.out.size hg2
    have hHg : H < g := Nat.lt_of_lt_of_le (Blk.lt RS2.out) hg2
    clear hrd hb3 RS2 HR2 HR1 RS1
    go_wp2_with fail
    refine (next_any g s.body w3 HRD.out (by rw [HL1.out]; omega)).mono ?_
    rintro e w4 ⟨m, A2, n2, c2, l', x', rfl, hM, hn2, hrd, hgr, hp, hkey⟩
    have HKEY := Lib.hid hkey
    have HM4 := Lib.hid hM
    have HRD4 := Lib.hid hrd
    have HB4 := Lib.hid (show Below w.heap.size w w4 from HB3.out.trans ⟨hgr.os, hgr.tape, hgr.output, hgr.size, fun k hk => hgr.block k (by have := HB3.out.size; omega) (by intro e; injection e with e; omega)⟩)
    have RS4 := Lib.hid (Blk.grown RS3.out hgr (by intro e; injection e with e; omega))
    have HP := Lib.hid hp
    have HML := Lib.hid hM.wf
    have HI := Lib.hid (gets_iff HG.out (mn := 18446744073709551615) (ms := 9223372036854775807) (mb := 65535) (by omega) (by omega) (by omega))
    have hH3 := Blk.lt RS3.out
    clear hM hrd hgr hp hkey HRD HB3 RS3
    obtain ⟨w5, hw5⟩ : ∃ w5, w5 = w4.alloc (.cells #[.int .u64 (m.version : Int), .int .u32 (m.next : Int), .slice A2 n2 c2] 28) := ⟨_, rfl⟩
    have HW5 := Lib.hid hw5
    have hb5 : Below w4.heap.size w4 w5 := by rw [hw5]; exact (Below.refl _ _).alloc (Nat.le_refl _) _
    have HG5 := Lib.hid hb5
    have HB5 := Lib.hid (HB4.out.trans (hb5.mono HB4.out.size))
    have HM5 := Lib.hid (HM4.out.past hb5)
    have HRD5 := Lib.hid (HRD4.out.past hb5)
    have RS5 := Lib.hid (Blk.past RS4.out hb5)
    have MB5 := Lib.hid (show Blk w5 w4.heap.size [.int .u64 (m.version : Int), .int .u32 (m.next : Int), .slice A2 n2 c2] by rw [hw5]; exact Blk.new w4 [.int .u64 (m.version : Int), .int .u32 (m.next : Int), .slice A2 n2 c2] _)
    obtain ⟨I, hI⟩ : ∃ I, I = w4.heap.size := ⟨_, rfl⟩
    have HI4 := Lib.hid hI
    rw [← hI] at MB5
    clear hw5 hb5 hI HM4 HRD4 RS4 HB4
    go_wp2_with fail
    rw [← HW5.out]
    refine (end_any g l' x' w5 HRD5.out).mono ?_
    rintro e w6 ⟨rfl, rfl⟩
    obtain ⟨z, hz⟩ : ∃ z, z = endOf l' x' := ⟨_, rfl⟩
    rw [← hz]
    have HZ := Lib.hid hz
    clear HW5 hz
    by_cases hz0 : z = 0
    · subst hz0
      obtain ⟨e1, e2⟩ := end_zero HZ.out.symm
      have HP0 := Lib.hid (show parseM 18446744073709551615 9223372036854775807 65535 s.body = some (m, []) by
        rcases HP.out with ⟨-, h⟩ | ⟨h, -⟩
        · rw [h, e2]
        · exact absurd e1 h)
      have HSM := Lib.hid (small_of_body (m := m) (by have h := (parseM_stood HP0.out).1; rw [List.append_nil] at h; rw [← h, HL1.out]; exact hn1))
      clear e1 e2
      have i0 := MB5.cell (i := 0) rfl
      have i1 := MB5.cell (i := 1) rfl
      have i2 := MB5.cell (i := 2) rfl
      rw [← HI4.out]
      go_wp2_with fail
      refine (mmay_any A2 n2 c2 m w5 HSM.out HM5.out).mono ?_
      rintro e w6 ⟨ok, rfl, hok, hb6⟩
      have HOK := Lib.hid hok
      have HG6 := Lib.hid (HG5.out.trans (hb6.mono HG5.out.size))
      have HB6 := Lib.hid (HB5.out.trans (hb6.mono HB5.out.size))
      have RS6 := Lib.hid (Blk.past RS5.out hb6)
      have HM6 := Lib.hid (HM5.out.past hb6)
      have MB6 := Blk.past MB5 hb6
      have i0 := MB6.cell (i := 0) rfl
      have i1 := MB6.cell (i := 1) rfl
      have i2 := MB6.cell (i := 2) rfl
      have h56 := hb6.size
      clear hok hb6
      cases ok with
      | true =>
        have HGM := Lib.hid ((HI.out m).2 ⟨HP0.out, HOK.out.1 rfl⟩)
        clear HOK
        go_wp2_with (first
          | (refine wpList_store_blk rfl 28 _ _ rfl H _ #[.int .u64 (m.version : Int), .int .u32 (m.next : Int), .slice A2 n2 c2] rfl rfl (RS6.out) rfl man_size (man_one _ _ _ _ _) ?_
             intro w7 hb7 ho7
             have HB7 := Lib.hid (show Blk w7 H [.int .u64 (m.version : Int), .int .u32 (m.next : Int), .slice A2 n2 c2] from hb7)
             have HO7 := Lib.hid ho7
             clear hb7 ho7)
          | fail)
        have r0 := HB7.out.cell (i := 0) rfl
        have r1 := HB7.out.cell (i := 1) rfl
        have r2 := HB7.out.cell (i := 2) rfl
        refine bodyPost_ret (v := .tuple #[mval m.version m.next A2 n2 c2, .int .i64 0]) (by simp [results, Try.results9, go_sem, r0, r1, r2, mval]) rfl ?_
        exact ⟨HB6.out.trans (HO7.out.below (B := w.heap.size) (fun k _ hk => by omega) HB6.out.size), .inl ⟨m, A2, n2, c2, HGM.out, rfl, HKEY.out _ (some H) (fun k e => by injection e with e; omega) ⟨HO7.out.os.trans HG6.out.os, HO7.out.tape.trans HG6.out.tape, HO7.out.output.trans HG6.out.output, Nat.le_trans HG6.out.size HO7.out.size, fun k hk hne => (HO7.out.block k (Nat.lt_of_lt_of_le hk HG6.out.size) (fun e => hne (by rw [e]))).trans (HG6.out.block k hk)⟩, hn2⟩⟩
      | false =>
        have HN := Lib.hid (show ∀ m, ¬ GetsM b m from fun m0 h => by
          have h1 := (HI.out m0).1 h
          rw [HP0.out] at h1
          obtain ⟨h1, h2⟩ := h1
          injection h1 with h1
          injection h1 with h1 _
          subst h1
          exact absurd (HOK.out.2 h2) (by decide))
        clear HOK
        go_wp2_with (first
          | (refine wpList_store_blk rfl 28 _ _ rfl H _ #[.int .u64 0, .int .u32 0, .slice none 0 0] rfl rfl (RS6.out) rfl man_size (man_one _ _ _ _ _) ?_
             intro w7 hb7 ho7
             have HB7 := Lib.hid (show Blk w7 H [.int .u64 0, .int .u32 0, .slice none 0 0] from hb7)
             have HO7 := Lib.hid ho7
             clear hb7 ho7)
          | fail)
        have r0 := HB7.out.cell (i := 0) rfl
        have r1 := HB7.out.cell (i := 1) rfl
        have r2 := HB7.out.cell (i := 2) rfl
        have HBW := Lib.hid (HB6.out)
        refine bodyPost_ret (v := .tuple #[.agg #[.int .u64 0, .int .u32 0, .slice none 0 0], .int .i64 5]) (by simp [results, Try.results9, go_sem, r0, r1, r2]) rfl ?_
        exact ⟨HBW.out.trans (HO7.out.below (B := w.heap.size) (fun k _ hk => by omega) HBW.out.size), .inr ⟨HN.out, rfl⟩⟩
    · have HN := Lib.hid (show ∀ m, ¬ GetsM b m from fun m0 h => by
        have h1 := ((HI.out m0).1 h).1
        rcases HP.out with ⟨e, h2⟩ | ⟨-, h2⟩
        · rw [h2] at h1
          injection h1 with h1
          injection h1 with _ h1
          refine hz0 (HZ.out.trans ?_)
          rw [e, h1]
          rfl
        · rw [h2] at h1; cases h1)
      clear HZ
      go_wp2_with (first
        | (refine wpList_store_blk rfl 28 _ _ rfl H _ #[.int .u64 0, .int .u32 0, .slice none 0 0] rfl rfl (RS5.out) rfl man_size (man_one _ _ _ _ _) ?_
           intro w7 hb7 ho7
           have HB7 := Lib.hid (show Blk w7 H [.int .u64 0, .int .u32 0, .slice none 0 0] from hb7)
           have HO7 := Lib.hid ho7
           clear hb7 ho7)
        | fail)
      have r0 := HB7.out.cell (i := 0) rfl
      have r1 := HB7.out.cell (i := 1) rfl
      have r2 := HB7.out.cell (i := 2) rfl
      have HBW := Lib.hid (HB5.out)
      refine bodyPost_ret (v := .tuple #[.agg #[.int .u64 0, .int .u32 0, .slice none 0 0], .int .i64 5]) (by simp [results, Try.results9, go_sem, r0, r1, r2]) rfl ?_
      exact ⟨HBW.out.trans (HO7.out.below (B := w.heap.size) (fun k _ hk => by omega) HBW.out.size), .inr ⟨HN.out, rfl⟩⟩
  · have HN := Lib.hid (not_gets HS.out (hbad.imp id (fun h => fun e => h (by rw [HQ.out, e]; rfl))))
    rcases hbad with hx | hq
    · clear HX
      go_wp2_with (first
        | (refine wpList_store_blk rfl 28 _ _ rfl H _ #[.int .u64 0, .int .u32 0, .slice none 0 0] rfl rfl (RS1.out.alloc _) rfl man_size (man_one _ _ _ _ _) ?_
           intro w7 hb7 ho7
           have HB7 := Lib.hid (show Blk w7 H [.int .u64 0, .int .u32 0, .slice none 0 0] from hb7)
           have HO7 := Lib.hid ho7
           clear hb7 ho7)
        | fail)
      have r0 := HB7.out.cell (i := 0) rfl
      have r1 := HB7.out.cell (i := 1) rfl
      have r2 := HB7.out.cell (i := 2) rfl
      have HBW := Lib.hid (HB1.out.alloc HB1.out.size (.cells #[.int .u8 (q : Int), .slice A1 n1 c1] 68))
      refine bodyPost_ret (v := .tuple #[.agg #[.int .u64 0, .int .u32 0, .slice none 0 0], .int .i64 5]) (by simp [results, Try.results9, go_sem, r0, r1, r2]) rfl ?_
      exact ⟨HBW.out.trans (HO7.out.below (B := w.heap.size) (fun k _ hk => by omega) HBW.out.size), .inr ⟨HN.out, rfl⟩⟩
    · clear HX
      by_cases hx : x = 0
      · subst hx
        go_wp2_with (first
          | (refine wpList_store_blk rfl 28 _ _ rfl H _ #[.int .u64 0, .int .u32 0, .slice none 0 0] rfl rfl (RS1.out.alloc _) rfl man_size (man_one _ _ _ _ _) ?_
             intro w7 hb7 ho7
             have HB7 := Lib.hid (show Blk w7 H [.int .u64 0, .int .u32 0, .slice none 0 0] from hb7)
             have HO7 := Lib.hid ho7
             clear hb7 ho7)
          | fail)
        have r0 := HB7.out.cell (i := 0) rfl
        have r1 := HB7.out.cell (i := 1) rfl
        have r2 := HB7.out.cell (i := 2) rfl
        have HBW := Lib.hid (HB1.out.alloc HB1.out.size (.cells #[.int .u8 (q : Int), .slice A1 n1 c1] 68))
        refine bodyPost_ret (v := .tuple #[.agg #[.int .u64 0, .int .u32 0, .slice none 0 0], .int .i64 5]) (by simp [results, Try.results9, go_sem, r0, r1, r2]) rfl ?_
        exact ⟨HBW.out.trans (HO7.out.below (B := w.heap.size) (fun k _ hk => by omega) HBW.out.size), .inr ⟨HN.out, rfl⟩⟩
      · clear hq
        go_wp2_with (first
          | (refine wpList_store_blk rfl 28 _ _ rfl H _ #[.int .u64 0, .int .u32 0, .slice none 0 0] rfl rfl (RS1.out.alloc _) rfl man_size (man_one _ _ _ _ _) ?_
             intro w7 hb7 ho7
             have HB7 := Lib.hid (show Blk w7 H [.int .u64 0, .int .u32 0, .slice none 0 0] from hb7)
             have HO7 := Lib.hid ho7
             clear hb7 ho7)
          | fail)
        have r0 := HB7.out.cell (i := 0) rfl
        have r1 := HB7.out.cell (i := 1) rfl
        have r2 := HB7.out.cell (i := 2) rfl
        have HBW := Lib.hid (HB1.out.alloc HB1.out.size (.cells #[.int .u8 (q : Int), .slice A1 n1 c1] 68))
        refine bodyPost_ret (v := .tuple #[.agg #[.int .u64 0, .int .u32 0, .slice none 0 0], .int .i64 5]) (by simp [results, Try.results9, go_sem, r0, r1, r2]) rfl ?_
        exact ⟨HBW.out.trans (HO7.out.below (B := w.heap.size) (fun k _ hk => by omega) HBW.out.size), .inr ⟨HN.out, rfl⟩⟩
end Go.Proofs.Ytgnghalcihoaaaa
