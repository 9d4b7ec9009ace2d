/- A section's bytes, the document's. -/
import Derived.Test.YtinalnjekbfifaaFPut
import Derived.Test.YtinalnjekbfifaaTail
namespace Go.Proofs.Ytinalnjekbfifaa
open Go.RowKit Cr Me Fr

/-- What is known of each slot of the head's region. -/
def rfG1 (B H : Nat) (M : Option Addr) (m d : Nat) (s : SecD) (r : Reg) : Gw.Fact := fun t v w =>
  match t with
  | 1 | 4 => v = .pointer (some ⟨H, 0, none⟩)
  | 5 => v = .int .u8 (s.kind.toNat : Int)
  | 6 => w.ownsRow B 5 1 v 1 (cellsOf [s.kind])
  | 7 => v = .pointer (some ⟨H, 1, none⟩)
  | 8 => v = .slice M m d
  | 9 => v = .int .i64 (m : Int)
  | 10 => v = .int .u32 (r.toNat : Int)
  | 11 => ∃ X, v = .slice X 4 4 ∧ Rd w w.heap.size X (four r)
  | _ => True
/-- .. of the last region. -/
def rfG2 (B H : Nat) (X M : Option Addr) (cx m d : Nat) (s : SecD) : Gw.Fact := fun t v w =>
  match t with
  | 1 => v = .pointer (some ⟨H, 0, none⟩)
  | 3 | 13 => v = .slice X 5 cx
  | 14 => w.ownsRow B 5 1 v 9 (cellsOf (Cr.mark (head s.kind m)))
  | 15 => v = .pointer (some ⟨H, 1, none⟩)
  | 16 => v = .slice M m d
  | 17 => ∃ Y cy, v = .slice Y (m + 4) cy ∧ Rd w w.heap.size Y (Cr.mark s.body)
  | _ => True
set_option maxRecDepth 100000 in
set_option maxHeartbeats 1000000 in
theorem ref_fput_any (M : Option Addr) (m d : Nat) (s : SecD) (w : World) (hs : s.body.length = m) (hm : m ≤ 1048576) (hrs : Rd w w.heap.size M s.body) :
    Calls Try.prog 10 #[.agg #[.int .u8 (s.kind.toNat : Int), .slice M m d]] w (News w (encS s)) := by
  obtain ⟨i0, hi0, hz0, hz1, hz2⟩ := info_parts u8_info
  have hk := s.kind.toNat_lt
  have HS := Lib.hid hs
  have HRS := Lib.hid hrs
  obtain ⟨r, hr⟩ : ∃ r : Reg, r = BitVec.ofNat 32 m := ⟨_, rfl⟩
  have hmr : (r.toNat : Int) = (m : Int) := by rw [hr, BitVec.toNat_ofNat]; omega
  have HRr := Lib.hid hr
  have HMR := Lib.hid hmr
  clear hs hrs hr hmr
  go_enter Try.func10, Try.ntmps10
  go_wp2_with fail
  have T := Lib.hid (Two.new w (.int .u8 (s.kind.toNat : Int)) (.slice M m d) 30)
  have HB0 := Lib.hid (show Below w.heap.size w (w.alloc (.cells #[.int .u8 (s.kind.toNat : Int), .slice M m d] 30)) from (Below.refl _ _).alloc (Nat.le_refl _) _)
  have hs1 : (w.alloc (.cells #[.int .u8 (s.kind.toNat : Int), .slice M m d] 30)).heap.size = w.heap.size + 1 := by simp
  generalize hw1 : w.alloc (.cells #[.int .u8 (s.kind.toNat : Int), .slice M m d] 30) = w1 at *
  refine Gw.wp_region_tail 8 (rfG1 w1.heap.size w.heap.size M m d s r) [4, 5, 6, 7, 8, 9, 10, 11] [([1], none), ([4], none), ([5], none), ([1], none), ([7], none), ([8], none), ([9], none), ([10], none)] 19 (by kernel_rfl) (by kernel_rfl) rfl ?h0 ?hreq rfl ?hend
  case h0 =>
    intro t W hnd _
    unfold rfG1
    split <;> first | rfl | trivial | exact absurd (by simp) hnd
  case hreq =>
    refine ⟨?_, ?_, ?_, ?_, ?_, ?_, ?_, ?_, trivial⟩
    all_goals
      intro a W hg hk
      have hg' : Below w1.heap.size w1 W := hg
      obtain ⟨k1, k2, -, -⟩ := T.out.past hg'
      have hsz : w1.heap.size ≤ W.heap.size := hg'.size
      simp only [Gw.Knows, rfG1] at hk
      try (simp [go_sem, Gw.OpReq, Gw.Ok, Gw.Post, Gw.Holds, rfG1, Gw.Grows.refl, hk, k1, k2]; done)
    · simp [go_sem, Gw.OpReq, Gw.Ok, Gw.Post, Gw.Holds, rfG1, hk]
      have ho := World.ownsRow_lit (base := w1.heap.size) (e := 5) (size := 1) W #[.int .u8 (s.kind.toNat : Int)] 1 hsz (by unfold maxLen; omega) rfl
      exact ⟨(Below.refl _ _).alloc (Nat.le_refl _) _, fun W2 hW2 => own_below ho hW2⟩
    · simp [go_sem, Gw.OpReq, Gw.Ok, Gw.Post, Gw.Holds, rfG1, Gw.Grows.refl, hk]
      rw [IntKind.wrap_u32, HMR.out]
      omega
    · simp [go_sem, Gw.OpReq, Gw.Ok, Gw.Post, Gw.Holds, rfG1, Gw.Grows.refl, hk]
      refine (ref_four_any r W).mono ?_
      rintro e w5 ⟨rfl, hr5, hb5⟩
      exact ⟨_, rfl, hb5, fun W2 hW2 => ⟨_, rfl, (hr5.below hW2).more (Below.size hW2)⟩⟩
  case hend =>
    intro x w2 hg hx
    have h6 : w2.ownsRow w1.heap.size 5 1 (x 6) 1 (cellsOf [s.kind]) := (hx 6 (by simp)).now
    obtain ⟨X, h11, hr11⟩ : ∃ X, x 11 = .slice X 4 4 ∧ Rd w2 w2.heap.size X (four r) := (hx 11 (by simp)).now
    have HB2 := Lib.hid (show Below w1.heap.size w1 w2 from hg)
    have T2 := Lib.hid (T.out.past HB2.out)
    simp only [Gw.putAll, Act.put, List.setIfInBounds_toArray, List.set_cons_zero, List.set_cons_succ]
    rw [h11]
    refine Gw.wp_app (.tmp 6) (.tmp 11) 25 rfl w1.heap.size 5 i0 _ Try.underlying25 hi0 hz0 hz1 hz2 rfl (x 6) 1 [s.kind] rfl h6 w2.heap.size X 4 4 (four r) rfl rfl hr11 (by omega) HB2.out.size ?_
    intro v3 w3 hown3 hg3
    refine Gw.wp_assign (.tmp 12) v3 rfl rfl ?_
    have HB3 := Lib.hid (HB0.out.trans ((below_app HB2.out h6 (Nat.le_refl _) HB2.out.size hg3).mono HB0.out.size))
    have T3 := Lib.hid (T2.out.grown hg3 (fun e => by have := (h6.lt _ e).1; omega))
    have hh : cellsOf ([s.kind] ++ four r) = cellsOf (head s.kind m) := by unfold head; rw [HRr.out]; rfl
    rw [hh] at hown3
    obtain ⟨X3, c3, rfl⟩ := own_slice hown3
    have HR3 := Lib.hid (Rd.of_own hown3)
    have hs3 : w.heap.size < w3.heap.size := by have := T3.out.here; exact this
    clear hown3 hg3 h6 hr11 h11 hx hg hh
    simp only [Gw.seqTail, Act.put, List.setIfInBounds_toArray, List.set_cons_zero, List.set_cons_succ]
    go_wp2_with fail
    refine Gw.wp_region_tail 5 (rfG2 w3.heap.size w.heap.size X3 M c3 m d s) [13, 14, 15, 16, 17] [([3], none), ([13], none), ([1], none), ([15], none), ([16], none)] 19 (by kernel_rfl) (by kernel_rfl) rfl ?h1 ?hreq1 rfl ?hend1
    case h1 =>
      intro t W hnd _
      unfold rfG2
      split <;> first | rfl | trivial | exact absurd (by simp) hnd
    case hreq1 =>
      refine ⟨?_, ?_, ?_, ?_, ?_, trivial⟩
      all_goals
        intro a W hg hk
        have hg' : Below w3.heap.size w3 W := hg
        obtain ⟨-, k2, -, -⟩ := T3.out.past hg'
        simp only [Gw.Knows, rfG2] at hk
        try (simp [go_sem, Gw.OpReq, Gw.Ok, Gw.Post, Gw.Holds, rfG2, Gw.Grows.refl, hk, k2]; done)
      · simp [go_sem, Gw.OpReq, Gw.Ok, Gw.Post, Gw.Holds, rfG2, Gw.Grows.refl, hk]
        refine (ref_mark_any X3 5 c3 _ W (head_length _ _) (by omega) ((HR3.out.below hg').more hg'.size)).mono ?_
        rintro e w5 ⟨v, rfl, ho, hb5⟩
        exact ⟨_, rfl, hb5, fun W2 hW2 => own_below (own_more ho hg'.size) hW2⟩
      · simp [go_sem, Gw.OpReq, Gw.Ok, Gw.Post, Gw.Holds, rfG2, Gw.Grows.refl, hk]
        have hb := HB3.out.trans (hg'.mono HB3.out.size)
        refine (ref_mark_news M m d s.body W HS.out (by omega) ((HRS.out.below hb).more hb.size)).mono ?_
        intro e w5 h5
        obtain ⟨Y, n5, c5, rfl, hl, -, -, hr5, hb5⟩ := h5.open
        have e5 : n5 = m + 4 := by rw [← hl, mark_length, HS.out]
        subst e5
        exact ⟨_, rfl, hb5, fun W2 hW2 => ⟨Y, ⟨c5, rfl⟩, (hr5.below hW2).more (Below.size hW2)⟩⟩
    case hend1 =>
      intro y w4 hg hy
      have h14 : w4.ownsRow w3.heap.size 5 1 (y 14) 9 (cellsOf (Cr.mark (head s.kind m))) := (hy 14 (by simp)).now
      obtain ⟨Y, cy, h17, hr17⟩ : ∃ Y cy, y 17 = .slice Y (m + 4) cy ∧ Rd w4 w4.heap.size Y (Cr.mark s.body) := (hy 17 (by simp)).now
      have HB4 := Lib.hid (show Below w3.heap.size w3 w4 from hg)
      simp only [Gw.putAll, Act.put, List.setIfInBounds_toArray, List.set_cons_zero, List.set_cons_succ]
      rw [h17]
      refine Gw.wp_app (.tmp 14) (.tmp 17) 25 rfl w3.heap.size 5 i0 _ Try.underlying25 hi0 hz0 hz1 hz2 rfl (y 14) 9 _ rfl h14 w4.heap.size Y (m + 4) cy _ rfl (by rw [mark_length, HS.out]) hr17 (by omega) HB4.out.size ?_
      intro v5 w5 hown5 hg5
      refine Gw.wp_assign (.tmp 18) v5 rfl rfl ?_
      have HB5 := Lib.hid (HB3.out.trans ((below_app HB4.out h14 (Nat.le_refl _) HB4.out.size hg5).mono HB3.out.size))
      have HO5 := Lib.hid (own_more hown5 HB3.out.size)
      clear hown5 hg5 h14 hr17 h17 hy hg
      simp only [Gw.seqTail, Act.put, List.setIfInBounds_toArray, List.set_cons_zero, List.set_cons_succ]
      go_wp2
      go_ret
      refine ⟨v5, 9 + (m + 4), rfl, ?_, HB5.out⟩
      have := HO5.out
      unfold encS
      rw [HS.out]
      exact this
end Go.Proofs.Ytinalnjekbfifaa
