/- A section's bytes put behind others, the program's. -/
import Derived.Test.YtgnghalcihoaaaaHead
import Derived.Test.YtgnghalcihoaaaaGrow
namespace Go.Proofs.Ytgnghalcihoaaaa
open Go.RowKit Cr Me Fr

/-- What is known of each slot of Put's last region. -/
def fputG (B H : Nat) (A M : Option Addr) (n c m d : Nat) (b : List UInt8) (s : SecD) : Gw.Fact := fun t v w =>
  match t with
  | 0 | 12 => v = .slice A n c
  | 3 => v = .pointer (some ⟨H, 0, none⟩)
  | 13 => v = .agg #[.int .u8 (s.kind.toNat : Int), .slice M m d]
  | 14 => ∃ X cx, v = .slice X 5 cx ∧ Rd w w.heap.size X (head s.kind m)
  | 15 => ∃ X cx, v = .slice X 9 cx ∧ Rd w w.heap.size X (Cr.mark (head s.kind m))
  | 16 => v = .pointer (some ⟨H, 1, none⟩)
  | 17 => v = .slice M m d
  | 18 => ∃ X cx, v = .slice X (m + 4) cx ∧ Rd w w.heap.size X (Cr.mark s.body)
  | 19 => ∃ X, v = .slice X 3 3 ∧ Parts w w.heap.size X [b, Cr.mark (head s.kind m), Cr.mark s.body]
  | 4 | 20 => ∃ k, w.ownsRow B 5 1 v k (cellsOf (b ++ encS s))
  | 5 => v = .int .i64 0
  | _ => True
set_option maxRecDepth 100000 in
set_option maxHeartbeats 1000000 in
theorem fput_good (A : Option Addr) (n c : Nat) (b : List UInt8) (M : Option Addr) (m d : Nat) (s : SecD) (w : World) (hb : b.length = n) (hn : n ≤ 35184372088832) (hr : Rd w w.heap.size A b)
    (hs : s.body.length = m) (hm : m ≤ 1048576) (hrs : Rd w w.heap.size M s.body) :
    Calls Try.prog 59 #[.slice A n c, .agg #[.int .u8 (s.kind.toNat : Int), .slice M m d]] w (PutPost w (b ++ encS s) 0) := by
  have hk := s.kind.toNat_lt
  have d1 : decide ((1048576 : Int) < (m : Int)) = false := by simp; omega
  have HB := Lib.hid hb
  have HR := Lib.hid hr
  have HS := Lib.hid hs
  have HRS := Lib.hid hrs
  clear hb hr hs hrs
  go_enter Try.func59, Try.ntmps59
  go_wp2_with fail
  have T := Lib.hid (Two.new w (.int .u8 (s.kind.toNat : Int)) (.slice M m d) 68)
  have HB0 := Lib.hid (show Below w.heap.size w (w.alloc (.cells #[.int .u8 (s.kind.toNat : Int), .slice M m d] 68)) from (Below.refl _ _).alloc (Nat.le_refl _) _)
  generalize hw1 : w.alloc (.cells #[.int .u8 (s.kind.toNat : Int), .slice M m d] 68) = w1 at *
  refine Gw.wp_region_grow (fputG w.heap.size w.heap.size A M n c m d b s) [12, 13, 14, 15, 16, 17, 18, 19, 20, 4, 5] [([0], none), ([3], none), ([13], none), ([14], none), ([3], none), ([16], none), ([17], none), ([12, 15, 18], none), ([19], none), ([20], none), ([], none)] 21 (by kernel_rfl) (by kernel_rfl) rfl ?h0 ?hreq ?hend
  case h0 =>
    intro t W hnd _
    unfold fputG
    split <;> first | rfl | trivial | exact absurd (by simp) hnd
  case hreq =>
    refine ⟨?_, ?_, ?_, ?_, ?_, ?_, ?_, ?_, ?_, ?_, ?_, trivial⟩
    all_goals
      intro a W hg hk
      have hg' : Below w1.heap.size w1 W := hg
      obtain ⟨k1, k2, -, -⟩ := T.out.past hg'
      simp only [Gw.Knows, fputG] at hk
      try (simp [go_sem, Gw.OpReq, Gw.Ok, Gw.Post, Gw.Holds, fputG, Gw.Grows.refl, hk, k1, k2]; done)
    · simp [go_sem, Gw.OpReq, Gw.Ok, Gw.Post, Gw.Holds, fputG, Gw.Grows.refl, hk]
      refine (headOf_any s.kind M m d W hm).mono ?_
      intro e w5 h5
      obtain ⟨X, n5, c5, rfl, hl, -, -, hr5, hb5⟩ := h5.open
      have e5 : n5 = 5 := hl.symm.trans (head_length _ _)
      subst e5
      exact ⟨_, rfl, hb5, fun W2 hW2 => ⟨X, ⟨c5, rfl⟩, (hr5.below hW2).more (Below.size hW2)⟩⟩
    · obtain ⟨⟨X, cx, he, hr5⟩, -⟩ := hk
      simp [go_sem, Gw.OpReq, Gw.Ok, Gw.Post, Gw.Holds, fputG, Gw.Grows.refl, he]
      refine (mark_news X 5 cx _ W (head_length _ _) (by omega) hr5).mono ?_
      intro e w5 h5
      obtain ⟨X, n5, c5, rfl, hl, -, -, hr5, hb5⟩ := h5.open
      have e5 : n5 = 9 := hl.symm.trans (mark_length _)
      subst e5
      exact ⟨_, rfl, hb5, fun W2 hW2 => ⟨X, ⟨c5, rfl⟩, (hr5.below hW2).more (Below.size hW2)⟩⟩
    · simp [go_sem, Gw.OpReq, Gw.Ok, Gw.Post, Gw.Holds, fputG, Gw.Grows.refl, hk]
      refine (mark_news M m d s.body W HS.out (by omega) ((HRS.out.below (HB0.out.trans (hg'.mono HB0.out.size))).more (Nat.le_trans HB0.out.size hg'.size))).mono ?_
      intro e w5 h5
      obtain ⟨X, n5, c5, rfl, hl, -, -, hr5, hb5⟩ := h5.open
      have e5 : n5 = m + 4 := by rw [← hl, mark_length, HS.out]
      subst e5
      exact ⟨_, rfl, hb5, fun W2 hW2 => ⟨X, ⟨c5, rfl⟩, (hr5.below hW2).more (Below.size hW2)⟩⟩
    · obtain ⟨h12, ⟨X, cx, he, hr5⟩, ⟨X', cx', he', hr5'⟩, -⟩ := hk
      simp [go_sem, Gw.OpReq, Gw.Ok, Gw.Post, Gw.Holds, fputG, h12, he, he']
      have hsz : w.heap.size ≤ W.heap.size := Nat.le_trans HB0.out.size hg'.size
      have hrA := (HR.out.below (HB0.out.trans (hg'.mono HB0.out.size))).more hsz
      exact ⟨(Below.refl _ _).alloc (Nat.le_refl _) _, fun W2 hW2 => ((parts_of3 22 HB.out (by omega) (show (Cr.mark (head s.kind m)).length = 9 from mark_length _) (by omega) (show (Cr.mark s.body).length = m + 4 from (mark_length _).trans (by rw [HS.out])) (by omega) (Nat.le_refl _) hrA hr5 hr5' rfl).below hW2).more (Below.size hW2)⟩
    · obtain ⟨⟨X, he, hp5⟩, -⟩ := hk
      simp [go_sem, Gw.OpReq, Gw.Ok, Gw.Post, Gw.Holds, fputG, Gw.Grows.refl, he]
      have hfl : ([b, Cr.mark (head s.kind m), Cr.mark s.body] : List (List UInt8)).flatten = b ++ encS s := by
        unfold encS; rw [HS.out]; simp
      refine (concat_any X 3 3 _ W rfl (by omega) (by rw [hfl, List.length_append, encS_length, HS.out, HB.out]; omega) hp5).mono ?_
      rw [hfl]
      rintro e w5 ⟨v5, n5, rfl, ho5, hb5⟩
      have hsz : w.heap.size ≤ W.heap.size := Nat.le_trans HB0.out.size hg'.size
      exact ⟨_, rfl, hb5, fun W2 hW2 => ⟨n5, own_below (own_more ho5 hsz) hW2⟩⟩
    · obtain ⟨⟨k, ho⟩, -⟩ := hk
      simp [go_sem, Gw.OpReq, Gw.Ok, Gw.Post, Gw.Holds, fputG, Gw.Grows.refl]
      exact fun W2 hW2 => ⟨k, own_below ho hW2⟩
  case hend =>
    intro x w' hg hx
    obtain ⟨k, h4⟩ := (show ∃ k, w'.ownsRow w.heap.size 5 1 (x 4) k (cellsOf (b ++ encS s)) from (hx 4 (by simp)).now)
    have h5 : x 5 = .int .i64 0 := (hx 5 (by simp)).now
    have HO := Lib.hid h4
    have HE := Lib.hid (HB0.out.trans (Below.mono (show Below w1.heap.size w1 w' from hg) HB0.out.size))
    clear h4
    simp only [Gw.putAll, Act.put, List.setIfInBounds_toArray, List.set_cons_zero, List.set_cons_succ]
    rw [h5]
    go_wp2
    exact bodyPost_ret (v := .tuple #[x 4, .int .i64 0]) (by simp [results, Try.results59, go_sem]) rfl ⟨x 4, k, rfl, HO.out, HE.out⟩
set_option maxRecDepth 100000 in
set_option maxHeartbeats 400000 in
theorem fput_long (A : Option Addr) (n c : Nat) (b : List UInt8) (k : UInt8) (M : Option Addr) (m d : Nat) (w : World) (hb : b.length = n) (hn : n ≤ 35184372088832) (hr : Rd w w.heap.size A b) (hm : 1048576 < m) :
    Calls Try.prog 59 #[.slice A n c, .agg #[.int .u8 (k.toNat : Int), .slice M m d]] w (PutPost w b 4) := by
  have hk := k.toNat_lt
  have d1 : decide ((1048576 : Int) < (m : Int)) = true := by simp; omega
  have HB := Lib.hid hb
  have HR := Lib.hid hr
  clear hb hr
  go_enter Try.func59, Try.ntmps59
  go_wp2_with fail
  have HB0 := Lib.hid (show Below w.heap.size w (w.alloc (.cells #[.int .u8 (k.toNat : Int), .slice M m d] 68)) from (Below.refl _ _).alloc (Nat.le_refl _) _)
  refine (clone_any A n c b _ HB.out (by omega) ((HR.out.below HB0.out).more HB0.out.size)).mono ?_
  rintro e w2 ⟨v, q, rfl, ho, hb2⟩
  have HO := Lib.hid (own_more ho HB0.out.size)
  have HB2 := Lib.hid (HB0.out.trans (hb2.mono HB0.out.size))
  clear ho hb2
  go_wp2
  exact bodyPost_ret (v := .tuple #[v, .int .i64 4]) (by simp [results, Try.results59, go_sem]) rfl ⟨v, q, rfl, HO.out, HB2.out⟩
end Go.Proofs.Ytgnghalcihoaaaa
