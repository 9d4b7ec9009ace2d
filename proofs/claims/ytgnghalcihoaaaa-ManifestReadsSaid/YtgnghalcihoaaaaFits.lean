/- Whether bytes fit: the program's Fits. -/
import Derived.Test.YtgnghalcihoaaaaClo
import Derived.Test.YtgnghalcihoaaaaEqu
import Derived.Test.YtgnghalcihoaaaaRefMark
import Derived.Lib.SliceRun
namespace Go.Proofs.Ytgnghalcihoaaaa
open Go.RowKit Cr Me

theorem fits_short (A : Option Addr) (n c : Nat) (w : World) (hn : n < 4) :
    Calls Try.prog 85 #[.slice A n c] w fun e w' => e = .returned (.tuple #[.slice none 0 0, .int .i64 2]) ∧ w = w' := by
  have h1 : decide ((n : Int) < 4) = true := by simp; omega
  go_enter Try.func85, Try.ntmps85
  go_wp2
  go_ret2
  exact ⟨rfl, rfl⟩
/-- What Fits answers of at least four bytes. -/
def FitsPost (w : World) (k : Nat) (l : List UInt8) (b : Bool) (e : Ending) (w' : World) : Prop :=
  Below w.heap.size w w' ∧ if b then ∃ v, e = .returned (.tuple #[v, .int .i64 0]) ∧ w'.ownsRow w.heap.size 5 1 v k (cellsOf (l.take k)) else e = .returned (.tuple #[.slice none 0 0, .int .i64 5])
set_option maxRecDepth 100000 in
set_option maxHeartbeats 400000 in
theorem fits_long (a : Addr) (k c : Nat) (l : List UInt8) (w : World) (hl : l.length = k + 4) (hc : k + 4 ≤ c) (hn : k ≤ 70368744177664) (hr : Rd w w.heap.size (some a) l) (b : Bool) (hb : (Cr.mark (l.take k) == l) = b) :
    Calls Try.prog 85 #[.slice (some a) (k + 4) c] w fun e w' => FitsPost w k l b e w' := by
  have hk : (l.take k).length = k := by rw [List.length_take, hl]; omega
  have HL := Lib.hid hl
  have HR := Lib.hid hr
  have HK := Lib.hid hk
  have HT := Lib.hid (hr.take k)
  have HB := Lib.hid hb
  clear hl hr hk hb
  go_enter Try.func85, Try.ntmps85
  go_wp2_with fail
  refine (mark_any (some a) k c (l.take k) w HK.out hn HT.out).mono ?_
  rintro e w1 ⟨v, rfl, hown, hb1⟩
  obtain ⟨g, cap, rfl, -, -⟩ := hown.form (by omega)
  have HO := Lib.hid (Rd.of_own hown)
  have HM := Lib.hid ((mark_length (l.take k)).trans (by rw [HK.out]))
  have HB1 := Lib.hid hb1
  clear hown hb1
  go_wp2_with fail
  refine (equal_any _ _ _ _ _ _ (Cr.mark (l.take k)) l w1 _ _ HM.out HO.out HL.out (HR.out.below HB1.out)).mono ?_
  rintro e w' ⟨rfl, rfl⟩
  rw [HB.out]
  cases b with
  | false =>
    go_wp2
    go_ret2
    exact ⟨HB1.out, rfl⟩
  | true =>
    go_wp2_with fail
    refine (clone_any (some a) k c (l.take k) w1 HK.out hn ((HT.out.below HB1.out).more HB1.out.size)).mono ?_
    rintro e w2 ⟨v, m2, rfl, hown2, hb2⟩
    have hm2 : m2 = k := by have h1 := hown2.1; have h2 := HK.out; rw [cellsOf_length] at h1; omega
    subst hm2
    have HB2 := Lib.hid (HB1.out.trans (hb2.mono HB1.out.size))
    have HW2 := Lib.hid hown2
    clear hown2 hb2
    go_wp2
    go_ret2
    exact ⟨HB2.out, v, rfl, own_more HW2.out HB1.out.size⟩
end Go.Proofs.Ytgnghalcihoaaaa
