/- Whether bytes fit: equality and a copy of bytes, the program's Fits and the document's. -/
import Derived.Test.YteonfodeddaoiaaRefMark
import Derived.Lib.SliceRun
namespace Go.Proofs.Yteonfodeddaoiaa
open Go.RowKit Cr Me

theorem str_any (A : Option Addr) (n c : Nat) (l : List UInt8) (w : World) (B : Nat) (hl : l.length = n) (hr : Rd w B A l) : (convert 22 9 (.slice A n c)).run Try.prog w = .ok (.string ⟨l.toArray⟩) w :=
  run_str 22 5 9 Try.underlying22 Try.underlying5 Try.underlying9 w B A l n c hl hr
set_option maxHeartbeats 400000 in
theorem equal_any (A A' : Option Addr) (n c n' c' : Nat) (l m : List UInt8) (w : World) (B B' : Nat) (hl : l.length = n) (hr : Rd w B A l) (hm : m.length = n') (hr' : Rd w B' A' m) :
    Calls Try.prog 15 #[.slice A n c, .slice A' n' c'] w fun e w' => e = .returned (.bool (l == m)) ∧ w = w' := by
  have h1 := str_any A n c l w B hl hr
  have h2 := str_any A' n' c' m w B' hm hr'
  clear hl hr hm hr'
  go_enter Try.func15, Try.ntmps15
  go_wp2
  go_ret
  exact ⟨rfl, rfl⟩
set_option maxHeartbeats 400000 in
theorem clone_any (A : Option Addr) (n c : Nat) (l : List UInt8) (w : World) (hl : l.length = n) (hn : n ≤ 70368744177664) (hr : Rd w w.heap.size A l) :
    Calls Try.prog 16 #[.slice A n c] w fun e w' => ∃ v, e = .returned v ∧ w'.ownsRow w.heap.size 5 1 v n (cellsOf l) ∧ Below w.heap.size w w' := by
  obtain ⟨i0, hi0, hz0, hz1, hz2⟩ := info_parts u8_info
  have q22 : ∀ (w : World) (a : Option Addr) (n c n' c' : Nat), (binOp .eql 22 (.slice a n c) (.slice none n' c')).run Try.prog w = .ok (.bool a.isNone) w := fun w a n c n' c' => Lib.run_eql_slice_nil w _ _ a n c n' c' Try.underlying22
  have hb0 : Below w.heap.size w (w.alloc (.cells #[] 5)) := (Below.refl _ _).alloc (Nat.le_refl _) _
  have HL := Lib.hid hl
  have HR := Lib.hid hr
  have HB0 := Lib.hid hb0
  clear hl hr hb0
  cases A with
  | none =>
    go_enter Try.func16, Try.ntmps16
    go_wp2
    go_ret
    have h0 : n = 0 := by
      rw [← HL.out]
      rcases Nat.eq_zero_or_pos l.length with h0 | h0
      · exact h0
      · obtain ⟨a, e, _⟩ := HR.out h0
        cases e
    have h1 : l = [] := List.eq_nil_of_length_eq_zero (by rw [HL.out]; exact h0)
    subst h0 h1
    exact ⟨_, rfl, World.ownsRow_nil _ _ _ _, Below.refl _ _⟩
  | some a =>
    go_enter Try.func16, Try.ntmps16
    go_wp2_with (at_builtin
                 refine wpList_app rfl (.tmp 5) (.tmp 6) 22 rfl w.heap.size 5 i0 _ Try.underlying22 hi0 hz0 hz1 hz2 rfl (.slice (some ⟨w.heap.size, 0, none⟩) 0 0) 0 [] rfl (own_empty w _ _ (Nat.le_refl _)) w.heap.size (some a) n c l rfl HL.out (HR.out.below HB0.out) (by omega) HB0.out.size ?_
                 intro v2 w3 hown2 hg2 hat2
                 have HB3 := Lib.hid (below_app HB0.out (own_empty w _ _ (Nat.le_refl _)) (Nat.le_refl _) HB0.out.size hg2)
                 have HW2 := Lib.hid hown2
                 clear hat2 hg2 hown2)
    go_ret
    exact ⟨v2, rfl, by have := HW2.out; simpa using this, HB3.out⟩
theorem fits_short (A : Option Addr) (n c : Nat) (w : World) (hn : n < 4) :
    Calls Try.prog 11 #[.slice A n c] w fun e w' => e = .returned (.tuple #[.slice none 0 0, .int .i64 2]) ∧ w = w' := by
  have h1 : decide ((n : Int) < 4) = true := by simp; omega
  go_enter Try.func11, Try.ntmps11
  go_wp2
  go_ret2
  exact ⟨rfl, rfl⟩
/-- What Fits answers of at least four bytes. -/
def FitsPost (w : World) (k : Nat) (l : List UInt8) (b : Bool) (e : Ending) (w' : World) : Prop :=
  Below w.heap.size w w' ∧ if b then ∃ v, e = .returned (.tuple #[v, .int .i64 0]) ∧ w'.ownsRow w.heap.size 5 1 v k (cellsOf (l.take k)) else e = .returned (.tuple #[.slice none 0 0, .int .i64 5])
set_option maxHeartbeats 400000 in
theorem fits_long (a : Addr) (k c : Nat) (l : List UInt8) (w : World) (hl : l.length = k + 4) (hc : k + 4 ≤ c) (hn : k ≤ 70368744177664) (hr : Rd w w.heap.size (some a) l) (b : Bool) (hb : (Cr.mark (l.take k) == l) = b) :
    Calls Try.prog 11 #[.slice (some a) (k + 4) c] w fun e w' => FitsPost w k l b e w' := by
  have hk : (l.take k).length = k := by rw [List.length_take, hl]; omega
  have HL := Lib.hid hl
  have HR := Lib.hid hr
  have HK := Lib.hid hk
  have HT := Lib.hid (hr.take k)
  have HB := Lib.hid hb
  clear hl hr hk hb
  go_enter Try.func11, Try.ntmps11
  go_wp2_with fail
  refine (mark_any (some a) k c (l.take k) w HK.out hn HT.out).mono ?_
  rintro e w1 ⟨v, rfl, hown, hb1⟩
  obtain ⟨g, cap, rfl, -, -⟩ := hown.form (by omega)
  have HO := Lib.hid (Rd.of_own hown)
  have HM := Lib.hid ((mark_length (l.take k)).trans (by rw [HK.out]))
  have HB1 := Lib.hid hb1
  clear hown hb1
  go_wp2_with fail
  refine (equal_any _ _ _ _ _ _ (Cr.mark (l.take k)) l w1 _ _ HM.out HO.out HL.out (HR.out.below HB1.out)).mono ?_
  rintro e w' ⟨rfl, rfl⟩
  rw [HB.out]
  cases b with
  | false =>
    go_wp2
    go_ret2
    exact ⟨HB1.out, rfl⟩
  | true =>
    go_wp2_with fail
    refine (clone_any (some a) k c (l.take k) w1 HK.out hn ((HT.out.below HB1.out).more HB1.out.size)).mono ?_
    rintro e w2 ⟨v, rfl, hown2, hb2⟩
    have HB2 := Lib.hid (HB1.out.trans (hb2.mono HB1.out.size))
    have HW2 := Lib.hid hown2
    clear hown2 hb2
    go_wp2
    go_ret2
    exact ⟨HB2.out, v, rfl, own_more HW2.out HB1.out.size⟩
end Go.Proofs.Yteonfodeddaoiaa
