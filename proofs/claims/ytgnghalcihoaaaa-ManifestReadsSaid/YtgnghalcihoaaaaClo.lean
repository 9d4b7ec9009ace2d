/- A copy of bytes: bytes.Clone. -/
import Derived.Test.YtgnghalcihoaaaaByt
namespace Go.Proofs.Ytgnghalcihoaaaa
open Go.RowKit Me

set_option maxRecDepth 100000 in
set_option maxHeartbeats 400000 in
theorem clone_any (A : Option Addr) (n c : Nat) (l : List UInt8) (w : World) (hl : l.length = n) (hn : n ≤ 70368744177664) (hr : Rd w w.heap.size A l) :
    Calls Try.prog 63 #[.slice A n c] w (News w l) := by
  obtain ⟨i0, hi0, hz0, hz1, hz2⟩ := info_parts u8_info
  have q22 : ∀ (w : World) (a : Option Addr) (n c n' c' : Nat), (binOp .eql 22 (.slice a n c) (.slice none n' c')).run Try.prog w = .ok (.bool a.isNone) w := fun w a n c n' c' => Lib.run_eql_slice_nil w _ _ a n c n' c' Try.underlying22
  have hb0 : Below w.heap.size w (w.alloc (.cells #[] 5)) := (Below.refl _ _).alloc (Nat.le_refl _) _
  have HL := Lib.hid hl
  have HR := Lib.hid hr
  have HB0 := Lib.hid hb0
  clear hl hr hb0
  cases A with
  | none =>
    go_enter Try.func63, Try.ntmps63
    go_wp2
    go_ret
    have h0 : n = 0 := by
      rw [← HL.out]
      rcases Nat.eq_zero_or_pos l.length with h0 | h0
      · exact h0
      · obtain ⟨a, e, _⟩ := HR.out h0
        cases e
    have h1 : l = [] := List.eq_nil_of_length_eq_zero (by rw [HL.out]; exact h0)
    subst h0 h1
    exact ⟨_, _, rfl, World.ownsRow_nil _ _ _ _, Below.refl _ _⟩
  | some a =>
    go_enter Try.func63, Try.ntmps63
    go_wp2_with (at_builtin
                 refine wpList_app rfl (.tmp 5) (.tmp 6) 22 rfl w.heap.size 5 i0 _ Try.underlying22 hi0 hz0 hz1 hz2 rfl (.slice (some ⟨w.heap.size, 0, none⟩) 0 0) 0 [] rfl (own_empty w _ _ (Nat.le_refl _)) w.heap.size (some a) n c l rfl HL.out (HR.out.below HB0.out) (by omega) HB0.out.size ?_
                 intro v2 w3 hown2 hg2 hat2
                 have HB3 := Lib.hid (below_app HB0.out (own_empty w _ _ (Nat.le_refl _)) (Nat.le_refl _) HB0.out.size hg2)
                 have HW2 := Lib.hid hown2
                 clear hat2 hg2 hown2)
    go_ret
    exact ⟨v2, _, rfl, by have := HW2.out; simpa using this, HB3.out⟩
end Go.Proofs.Ytgnghalcihoaaaa
