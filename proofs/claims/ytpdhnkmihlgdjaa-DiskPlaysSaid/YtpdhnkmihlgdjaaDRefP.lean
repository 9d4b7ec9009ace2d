/- The document's disk: a deed; a write more for good. -/
import Derived.Test.YtpdhnkmihlgdjaaDRefA
namespace Go.Proofs.Ytpdhnkmihlgdjaa
open Go.RowKit Me Rw Ds

set_option maxRecDepth 100000 in
theorem rnew_any (n : Int) (w : World) : Calls Try.prog 9 #[.int .i64 n] w fun e w' => e = .returned (.agg #[.int .i64 n, .bool false, .int .i64 (-1), .slice none 0 0, .slice none 0 0]) ∧ Below w.heap.size w w' := by
  go_enter Try.func9, Try.ntmps9
  go_wp2
  obtain ⟨r0, r1, r2, r3, r4⟩ := (Blk.new w [.int .i64 n, .bool false, .int .i64 (-1), .slice none 0 0, .slice none 0 0] 30).five
  exact bodyPost_ret (v := .agg #[.int .i64 n, .bool false, .int .i64 (-1), .slice none 0 0, .slice none 0 0]) (by simp [results, Try.results9, go_sem, r0, r1, r2, r3, r4]) rfl ⟨rfl, (Below.refl _ _).alloc (Nat.le_refl _) _⟩
/-- A deed of the document's: whether it is off, the fuse, the error. -/
def deedR (of : Bool) (f : Int) : Bool × Int × Int := if f = 0 then (true, 0, 6) else if 0 < f then (of, f - 1, 0) else (of, f, 0)
set_option maxRecDepth 100000 in
theorem deed_any (cn : Int) (of : Bool) (f : Int) (Am : Option Addr) (nm cm : Nat) (Aw : Option Addr) (nw cw : Nat) (w : World) (hf : -9223372036854775808 ≤ f ∧ f ≤ 9223372036854775807) :
    Calls Try.prog 33 #[.agg #[.int .i64 cn, .bool of, .int .i64 f, .slice Am nm cm, .slice Aw nw cw]] w fun e w' =>
      e = .returned (.tuple #[.agg #[.int .i64 cn, .bool (deedR of f).1, .int .i64 (deedR of f).2.1, .slice Am nm cm, .slice Aw nw cw], .int .i64 (deedR of f).2.2]) ∧ Below w.heap.size w w' := by
  by_cases h0 : f = 0
  · subst h0
    have e : deedR of 0 = (true, 0, 6) := rfl
    rw [e]
    clear e
    go_enter Try.func33, Try.ntmps33
    go_wp2
    obtain ⟨r0, r1, r2, r3, r4⟩ := (Blk.new' (w.alloc (.cells #[.int .i64 cn, .bool true, .int .i64 0, .slice Am nm cm, .slice Aw nw cw] 30)) [.int .i64 cn, .bool true, .int .i64 0, .slice Am nm cm, .slice Aw nw cw] 30 (H := w.heap.size + 1) (by simp)).five
    exact bodyPost_ret (v := .tuple #[.agg #[.int .i64 cn, .bool true, .int .i64 0, .slice Am nm cm, .slice Aw nw cw], .int .i64 6]) (by simp [results, Try.results33, go_sem, r0, r1, r2, r3, r4]) rfl ⟨rfl, ((Below.refl _ w).alloc (Nat.le_refl _) _).alloc (by simp) _⟩
  · by_cases h1 : 0 < f
    · have e : deedR of f = (of, f - 1, 0) := by unfold deedR; rw [if_neg h0, if_pos h1]
      rw [e]
      clear e
      have d1 : (f == 0) = false := by rw [beq_eq_false_iff_ne]; exact h0
      go_enter Try.func33, Try.ntmps33
      go_wp2
      obtain ⟨r0, r1, r2, r3, r4⟩ := (Blk.new' (w.alloc (.cells #[.int .i64 cn, .bool of, .int .i64 (f - 1), .slice Am nm cm, .slice Aw nw cw] 30)) [.int .i64 cn, .bool of, .int .i64 (f - 1), .slice Am nm cm, .slice Aw nw cw] 30 (H := w.heap.size + 1) (by simp)).five
      exact bodyPost_ret (v := .tuple #[.agg #[.int .i64 cn, .bool of, .int .i64 (f - 1), .slice Am nm cm, .slice Aw nw cw], .int .i64 0]) (by simp [results, Try.results33, go_sem, r0, r1, r2, r3, r4]) rfl ⟨rfl, ((Below.refl _ w).alloc (Nat.le_refl _) _).alloc (by simp) _⟩
    · have e : deedR of f = (of, f, 0) := by unfold deedR; rw [if_neg h0, if_neg h1]
      rw [e]
      clear e
      have d1 : (f == 0) = false := by rw [beq_eq_false_iff_ne]; exact h0
      go_enter Try.func33, Try.ntmps33
      go_wp2
      obtain ⟨r0, r1, r2, r3, r4⟩ := (Blk.new' (w.alloc (.cells #[.int .i64 cn, .bool of, .int .i64 f, .slice Am nm cm, .slice Aw nw cw] 30)) [.int .i64 cn, .bool of, .int .i64 f, .slice Am nm cm, .slice Aw nw cw] 30 (H := w.heap.size + 1) (by simp)).five
      exact bodyPost_ret (v := .tuple #[.agg #[.int .i64 cn, .bool of, .int .i64 f, .slice Am nm cm, .slice Aw nw cw], .int .i64 0]) (by simp [results, Try.results33, go_sem, r0, r1, r2, r3, r4]) rfl ⟨rfl, ((Below.refl _ w).alloc (Nat.le_refl _) _).alloc (by simp) _⟩
end Go.Proofs.Ytpdhnkmihlgdjaa
