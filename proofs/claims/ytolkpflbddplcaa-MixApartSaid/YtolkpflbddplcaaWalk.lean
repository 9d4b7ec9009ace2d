/- What mixing, a draw and the document's example do, called in any memory; how a tape is read. -/
import Derived.Test.YtolkpflbddplcaaRows
import Derived.Test.YtolkpflbddplcaaMix
import Derived.WalkKit
import Derived.WalkSpells
import Derived.Lib.Hide
import Derived.WalkLawsBesides
import Derived.Deep.RegionHeld3
import Derived.Test.YtolkpflbddplcaaLaw
namespace Go.Proofs.Ytolkpflbddplcaa
open Go.RowKit Mx

set_option maxHeartbeats 400000 in
theorem mix_any (n : Int) (w : World) :
    Calls Try.prog 8 #[.int .u64 n] w fun e w' => e = .returned (.int .u64 (mixI n)) ∧ w = w' := by
  go_enter Try.func8, Try.ntmps8
  go_wp2
  go_ret
  refine ⟨?_, rfl⟩
  simp only [← mixI_shr n]
  simp
set_option maxHeartbeats 400000 in
theorem ref_mix_any (n : Int) (w : World) :
    Calls Try.prog 9 #[.int .u64 n] w fun e w' => e = .returned (.int .u64 (mixI n)) ∧ w = w' := by
  go_enter Try.func9, Try.ntmps9
  go_wp2
  go_ret
  refine ⟨?_, rfl⟩
  simp only [← mixI_tdiv n]
  simp
set_option maxHeartbeats 400000 in
theorem awake_any (w : World) :
    Calls Try.prog 12 #[] w fun e w' => e = .returned (.bool true) ∧ w = w' := by
  have h0 := Lib.hid mix_zero
  go_enter Try.func12, Try.ntmps12
  go_wp2_with (go_at_call 8; refine (mix_any _ _).mono ?_; rintro e w' ⟨rfl, rfl⟩)
  go_ret
  simp [h0.out]
/-- What was there is as it was. -/
theorem bcell {w w' : World} {a : Addr} {v : Value} (h : Below w.heap.size w w') (hc : w.cell? a = some v) : w'.cell? a = some v := (h.cell (World.block_lt_of_cell? w a hc)).trans hc
theorem btrans {a b c : World} (h : Below a.heap.size a b) (k : Below b.heap.size b c) : Below a.heap.size a c := h.trans (k.mono h.size)
set_option maxHeartbeats 400000 in
theorem draw_exact (s k t a : Int) (w : World) :
    Calls Try.prog 10 #[.agg #[.int .u64 s, .int .u64 k, .int .u64 t, .int .u64 a]] w fun e w' => e = .returned (.int .u64 (drawI s k t a)) ∧ w' = w.alloc (.cells #[.int .u64 s, .int .u64 k, .int .u64 t, .int .u64 a] 24) := by
  go_enter Try.func10, Try.ntmps10
  go_wp2_with (go_at_call 8; refine (mix_any _ _).mono ?_; rintro e w' ⟨rfl, rfl⟩)
  go_ret
  exact ⟨rfl, rfl⟩
theorem draw_any (s k t a : Int) (w : World) :
    Calls Try.prog 10 #[.agg #[.int .u64 s, .int .u64 k, .int .u64 t, .int .u64 a]] w fun e w' => e = .returned (.int .u64 (drawI s k t a)) ∧ Below w.heap.size w w' :=
  (draw_exact s k t a w).mono fun e w' ⟨he, hw⟩ => ⟨he, by rw [hw]; exact (Below.refl _ _).alloc (Nat.le_refl _) _⟩
set_option maxHeartbeats 400000 in
theorem ref_draw_any (s k t a : Int) (w : World) :
    Calls Try.prog 11 #[.agg #[.int .u64 s, .int .u64 k, .int .u64 t, .int .u64 a]] w fun e w' => e = .returned (.int .u64 (drawI s k t a)) ∧ Below w.heap.size w w' := by
  go_enter Try.func11, Try.ntmps11
  go_wp2_with (go_at_call 9; refine (ref_mix_any _ _).mono ?_; rintro e w' ⟨rfl, rfl⟩)
  go_ret
  exact ⟨rfl, (Below.refl _ _).alloc (Nat.le_refl _) _⟩
theorem keep4 {w W W' : World} {p0 p1 p2 p3 : Addr} {v0 v1 v2 v3 : Value} (k : Below W.heap.size W W')
    (h : W.cell? p0 = some v0 ∧ W.cell? p1 = some v1 ∧ W.cell? p2 = some v2 ∧ W.cell? p3 = some v3 ∧ Below w.heap.size w W) :
    W'.cell? p0 = some v0 ∧ W'.cell? p1 = some v1 ∧ W'.cell? p2 = some v2 ∧ W'.cell? p3 = some v3 ∧ Below w.heap.size w W' :=
  ⟨bcell k h.1, bcell k h.2.1, bcell k h.2.2.1, bcell k h.2.2.2.1, btrans h.2.2.2.2 k⟩
theorem held4 {w W : World} {p0 p1 p2 p3 : Addr} {v0 v1 v2 v3 : Value}
    (h : W.cell? p0 = some v0 ∧ W.cell? p1 = some v1 ∧ W.cell? p2 = some v2 ∧ W.cell? p3 = some v3 ∧ Below w.heap.size w W) : Below w.heap.size w W := h.2.2.2.2
theorem keep8 {w W W' : World} {p0 p1 p2 p3 q0 q1 q2 q3 : Addr} {v0 v1 v2 v3 u0 u1 u2 u3 : Value} (k : Below W.heap.size W W')
    (h : W.cell? p0 = some v0 ∧ W.cell? p1 = some v1 ∧ W.cell? p2 = some v2 ∧ W.cell? p3 = some v3 ∧ W.cell? q0 = some u0 ∧ W.cell? q1 = some u1 ∧ W.cell? q2 = some u2 ∧ W.cell? q3 = some u3 ∧ Below w.heap.size w W) :
    W'.cell? p0 = some v0 ∧ W'.cell? p1 = some v1 ∧ W'.cell? p2 = some v2 ∧ W'.cell? p3 = some v3 ∧ W'.cell? q0 = some u0 ∧ W'.cell? q1 = some u1 ∧ W'.cell? q2 = some u2 ∧ W'.cell? q3 = some u3 ∧ Below w.heap.size w W' :=
  ⟨bcell k h.1, bcell k h.2.1, bcell k h.2.2.1, bcell k h.2.2.2.1, bcell k h.2.2.2.2.1, bcell k h.2.2.2.2.2.1, bcell k h.2.2.2.2.2.2.1, bcell k h.2.2.2.2.2.2.2.1, btrans h.2.2.2.2.2.2.2.2 k⟩
theorem held8 {w W : World} {p0 p1 p2 p3 q0 q1 q2 q3 : Addr} {v0 v1 v2 v3 u0 u1 u2 u3 : Value}
    (h : W.cell? p0 = some v0 ∧ W.cell? p1 = some v1 ∧ W.cell? p2 = some v2 ∧ W.cell? p3 = some v3 ∧ W.cell? q0 = some u0 ∧ W.cell? q1 = some u1 ∧ W.cell? q2 = some u2 ∧ W.cell? q3 = some u3 ∧ Below w.heap.size w W) : Below w.heap.size w W := h.2.2.2.2.2.2.2.2

open Go.ChangeShapes Go.WideShapes Go.ChangeAt Go.Joins
theorem own : ownKnob Try.prog.godebug = none := by kernel_rfl
theorem laidOut : laidOutB Try.prog = true := by kernel_rfl
theorem cells24 : Try.prog.cellsOf 24 = 4 := by kernel_rfl
theorem wf_U64 {n : Int} (h : (Lit.int .u64 n).wf = true) : Mx.U64 n := by
  unfold Mx.U64; simp [Lit.wf, IntKind.min, IntKind.max, IntKind.bits, IntKind.signed] at h; omega
/-- A tape that can be read is four numbers of 64 bits. -/
theorem open_tape {H : Type} {enc : TypeId × Value → H} {w : World} {base b0 : Nat} {spare : Nat → Bool} {held : Bool} {r : Reach} {v : Value} {d : DataW H} {p : List MemPlace}
    (hv : Value.okWide Try.prog w r b0 24 v) (h : DataW.Trod enc Try.prog w base spare held 24 v d p) :
    ∃ s k t a : Int, v = .agg #[.int .u64 s, .int .u64 k, .int .u64 t, .int .u64 a] ∧ Mx.U64 s ∧ Mx.U64 k ∧ Mx.U64 t ∧ Mx.U64 a := by
  obtain ⟨c0, c1, c2, c3, y0, y1, y2, y3, n, rfl, _, _, h0, h1, h2, h3⟩ := open_agg4 Try.underlying24 (by kernel_rfl) cells24 hv h
  obtain ⟨s, e0, _, w0⟩ := DataW.trod_int Try.underlying22 h0
  obtain ⟨k, e1, _, w1⟩ := DataW.trod_int Try.underlying22 h1
  obtain ⟨t, e2, _, w2⟩ := DataW.trod_int Try.underlying22 h2
  obtain ⟨a, e3, _, w3⟩ := DataW.trod_int Try.underlying22 h3
  simp at e0 e1 e2 e3
  subst e0 e1 e2 e3
  exact ⟨s, k, t, a, rfl, wf_U64 w0, wf_U64 w1, wf_U64 w2, wf_U64 w3⟩

end Go.Proofs.Ytolkpflbddplcaa
