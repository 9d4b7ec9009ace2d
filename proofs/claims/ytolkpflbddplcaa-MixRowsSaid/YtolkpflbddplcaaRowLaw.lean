/- MixRows is proved: a tape's row begins with its draw, and goes on by mixing, as far as one asks; for every input, no conditions. -/
import Derived.Test.YtolkpflbddplcaaBelow
namespace Go.Proofs.Ytolkpflbddplcaa
open Go.RowKit Mx
theorem ref_draw_exact (s k t a : Int) (w : World) :
    Calls Try.prog 11 #[.agg #[.int .u64 s, .int .u64 k, .int .u64 t, .int .u64 a]] w fun e w' => e = .returned (.int .u64 (drawI s k t a)) ∧ w' = w.alloc (.cells #[.int .u64 s, .int .u64 k, .int .u64 t, .int .u64 a] 24) := by
  go_enter Try.func11, Try.ntmps11
  go_wp2_with (go_at_call 9; refine (ref_mix_any _ _).mono ?_; rintro e w' ⟨rfl, rfl⟩)
  go_ret
  exact ⟨rfl, rfl⟩
theorem row_exact (s k t a : Int) (w : World) :
    Calls Try.prog 15 #[.agg #[.int .u64 s, .int .u64 k, .int .u64 t, .int .u64 a]] w fun e w' => e = .returned (.func (.func 17) #[] #[.pointer (some ⟨w.heap.size, 0, none⟩)]) ∧ w' = w.alloc (.cells #[.int .u64 s, .int .u64 k, .int .u64 t, .int .u64 a] 24) := by
  go_enter Try.func15, Try.ntmps15
  go_wp2
  go_ret
  exact ⟨rfl, rfl⟩
/-- A function is not nil. -/
theorem run_equalIn_func {P : Program} {w : World} (d : Nat) {t : TypeId} {ps rs : Array TypeId} {vd : Bool} (h : P.underlying t = some (.func ps rs vd)) (f : Fn) (x c : Array Value) :
    (Op.equalIn (d + 1) t (.func f x c) .nilFunc).run P w = .ok false w := by
  simp [Op.equalIn, run_underlying h]
theorem run_eql_func {P : Program} {w : World} {t : TypeId} {ps rs : Array TypeId} {vd : Bool} (h : P.underlying t = some (.func ps rs vd)) (f : Fn) (x c : Array Value) :
    (binOp .eql t (.func f x c) .nilFunc).run P w = .ok (.bool false) w := by
  have e : (Op.equal t (.func f x c) .nilFunc).run P w = .ok false w := run_equalIn_func 9999 h f x c
  simp only [binOp]
  simp [e]
theorem row_not_nil (w : World) (f : Fn) (x c : Array Value) : (binOp .eql 34 (.func f x c) .nilFunc).run Try.prog w = .ok (.bool false) w := run_eql_func Try.underlying34 f x c
attribute [local go_sem] Oper.semAt_some row_not_nil
/-- What the law's own variables hold. -/
def Own6 (w : World) (r : Bool) (kk want c : Int) (W : World) : Prop :=
  Boxed W (w.heap.size + 1) 4 (.bool r) ∧ Boxed W (w.heap.size + 1 + 1) 3 (.int .i64 kk) ∧ Boxed W (w.heap.size + 1 + 1 + 1 + 1) 22 (.int .u64 want) ∧ Boxed W (w.heap.size + 1 + 1 + 1 + 1 + 1) 3 (.int .i64 c) ∧ Below w.heap.size w W
theorem own6_own {β : Type} {B : Nat} (w : World) (r : β → Bool) (kk : Int) (want c : β → Int) (hB : w.heap.size ≤ B) : OwnFrom B (fun s W => Own6 w (r s) kk (want s) (c s) W) := by
  unfold Own6
  exact OwnFrom.and ((boxed_own _ 4 (fun s => .bool (r s))).from _) (OwnFrom.and ((boxed_own _ 3 (fun _ => .int .i64 kk)).from _)
    (OwnFrom.and ((boxed_own _ 22 (fun s => .int .u64 (want s))).from _) (OwnFrom.and ((boxed_own _ 3 (fun s => .int .i64 (c s))).from _) (ownFrom_below (Nat.le_refl _) hB))))
theorem Own6.mixed {w W : World} {r : Bool} {kk v c : Int} (h : Own6 w r kk v c W) (v' : Int) : Own6 w r kk v' c (W.setCell ⟨w.heap.size + 1 + 1 + 1 + 1, 0, none⟩ (.int .u64 v')) := by
  obtain ⟨b0, b1, b2, b3, hb⟩ := h
  exact ⟨b0.other (by omega) _, b1.other (by omega) _, b2.set _, b3.other (by omega) _, hb.setCell (p := ⟨w.heap.size + 1 + 1 + 1 + 1, 0, none⟩) (by show w.heap.size ≤ w.heap.size + 1 + 1 + 1 + 1; omega) _⟩
theorem Own6.bump {w W : World} {r : Bool} {kk v c : Int} (h : Own6 w r kk v c W) (c' : Int) : Own6 w r kk v c' (W.setCell ⟨w.heap.size + 1 + 1 + 1 + 1 + 1, 0, none⟩ (.int .i64 c')) := by
  obtain ⟨b0, b1, b2, b3, hb⟩ := h
  exact ⟨b0.other (by omega) _, b1.other (by omega) _, b2.other (by omega) _, b3.set _, hb.setCell (p := ⟨w.heap.size + 1 + 1 + 1 + 1 + 1, 0, none⟩) (by show w.heap.size ≤ w.heap.size + 1 + 1 + 1 + 1 + 1; omega) _⟩
theorem Own6.told {w W : World} {r : Bool} {kk v c : Int} (h : Own6 w r kk v c W) (r' : Bool) : Own6 w r' kk v c (W.setCell ⟨w.heap.size + 1, 0, none⟩ (.bool r')) := by
  obtain ⟨b0, b1, b2, b3, hb⟩ := h
  exact ⟨b0.set _, b1.other (by omega) _, b2.other (by omega) _, b3.other (by omega) _, hb.setCell (p := ⟨w.heap.size + 1, 0, none⟩) (by show w.heap.size ≤ w.heap.size + 1; omega) _⟩
/-- The loop was left by a number that isn't the row's. -/
def Wrong (d : Int) (c : Code) (pre : List N64) : Prop := c = .ret ∧ ∃ p x, pre = p ++ [x] ∧ x.1 ≠ rowI d p.length
/-- The loop was left by the break. -/
def Broke (kk : Int) (c : Code) (pre : List N64) : Prop := c = .exit 0 ∧ pre.length = kk + 1
theorem ownFrom_or {β : Type} {B : Nat} {I J : β → World → Prop} (h : OwnFrom B I) (k : OwnFrom B J) : OwnFrom B (fun s W => I s W ∨ J s W) :=
  fun s W W' row hs hg hr => hs.elim (fun x => .inl (h s W W' row x hg hr)) (fun x => .inr (k s W W' row x hg hr))
theorem wrong_no {d : Int} {c : Code} {pre : List N64} (hf : FirstOf d pre) (h : Wrong d c pre) : False := by
  obtain ⟨_, p, x, rfl, hne⟩ := h
  have := hf p.length (by simp)
  simp at this
  exact hne this
set_option maxRecDepth 100000 in
set_option maxHeartbeats 1000000 in
theorem mixRows_walk (s k t a m : Int) (hm : 0 ≤ m ∧ m < 65536) (w : World) :
    CallsIn Fence.wide 3 Try.prog 6 #[.agg #[.int .u64 s, .int .u64 k, .int .u64 t, .int .u64 a], .int .u16 m] w fun e w' => e = .returned (.bool true) ∧ Below w.heap.size w w' := by
  refine callsIn_of_wp_marks Try.func6 rfl trivial ?_ rfl
  simp only [Try.ntmps6, List.size_toArray, List.length_cons, List.length_nil, Nat.reduceAdd, Nat.reduceSub, Array.replicate_succ, Array.replicate_zero, List.push_toArray, List.append_toArray, List.nil_append, List.cons_append]
  gi_wp2_with ((refine ⟨trivial, ?_⟩); (first | (refine (callsIn_wide.2 (ref_draw_exact s k t a _)).mono ?_; rintro e w' ⟨rfl, rfl⟩) | (refine (callsIn_wide.2 (row_exact s k t a _)).mono ?_; rintro e w' ⟨rfl, rfl⟩)))
  obtain ⟨W0, hW0⟩ : ∃ W0, (((((((w.alloc (.cells #[.int .u64 s, .int .u64 k, .int .u64 t, .int .u64 a] 24)).alloc (.cells #[.bool false] 4)).alloc (.cells #[.int .i64 (m % 300)] 3)).alloc (.cells #[.int .u64 s, .int .u64 k, .int .u64 t, .int .u64 a] 24)).alloc (.cells #[.int .u64 (drawI s k t a)] 22)).alloc (.cells #[.int .i64 0] 3)).alloc (.cells #[.int .u64 s, .int .u64 k, .int .u64 t, .int .u64 a] 24)) = W0 := ⟨_, rfl⟩
  have hb0 : Below w.heap.size w W0 := by
    rw [← hW0]; exact (((((((Below.refl _ w).alloc (Nat.le_refl _) _).alloc (by simp) _).alloc (by simp; omega) _).alloc (by simp; omega) _).alloc (by simp; omega) _).alloc (by simp; omega) _).alloc (by simp; omega) _
  have hst : Own6 w false (m % 300) (drawI s k t a) 0 W0 := by
    refine ⟨?_, ?_, ?_, ?_, hb0⟩ <;> rw [← hW0]
    · have := (((((Boxed.new (w.alloc (.cells #[.int .u64 s, .int .u64 k, .int .u64 t, .int .u64 a] 24)) 4 (.bool false)).alloc (.cells #[.int .i64 (m % 300)] 3)).alloc (.cells #[.int .u64 s, .int .u64 k, .int .u64 t, .int .u64 a] 24)).alloc (.cells #[.int .u64 (drawI s k t a)] 22)).alloc (.cells #[.int .i64 0] 3)).alloc (.cells #[.int .u64 s, .int .u64 k, .int .u64 t, .int .u64 a] 24)
      simpa using this
    · have := ((((Boxed.new ((w.alloc (.cells #[.int .u64 s, .int .u64 k, .int .u64 t, .int .u64 a] 24)).alloc (.cells #[.bool false] 4)) 3 (.int .i64 (m % 300))).alloc (.cells #[.int .u64 s, .int .u64 k, .int .u64 t, .int .u64 a] 24)).alloc (.cells #[.int .u64 (drawI s k t a)] 22)).alloc (.cells #[.int .i64 0] 3)).alloc (.cells #[.int .u64 s, .int .u64 k, .int .u64 t, .int .u64 a] 24)
      simpa using this
    · have := ((Boxed.new ((((w.alloc (.cells #[.int .u64 s, .int .u64 k, .int .u64 t, .int .u64 a] 24)).alloc (.cells #[.bool false] 4)).alloc (.cells #[.int .i64 (m % 300)] 3)).alloc (.cells #[.int .u64 s, .int .u64 k, .int .u64 t, .int .u64 a] 24)) 22 (.int .u64 (drawI s k t a))).alloc (.cells #[.int .i64 0] 3)).alloc (.cells #[.int .u64 s, .int .u64 k, .int .u64 t, .int .u64 a] 24)
      simpa using this
    · have := (Boxed.new (((((w.alloc (.cells #[.int .u64 s, .int .u64 k, .int .u64 t, .int .u64 a] 24)).alloc (.cells #[.bool false] 4)).alloc (.cells #[.int .i64 (m % 300)] 3)).alloc (.cells #[.int .u64 s, .int .u64 k, .int .u64 t, .int .u64 a] 24)).alloc (.cells #[.int .u64 (drawI s k t a)] 22)) 3 (.int .i64 0)).alloc (.cells #[.int .u64 s, .int .u64 k, .int .u64 t, .int .u64 a] 24)
      simpa using this
  obtain ⟨q0, q1, q2, q3⟩ := cells4 ((((((w.alloc (.cells #[.int .u64 s, .int .u64 k, .int .u64 t, .int .u64 a] 24)).alloc (.cells #[.bool false] 4)).alloc (.cells #[.int .i64 (m % 300)] 3)).alloc (.cells #[.int .u64 s, .int .u64 k, .int .u64 t, .int .u64 a] 24)).alloc (.cells #[.int .u64 (drawI s k t a)] 22)).alloc (.cells #[.int .i64 0] 3)) (.int .u64 s) (.int .u64 k) (.int .u64 t) (.int .u64 a) 24
  simp only [hW0, World.size_alloc] at q0 q1 q2 q3
  rw [hW0]
  have hle := hb0.size
  obtain ⟨kk, hkk⟩ : ∃ kk, m % 300 = kk := ⟨_, rfl⟩
  have hk0 : 0 ≤ kk ∧ kk < 300 := by omega
  rw [hkk] at hst ⊢
  refine Rg.range_endless rfl (by omega) (gf := 17) (lb := #[.pointer (some ⟨w.heap.size + 1 + 1 + 1 + 1 + 1 + 1, 0, none⟩)]) rfl trivial (enters_of Try.func17 (by kernel_rfl) rfl) (n₀ := w.heap.size) hle
    (row_endless 2 (by omega) s k t a (w.heap.size + 1 + 1 + 1 + 1 + 1 + 1) 300 _ W0 q0 q1 q2 q3) (fun _ => rfl)
    (fun (pre : List N64) W => (pre.length : Int) ≤ kk ∧ Own6 w false kk (rowI (drawI s k t a) pre.length) pre.length W)
    (fun c (pre : List N64) W => Wrong (drawI s k t a) c pre ∨ (Broke kk c pre ∧ Own6 w false kk (rowI (drawI s k t a) pre.length) kk W))
    (OwnFrom.and (ownFrom_pure _ _) (own6_own w (fun _ => false) kk (fun (pre : List N64) => rowI (drawI s k t a) pre.length) (fun (pre : List N64) => pre.length) hle))
    (fun c => ownFrom_or (ownFrom_pure _ _) (OwnFrom.and (ownFrom_pure _ _) (own6_own w (fun _ => false) kk (fun (pre : List N64) => rowI (drawI s k t a) pre.length) (fun _ => kk) hle)))
    (fun pre W h => by have := h.1; omega) ⟨by simp; omega, hst⟩
    (fun (x : N64) => { tmps := #[.agg #[.int .u64 s, .int .u64 k, .int .u64 t, .int .u64 a], .int .u16 m, .pointer (some ⟨w.heap.size, 0, none⟩), undef, .pointer (some ⟨w.heap.size + 1, 0, none⟩), .pointer (some ⟨w.heap.size + 1 + 1, 0, none⟩), .pointer (some ⟨w.heap.size + 1 + 1 + 1 + 1, 0, none⟩), .pointer (some ⟨w.heap.size + 1 + 1 + 1 + 1 + 1, 0, none⟩),
      .func (.func 17) #[] #[.pointer (some ⟨w.heap.size + 1 + 1 + 1 + 1 + 1 + 1, 0, none⟩)], .int .u64 x.1, .int .u16 m, .int .i64 m, .int .i64 kk, .agg #[.int .u64 s, .int .u64 k, .int .u64 t, .int .u64 a], .int .u64 (drawI s k t a), .agg #[.int .u64 s, .int .u64 k, .int .u64 t, .int .u64 a], .func (.func 17) #[] #[.pointer (some ⟨w.heap.size + 1 + 1 + 1 + 1 + 1 + 1, 0, none⟩)],
      .func (.func 17) #[] #[.pointer (some ⟨w.heap.size + 1 + 1 + 1 + 1 + 1 + 1, 0, none⟩)], .bool false, .func (.func 17) #[] #[.pointer (some ⟨w.heap.size + 1 + 1 + 1 + 1 + 1 + 1, 0, none⟩)], .int .u64 x.1, undef, undef, undef, undef, undef, undef, undef, undef, undef, undef, undef, undef, undef, undef, undef, undef], defers := [] }) ?assign ?body ?stop
  case assign =>
    intro l x W K hK
    gi_wp2
    exact hK
  case body =>
    rintro l pre x W ⟨hlen, b0, b1, b2, b3, hb⟩
    have e0 := b0.cell
    have e1 := b1.cell
    have e2 := b2.cell
    have e3 := b3.cell
    have f0 := b0.frozen
    have f2 := b2.frozen
    have f3 := b3.frozen
    have HS := Lib.hid (show Own6 w false kk (rowI (drawI s k t a) pre.length) pre.length W from ⟨b0, b1, b2, b3, hb⟩)
    have HX := Lib.hid x.2
    clear b0 b1 b2 b3 hb hst hb0 hW0 q0 q1 q2 q3 hkk hm
    by_cases hc : x.1 = rowI (drawI s k t a) pre.length
    · have hc1 : (x.1 != rowI (drawI s k t a) pre.length) = false := by simp [hc]
      have HC := Lib.hid hc
      clear hc
      by_cases hn : kk ≤ pre.length
      · gi_wp2_with ((refine ⟨trivial, ?_⟩); (refine (CallsIn.inRound l (callsIn_wide.2 (ref_mix_any _ _))).mono ?_); rintro e w' ⟨rfl, rfl⟩)
        have h2 := HS.out.mixed (mixI (rowI (drawI s k t a) pre.length))
        have e : (pre.length : Int) = kk := by omega
        refine ⟨KeepsOthers.setCell _ _ _, .inr ⟨⟨rfl, by simp; omega⟩, ?_⟩⟩
        rw [e] at h2
        simpa [rowI] using h2
      · gi_wp2_with ((refine ⟨trivial, ?_⟩); (refine (CallsIn.inRound l (callsIn_wide.2 (ref_mix_any _ _))).mono ?_); rintro e w' ⟨rfl, rfl⟩)
        have h2 := (HS.out.mixed (mixI (rowI (drawI s k t a) pre.length))).bump (pre.length + 1)
        refine ⟨(KeepsOthers.setCell _ _ _).trans (KeepsOthers.setCell _ _ _), ((Below.refl w.heap.size W).setCell (p := ⟨w.heap.size + 1 + 1 + 1 + 1, 0, none⟩) (by show w.heap.size ≤ w.heap.size + 1 + 1 + 1 + 1; omega) _).setCell (p := ⟨w.heap.size + 1 + 1 + 1 + 1 + 1, 0, none⟩) (by show w.heap.size ≤ w.heap.size + 1 + 1 + 1 + 1 + 1; omega) _, by simp; omega, ?_⟩
        simpa [rowI] using h2
    · have hc1 : (x.1 != rowI (drawI s k t a) pre.length) = true := by simp [hc]
      have HC := Lib.hid hc
      clear hc
      gi_wp2
      exact ⟨KeepsOthers.setCell _ _ _, .inl ⟨rfl, pre, x, rfl, HC.out⟩⟩
  case stop =>
    rintro D c pre W hD hpre (h | ⟨⟨rfl, hlen⟩, hS⟩) hK
    · exact (wrong_no hpre h).elim
    · obtain ⟨b0, b1, b2, b3, hb⟩ := hS
      have e1 := b1.cell
      have e3 := b3.cell
      have e0 := b0.cell
      have f0 := b0.frozen
      have HS := Lib.hid (show Own6 w false kk (rowI (drawI s k t a) pre.length) kk W from ⟨b0, b1, b2, b3, hb⟩)
      clear b0 b1 b2 b3 hb hst hb0 hW0 q0 q1 q2 q3 hkk hm hlen
      gi_wp2_with ((refine ⟨trivial, ?_⟩); (refine (callsIn_wide.2 (awake_any _)).mono ?_); rintro e w' ⟨rfl, rfl⟩)
      have h2 := HS.out.told true
      have hK2 := (KeepsOthers.setCell W ⟨w.heap.size + 1, 0, none⟩ (.bool true)).same D _ hK rfl
      refine ⟨by simp, .inl ⟨_, _, rfl, run_takeDeferred hK2, ?_⟩⟩
      have hc5 := cell_kept h2.1.cell (grownBy_putObj' _ D (.deferred none)) (fun r e => by cases e; exact ⟨_, hK2, rfl⟩)
      refine ⟨.bool true, ?_, rfl, h2.2.2.2.2.trans (belowK_b (w := w) (Nat.le_refl _) _ D _ _ (by omega) hK2 rfl rfl)⟩
      simp [results, Try.f6, go_sem, hc5]

open Go.ChangeShapes Go.WideShapes Go.ChangeAt Go.Joins
set_option maxRecDepth 100000 in
theorem mixRows_lifted (os : Os) (started : os.Started) (H : Type) (enc : TypeId × Value → H) :
    ReturnsInHanded {} Try.checked os 6 .any (Rows.mixRowsSpec.pre6 enc Try.prog Try.f6 Rows.mixRowsRow.domain false) (Rows.mixRowsSpec.post enc Try.prog Try.f6 false true false false) := by
  refine returnsInHanded_of_change (C := Try.checked) own started (by kernel_rfl) Try.func6
    (ChangeSpec.witness6 (enc := enc) (C := Try.checked) false ⟨#[], #[.agg #[.int .u64 0, .int .u64 0, .int .u64 0, .int .u64 0], .int .u16 0], []⟩ 8 (by kernel_rfl) (by kernel_rfl) (by kernel_rfl) (by kernel_rfl)) ?_
  intro W base args ds gs before hval0 hW hcnd _
  have hval : ∀ (j : Nat) t v, Try.f6.params[j]? = some t → args[j]? = some v → Value.okWide Try.prog W .any base t v := hval0
  have hW' := hW
  obtain ⟨p, q, hA0, hV, rfl, hfz, hnd⟩ := hW
  have hA : DataW.TrodAll enc Try.prog W 0 (fun _ => true) true Try.f6.params.toList args.toList ds p := hA0
  rw [Try.params6] at hA hval
  obtain ⟨v0, v1, d0, d1, p0, p1, rfl, rfl, rfl, h0, h1⟩ := trodAll_two hA
  obtain ⟨s, k, t, a, rfl, -, -, -, -⟩ := open_tape (hval 0 24 v0 rfl rfl) h0
  obtain ⟨m, rfl, -, -, wm⟩ := open_int Try.underlying32 (hval 1 32 v1 rfl rfl) h1
  have hm : 0 ≤ m ∧ m < 65536 := by simp [Lit.wf, IntKind.min, IntKind.max, IntKind.bits, IntKind.signed] at wm; omega
  refine (callsIn_wide.1 (mixRows_walk s k t a m hm W)).mono fun e W' ⟨he, hb⟩ => ?_
  subst he
  exact ⟨_, rfl, Lw.post_true laidOut (by kernel_rfl) rfl rfl rfl rfl (by kernel_rfl) Try.underlying4 hW' hb⟩

/-- MixRows: a tape's row begins with its draw, and goes on by mixing. -/
theorem mixRows_holds : Rows.MixRowsSaid :=
  OpenClaim.holds_of_wide 6 Try.f6 rfl rfl rfl rfl rfl rfl rfl ⟨rfl, rfl, rfl, rfl, rfl⟩ rfl rfl rfl rfl rfl (by kernel_rfl) Try.func6 (by kernel_rfl)
    (of_decide_eq_true (by kernel_rfl)) (by unfold Func.isWrapper; rw [if_neg (of_decide_eq_false (by kernel_rfl))]; exact ⟨rfl, rfl⟩)
    (fun os started H enc _ => mixRows_lifted os started H enc)
#print axioms mixRows_holds
end Go.Proofs.Ytolkpflbddplcaa
