/- The first number of a tape's sequence that is low enough. -/
import Derived.Test.YtolkpflbddplcaaRow
namespace Go.Proofs.Ytolkpflbddplcaa
open Go.RowKit Mx

/-- The last number that a draw below n lets pass. -/
def lastI (n : Int) : Int := 18446744073709551615 - 18446744073709551616 % n
theorem lastI_U64 {n : Int} (h1 : 1 ≤ n) (hn : U64 n) : U64 (lastI n) := by
  have a := Int.emod_nonneg 18446744073709551616 (show n ≠ 0 by omega)
  have b := Int.emod_lt_of_pos 18446744073709551616 (show 0 < n by omega)
  unfold U64 at hn ⊢
  unfold lastI
  omega
theorem lastI_neg {n : Int} (h1 : 1 ≤ n) (hn : U64 n) : IntKind.u64.wrap (18446744073709551615 - (IntKind.u64.wrap (-n)).tmod n) = lastI n := by
  have hl := lastI_U64 h1 hn
  have e : IntKind.u64.wrap (-n) = 18446744073709551616 - n := by
    rw [wrap_u64]; unfold U64 at hn; omega
  have h0 : 0 ≤ 18446744073709551616 - n := by unfold U64 at hn; omega
  rw [e, Int.tmod_eq_emod_of_nonneg h0]
  have em : (18446744073709551616 - n) % n = 18446744073709551616 % n := by
    rw [Int.sub_emod]; simp
  rw [em]
  exact hl.wrap
set_option maxHeartbeats 400000 in
theorem lastEven_any (n : Int) (h1 : 1 ≤ n) (hn : U64 n) (w : World) :
    Calls Try.prog 18 #[.int .u64 n] w fun e w' => e = .returned (.int .u64 (lastI n)) ∧ w = w' := by
  go_enter Try.func18, Try.ntmps18
  go_wp2
  go_ret
  refine ⟨?_, rfl⟩
  rw [← lastI_neg h1 hn]
  simp
/-- The draw below n of a sequence that begins with d: so many more numbers may be passed over; i is the next one's place. -/
def belowI (d n : Int) : Nat → Nat → Int
  | 0, i => rowI d i % n
  | f + 1, i => if rowI d i ≤ lastI n then rowI d i % n else belowI d n f (i + 1)
theorem belowI_found {d n : Int} {k : Nat} (hk : k ≤ 127) (hpre : ∀ i, i < k → lastI n < rowI d i) (hx : rowI d k ≤ lastI n ∨ k = 127) :
    ∀ m, m ≤ k → belowI d n (127 - (k - m)) (k - m) = rowI d k % n
  | 0, _ => by
    by_cases h : k = 127
    · subst h; rfl
    · have e : 127 - (k - 0) = (126 - k) + 1 := by omega
      have hl : rowI d k ≤ lastI n := by omega
      rw [e]
      simp [belowI, hl]
  | m + 1, h => by
    have ih := belowI_found hk hpre hx m (by omega)
    have e : 127 - (k - (m + 1)) = (127 - (k - m)) + 1 := by omega
    have hl : ¬ rowI d (k - (m + 1)) ≤ lastI n := by have := hpre (k - (m + 1)) (by omega); omega
    have e2 : k - (m + 1) + 1 = k - m := by omega
    rw [e]
    simp only [belowI, hl, if_false, e2]
    exact ih

attribute [local go_sem] Oper.semAt_some
/-- What the function's own variables hold. -/
def St (w : World) (n : Int) (r c : Int) (W : World) : Prop :=
  Boxed W w.heap.size 22 (.int .u64 n) ∧ Boxed W (w.heap.size + 1) 22 (.int .u64 r) ∧ Boxed W (w.heap.size + 1 + 1) 22 (.int .u64 (lastI n)) ∧ Boxed W (w.heap.size + 1 + 1 + 1) 3 (.int .i64 c) ∧ Below w.heap.size w W
theorem st_own {β : Type} {B : Nat} (w : World) (n : Int) (r c : β → Int) (hB : w.heap.size ≤ B) : OwnFrom B (fun s W => St w n (r s) (c s) W) := by
  unfold St
  exact OwnFrom.and ((boxed_own _ 22 (fun _ => .int .u64 n)).from _) (OwnFrom.and ((boxed_own _ 22 (fun s => .int .u64 (r s))).from _)
    (OwnFrom.and ((boxed_own _ 22 (fun _ => .int .u64 (lastI n))).from _) (OwnFrom.and ((boxed_own _ 3 (fun s => .int .i64 (c s))).from _) (ownFrom_below (Nat.le_refl _) hB))))
/-- What is left of the last one, divided by n. -/
def resOf (n : Int) (pre : List N64) : Int := (pre.getLast?.map (fun x => x.1 % n)).getD 0
theorem resOf_snoc (n : Int) (pre : List N64) (x : N64) : resOf n (pre ++ [x]) = x.1 % n := by simp [resOf]
/-- All were too high, and more may come. -/
def High (n : Int) (pre : List N64) : Prop := pre.length < 128 ∧ ∀ x ∈ pre, lastI n < x.1
/-- The last one is taken. -/
def Taken (n : Int) (c : Code) (pre : List N64) : Prop := c = .ret ∧ ∃ p x, pre = p ++ [x] ∧ High n p ∧ (x.1 ≤ lastI n ∨ p.length = 127)
theorem St.bump {w W : World} {n r c : Int} (h : St w n r c W) (c' : Int) : St w n r c' (W.setCell ⟨w.heap.size + 1 + 1 + 1, 0, none⟩ (.int .i64 c')) := by
  obtain ⟨b0, b1, b2, b3, hb⟩ := h
  exact ⟨b0.other (by omega) _, b1.other (by omega) _, b2.other (by omega) _, b3.set _, hb.setCell (p := ⟨w.heap.size + 1 + 1 + 1, 0, none⟩) (by show w.heap.size ≤ w.heap.size + 1 + 1 + 1; omega) _⟩
theorem St.put {w W : World} {n r c : Int} (h : St w n r c W) (r' : Int) : St w n r' c (W.setCell ⟨w.heap.size + 1, 0, none⟩ (.int .u64 r')) := by
  obtain ⟨b0, b1, b2, b3, hb⟩ := h
  exact ⟨b0.other (by omega) _, b1.set _, b2.other (by omega) _, b3.other (by omega) _, hb.setCell (p := ⟨w.heap.size + 1, 0, none⟩) (by show w.heap.size ≤ w.heap.size + 1; omega) _⟩
theorem St.below {w W : World} {n r c : Int} (h : St w n r c W) : Below w.heap.size w W := h.2.2.2.2
theorem High.snoc {n : Int} {pre : List N64} {x : N64} (hl : pre.length < 127) (h : ∀ y ∈ pre, lastI n < y.1) (hx : lastI n < x.1) : High n (pre ++ [x]) :=
  ⟨by simp; omega, fun y hy => by
    rcases List.mem_append.1 hy with hy | hy
    · exact h y hy
    · simp at hy; subst hy; exact hx⟩
/-- Behind the loop the last one is the draw. -/
theorem taken_is {d n : Int} {p : List N64} {x : N64} (hf : FirstOf d (p ++ [x])) (hh : High n p) (hx : x.1 ≤ lastI n ∨ p.length = 127) : x.1 % n = belowI d n 127 0 := by
  have ex : x.1 = rowI d p.length := by
    have := hf p.length (by simp)
    simpa using this
  have hp : ∀ i, i < p.length → lastI n < rowI d i := fun i hi => by
    have e := hf i (by simp; omega)
    rw [List.getElem_append_left hi] at e
    rw [← e]
    exact hh.2 _ (List.getElem_mem _)
  have hk : p.length ≤ 127 := by have := hh.1; omega
  have := belowI_found hk hp (by rw [ex] at hx; exact hx) p.length (Nat.le_refl _)
  rw [ex, ← this]
  simp
set_option maxHeartbeats 1000000 in
theorem first_any (s k t a n : Int) (b : Nat) (h1 : 1 ≤ n) (hn : U64 n) (w : World)
    (c0 : w.cell? ⟨b, 0, none⟩ = some (.int .u64 s)) (c1 : w.cell? ⟨b, 1, none⟩ = some (.int .u64 k)) (c2 : w.cell? ⟨b, 2, none⟩ = some (.int .u64 t)) (c3 : w.cell? ⟨b, 3, none⟩ = some (.int .u64 a)) :
    CallsIn Fence.wide 3 Try.prog 16 #[.func (.func 17) #[] #[.pointer (some ⟨b, 0, none⟩)], .int .u64 n] w fun e w' => e = .returned (.int .u64 (belowI (drawI s k t a) n 127 0)) ∧ Below w.heap.size w w' := by
  refine callsIn_of_wp_marks Try.func16 rfl trivial ?_ rfl
  simp only [Try.ntmps16, List.size_toArray, List.length_cons, List.length_nil, Nat.reduceAdd, Nat.reduceSub, Array.replicate_succ, Array.replicate_zero, List.push_toArray, List.append_toArray, List.nil_append, List.cons_append]
  gi_wp2_with ((refine ⟨trivial, ?_⟩); (refine (callsIn_wide.2 (lastEven_any _ h1 hn _)).mono ?_); rintro e w' ⟨rfl, rfl⟩)
  obtain ⟨W0, hW0⟩ : ∃ W0, ((((w.alloc (.cells #[.int .u64 n] 22)).alloc (.cells #[.int .u64 0] 22)).alloc (.cells #[.int .u64 (lastI n)] 22)).alloc (.cells #[.int .i64 0] 3)) = W0 := ⟨_, rfl⟩
  have hb0 : Below w.heap.size w W0 := by
    rw [← hW0]; exact ((((Below.refl _ w).alloc (Nat.le_refl _) _).alloc (by simp) _).alloc (by simp; omega) _).alloc (by simp; omega) _
  have hst : St w n 0 0 W0 := by
    refine ⟨?_, ?_, ?_, ?_, hb0⟩ <;> rw [← hW0]
    · exact (((Boxed.new w 22 _).alloc _).alloc _).alloc _
    · have := (((Boxed.new (w.alloc (.cells #[.int .u64 n] 22)) 22 (.int .u64 0)).alloc (.cells #[.int .u64 (lastI n)] 22)).alloc (.cells #[.int .i64 0] 3))
      simpa using this
    · have := ((Boxed.new ((w.alloc (.cells #[.int .u64 n] 22)).alloc (.cells #[.int .u64 0] 22)) 22 (.int .u64 (lastI n))).alloc (.cells #[.int .i64 0] 3))
      simpa using this
    · have := (Boxed.new (((w.alloc (.cells #[.int .u64 n] 22)).alloc (.cells #[.int .u64 0] 22)).alloc (.cells #[.int .u64 (lastI n)] 22)) 3 (.int .i64 0))
      simpa using this
  rw [hW0]
  have hle := hb0.size
  have hn' : 0 < n := by omega
  refine Rg.range_endless rfl (by omega) (gf := 17) (lb := #[.pointer (some ⟨b, 0, none⟩)]) rfl trivial (enters_of Try.func17 (by kernel_rfl) rfl) (n₀ := w.heap.size) hle
    (row_endless 2 (by omega) s k t a b 128 _ W0 (bcell hb0 c0) (bcell hb0 c1) (bcell hb0 c2) (bcell hb0 c3)) (fun _ => rfl)
    (fun (pre : List N64) W => High n pre ∧ St w n 0 pre.length W)
    (fun c (pre : List N64) W => Taken n c pre ∧ St w n (resOf n pre) pre.length W)
    (OwnFrom.and (ownFrom_pure _ _) (st_own w n (fun _ => 0) (fun (pre : List N64) => pre.length) hle))
    (fun c => OwnFrom.and (ownFrom_pure _ _) (st_own w n (fun (pre : List N64) => resOf n pre) (fun (pre : List N64) => pre.length) hle))
    (fun pre W h => h.1.1) ⟨⟨by simp, fun x h => by cases h⟩, hst⟩
    (fun (x : N64) => { tmps := #[.func (.func 17) #[] #[.pointer (some ⟨b, 0, none⟩)], .int .u64 n, undef, .pointer (some ⟨w.heap.size, 0, none⟩), .pointer (some ⟨w.heap.size + 1, 0, none⟩), .pointer (some ⟨w.heap.size + 1 + 1, 0, none⟩), .pointer (some ⟨w.heap.size + 1 + 1 + 1, 0, none⟩), .int .u64 x.1, .int .u64 n, .int .u64 (lastI n), .func (.func 17) #[] #[.pointer (some ⟨b, 0, none⟩)], .int .u64 x.1, undef, undef, undef, undef, undef, undef, undef, undef, undef, undef, undef, undef], defers := [] }) ?assign ?body ?stop
  case assign =>
    intro l x W K hK
    gi_wp2
    exact hK
  case body =>
    rintro l pre x W ⟨hh, b0, b1, b2, b3, hb⟩
    obtain ⟨hlen, hall⟩ := hh
    have HA := Lib.hid hall
    have e0 := b0.cell
    have e1 := b1.cell
    have e2 := b2.cell
    have e3 := b3.cell
    have f1 := b1.frozen
    have f3 := b3.frozen
    have hx0 : 0 ≤ x.1 := x.2.1
    have hl0 : 0 ≤ lastI n := (lastI_U64 h1 hn).1
    clear hall hst hb0 hW0 c0 c1 c2 c3 hn
    have hS : St w n 0 pre.length W := ⟨b0, b1, b2, b3, hb⟩
    have HS := Lib.hid hS
    clear hS b0 b1 b2 b3 hb
    by_cases hc : x.1 ≤ lastI n
    · gi_wp2
      have h2 := (HS.out.bump (pre.length + 1)).put (x.1 % n)
      exact ⟨(KeepsOthers.setCell _ _ _).trans (KeepsOthers.setCell _ _ _), ⟨rfl, pre, x, rfl, ⟨hlen, HA.out⟩, .inl hc⟩, by rw [resOf_snoc]; simpa using h2⟩
    · by_cases h7 : pre.length = 127
      · have hge : 127 ≤ pre.length := by omega
        clear h7
        gi_wp2
        have h2 := (HS.out.bump (pre.length + 1)).put (x.1 % n)
        exact ⟨(KeepsOthers.setCell _ _ _).trans (KeepsOthers.setCell _ _ _), ⟨rfl, pre, x, rfl, ⟨hlen, HA.out⟩, .inr (by omega)⟩, by rw [resOf_snoc]; simpa using h2⟩
      · have hlt : pre.length < 127 := by omega
        clear h7
        gi_wp2
        have h2 := HS.out.bump (pre.length + 1)
        exact ⟨KeepsOthers.setCell _ _ _, (Below.refl w.heap.size W).setCell (p := ⟨w.heap.size + 1 + 1 + 1, 0, none⟩) (by show w.heap.size ≤ w.heap.size + 1 + 1 + 1; omega) _, High.snoc hlt HA.out (by omega), by simpa using h2⟩
  case stop =>
    rintro D c pre W hD hpre ⟨⟨rfl, p, x, rfl, hh, hx⟩, hS⟩ hK
    gi_wp2
    refine ⟨by simp, .inl ⟨_, _, rfl, run_takeDeferred hK, ?_⟩⟩
    have hc5 := cell_kept hS.2.1.cell (grownBy_putObj' _ D (.deferred none)) (fun r e => by cases e; exact ⟨_, hK, rfl⟩)
    rw [resOf_snoc, taken_is hpre hh hx] at hc5
    refine ⟨.int .u64 (belowI (drawI s k t a) n 127 0), ?_, rfl, hS.below.trans (belowK_b (w := w) (Nat.le_refl _) W D _ _ (by omega) hK rfl rfl)⟩
    simp [results, Try.f16, go_sem, hc5]
end Go.Proofs.Ytolkpflbddplcaa
