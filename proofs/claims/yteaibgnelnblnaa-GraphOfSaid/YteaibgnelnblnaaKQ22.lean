/- Texts put together, for a law: MmJ, GqA, GqB, MmK, MmL, MsS, GqD, GqR, MsK, MRows, MsL, GqC, GqI, GqK, GqJ. -/
import Derived.OneCell
import Derived.Maps.AppendAt
import Derived.Test.YteaibgnelnblnaaKQ21
import Derived.Test.YteaibgnelnblnaaKQ13
import Derived.Test.YteaibgnelnblnaaKQ19
import Derived.Test.YteaibgnelnblnaaKQ16
import Derived.Test.YteaibgnelnblnaaKQ9
import Derived.Test.YteaibgnelnblnaaKQ3
import Derived.Test.YteaibgnelnblnaaKQ2
import Derived.Test.YteaibgnelnblnaaKQ8
section
namespace Go.Proofs.Yteaibgnelnblnaa
open Go.RowKit Me Tx Ed Mg Va

theorem mrow_info : (Try.prog.info? 51).map (fun i => (i.zero, i.size, i.bytes)) = some (some (.agg #[.int .u32 0, .slice none 0 0]), 2, 32) := by kernel_rfl
theorem RwAt.kept {T : Nat → Prop} {w w' : World} {lo : Nat} {p : RwV} {r : RwD} (h : RwAt w lo w.heap.size p r) (ho : Out T w w') (hT : 0 < r.2.length → ∀ a, p.2.1 = some a → ¬ T a.block) : RwAt w' lo w'.heap.size p r :=
  { h with arcs := ⟨fun hn => by
      obtain ⟨a, e, hb, hc⟩ := h.arcs.1 hn
      exact ⟨a, e, Nat.lt_of_lt_of_le hb ho.size, fun i v hv => (ho.cell (by rw [block_add]; exact hb) (by rw [block_add]; exact hT (by rw [arcCells_length] at hn; omega) a e)).trans (hc i v hv)⟩, h.arcs.2⟩ }
/-- The rows that have come so far: a box L, a row of one's own, none of it the iterator's. -/
structure ColX (O : Nat → Prop) (B0 B L : Nat) (pre : List RwD) (W : World) (A : Option Addr) (n c : Nat) (vs : List RwV) : Prop where
  box : Blk W L [.slice A n c]
  own : W.ownsRow B0 51 2 (.slice A n c) n (rvCells vs)
  off : (Value.slice A n c).ownBlock ≠ some L
  len : vs.length = pre.length
  num : pre.length = n
  free : ∀ k, (Value.slice A n c).ownBlock = some k → ¬ O k
  rows : ∀ (i : Nat) (p : RwV) (r : RwD), vs[i]? = some p → pre[i]? = some r → RwAt W B W.heap.size p r ∧ (0 < r.2.length → ∀ a, p.2.1 = some a → ¬ O a.block ∧ (Value.slice A n c).ownBlock ≠ some a.block)
theorem ColX.stay {O O' : Nat → Prop} {B0 B L : Nat} {pre : List RwD} {W W' : World} {A : Option Addr} {n c : Nat} {vs : List RwV} (h : ColX O B0 B L pre W A n c vs) (ho : Out O W W') (hk : ∀ k, O' k → O k ∨ W.heap.size ≤ k) (hL : ¬ O L) : ColX O' B0 B L pre W' A n c vs := by
  refine ⟨h.box.out ho hL, own_out h.own ho h.free, h.off, h.len, h.num, fun k hk' hO => ?_, fun i p r hp hr => ?_⟩
  · rcases hk k hO with e | e
    · exact h.free k hk' e
    · have := (h.own.lt k hk').2; omega
  · obtain ⟨h1, h2⟩ := h.rows i p r hp hr
    refine ⟨h1.kept ho fun hn a e => (h2 hn a e).1, fun hn a e => ⟨fun hO => ?_, (h2 hn a e).2⟩⟩
    rcases hk _ hO with e' | e'
    · exact (h2 hn a e).1 e'
    · obtain ⟨a', e2, hlt, -⟩ := h1.arcs.1 (by rw [arcCells_length]; omega)
      rw [e] at e2
      injection e2 with e2
      subst e2
      omega
/-- A row more. -/
theorem ColX.push {O : Nat → Prop} {B0 B L : Nat} {pre : List RwD} {W W6 : World} {A A7 : Option Addr} {n c d7 : Nat} {vs : List RwV} {p : RwV} {r : RwD} (h : ColX O B0 B L pre W A n c vs) (hL : L < B) (hr : RwAt W B W.heap.size p r) (hrO : 0 < r.2.length → ∀ a, p.2.1 = some a → ¬ O a.block) (hrA : ∃ lo, W.ownsRow lo 55 2 (.slice p.2.1 p.2.2.1 p.2.2.2) p.2.2.1 (arcCells r.2))
    (hO : ∀ k, O k → k < W.heap.size) (ho : W6.ownsRow B0 51 2 (.slice A7 (n + 1) d7) (n + 1) (rvCells vs ++ [.int .u32 (p.1 : Int), .slice p.2.1 p.2.2.1 p.2.2.2])) (hg : W.grownBy W6 (Value.slice A n c).ownBlock) (hn : (Value.slice A7 (n + 1) d7).ownBlock = (Value.slice A n c).ownBlock ∨ (Value.slice A7 (n + 1) d7).ownBlock = some W.heap.size) :
    ColX O B0 B L (pre ++ [r]) (W6.setCell ⟨L, 0, none⟩ (.slice A7 (n + 1) d7)) A7 (n + 1) d7 (vs ++ [p]) ∧ Out (fun k => k = L ∨ (B0 ≤ k ∧ ¬ O k)) W (W6.setCell ⟨L, 0, none⟩ (.slice A7 (n + 1) d7)) := by
  have hLn : (Value.slice A n c).ownBlock ≠ some L := h.off
  have hLs : L < W.heap.size := h.box.lt
  have og : Out (fun k => (Value.slice A n c).ownBlock = some k) W W6 := Out.of_grown hg fun k e _ => e
  have oc : Out (fun k => k = L) W6 (W6.setCell ⟨L, 0, none⟩ (.slice A7 (n + 1) d7)) := (Out.refl (fun k => k = L) W6).setCell (p := ⟨L, 0, none⟩) (.inl rfl) _
  have ok : Out (fun k => (Value.slice A n c).ownBlock = some k ∨ k = L) W (W6.setCell ⟨L, 0, none⟩ (.slice A7 (n + 1) d7)) := (og.more fun k _ e => .inl e).trans (oc.more fun k _ e => .inr e)
  have hLB : ∀ {q : RwV} {s : RwD}, RwAt W B W.heap.size q s → ∀ a, q.2.1 = some a → a.block ≠ L := fun hq a e => by have := hq.low a e; omega
  have hrn : 0 < r.2.length → ∀ a, p.2.1 = some a → (Value.slice A n c).ownBlock ≠ some a.block := fun h0 a e e2 => by
    obtain ⟨lo, ha⟩ := hrA
    have hl := hr.len
    obtain ⟨g, cap, hf, -, -⟩ := ha.form (by omega)
    rw [e] at hf ha
    injection hf with f1 f2 f3
    injection f1 with f1
    subst f1
    exact own_apart h.own ha (by decide) e2 rfl
  have hnew : ∀ k, k < W.heap.size → (Value.slice A n c).ownBlock ≠ some k → (Value.slice A7 (n + 1) d7).ownBlock ≠ some k := fun k hk hne e => by
    rcases hn with e' | e'
    · rw [e'] at e; exact hne e
    · rw [e'] at e; injection e with e; omega
  have hlt : ∀ {q : RwV} {s : RwD}, RwAt W B W.heap.size q s → 0 < s.2.length → ∀ a, q.2.1 = some a → a.block < W.heap.size := fun hq h0 a e => by
    obtain ⟨a', e2, hlt, -⟩ := hq.arcs.1 (by rw [arcCells_length]; omega)
    rw [e] at e2
    injection e2 with e2
    subst e2
    exact hlt
  refine ⟨⟨?_, ?_, hnew L hLs hLn, by rw [List.length_append, List.length_append, h.len]; rfl, by rw [List.length_append, h.num]; rfl, fun k hk hO' => ?_, fun i q s hq hs => ?_⟩, ok.more fun k _ e => ?_⟩
  · exact (h.box.grown hg hLn).set 0 _
  · rw [rvCells_append]
    exact ownsRow_setCell_other ho (a := ⟨L, 0, none⟩) (hnew L hLs hLn) _
  · rcases hn with e | e
    · rw [e] at hk; exact h.free k hk hO'
    · rw [e] at hk; injection hk with hk; have := hO k hO'; omega
  · rcases Nat.lt_or_ge i vs.length with hi | hi
    · rw [List.getElem?_append_left hi] at hq
      rw [List.getElem?_append_left (by rw [← h.len]; exact hi)] at hs
      obtain ⟨h1, h2⟩ := h.rows i q s hq hs
      refine ⟨h1.kept ok fun h0 a e => ?_, fun h0 a e => ⟨(h2 h0 a e).1, hnew _ (hlt h1 h0 a e) (h2 h0 a e).2⟩⟩
      rintro (e' | e')
      · exact (h2 h0 a e).2 e'
      · exact hLB h1 a e e'
    · rw [List.getElem?_append_right hi] at hq
      rw [List.getElem?_append_right (by rw [← h.len]; exact hi), ← h.len] at hs
      rcases Nat.eq_zero_or_pos (i - vs.length) with h0 | h0
      · rw [h0] at hq hs
        injection hq with hq
        injection hs with hs
        subst hq hs
        refine ⟨hr.kept ok fun h0 a e => ?_, fun h0 a e => ⟨hrO h0 a e, hnew _ (hlt hr h0 a e) (hrn h0 a e)⟩⟩
        rintro (e' | e')
        · exact hrn h0 a e e'
        · exact hLB hr a e e'
      · obtain ⟨j, hj⟩ : ∃ j, i - vs.length = j + 1 := ⟨i - vs.length - 1, by omega⟩
        rw [hj] at hq
        simp at hq
  · rcases e with e | e
    · exact .inr ⟨(h.own.lt k e).1, h.free k e⟩
    · exact .inl e
end Go.Proofs.Yteaibgnelnblnaa
end
section
namespace Go.Proofs.Yteaibgnelnblnaa
open Go.RowKit Me Tx Ed Mg Va

theorem len_sumOf : ∀ (l : List ArcD) (least : Nat), rises least l = true → l.length ≤ sumOf l
  | [], _, _ => Nat.le_refl _
  | p :: l, least, h => by
    unfold rises at h
    rw [Bool.and_eq_true] at h
    have h1 := len_sumOf l _ h.2
    have h2 : p.weight ≠ 0 := by
      have := h.1
      simp at this
      exact this.2
    rw [List.length_cons, sumOf]
    omega
theorem may_few {l : List ArcD} (h : may l = true) : l.length ≤ 2147483647 := by
  unfold may at h
  rw [Bool.and_eq_true] at h
  have := len_sumOf l 0 h.1
  have := of_decide_eq_true h.2
  omega
theorem may_rises {l : List ArcD} (h : may l = true) : rises 0 l = true := by
  unfold may at h
  rw [Bool.and_eq_true] at h
  exact h.1
/-- A row in memory, whatever is written elsewhere. -/
theorem RwAt.off {T : Nat → Prop} {w w' : World} {lo hi : Nat} {p : RwV} {r : RwD} (h : RwAt w lo hi p r) (hi' : hi ≤ w.heap.size) (ho : Out T w w') (hT : ∀ k, T k → k < lo ∨ hi ≤ k) : RwAt w' lo hi p r :=
  { h with arcs := ⟨fun hn => by
      obtain ⟨a, e, hb, hc⟩ := h.arcs.1 hn
      exact ⟨a, e, hb, fun i v hv => (ho.cell (by rw [block_add]; omega) (by rw [block_add]; intro t; have := hT _ t; have := h.low a e; omega)).trans (hc i v hv)⟩, h.arcs.2⟩ }
theorem RowsAt.off {T : Nat → Prop} {w w' : World} {lo hi : Nat} {L : Option Addr} {l : List RwD} (h : RowsAt w lo hi L l) (hi' : hi ≤ w.heap.size) (ho : Out T w w') (hT : ∀ k, T k → k < lo ∨ hi ≤ k) : RowsAt w' lo hi L l := by
  obtain ⟨vs, h1, h2, h3⟩ := h.ex
  refine ⟨⟨vs, fun hn => ?_, h2, fun i p r hp hr => (h3 i p r hp hr).off hi' ho hT⟩, h.low⟩
  obtain ⟨a, e, hb, hc⟩ := h1 hn
  have hl : 0 < l.length := by rw [rvCells_length] at hn; omega
  exact ⟨a, e, hb, fun i v hv => (ho.cell (by rw [block_add]; omega) (by rw [block_add]; intro t; have := hT _ t; have := h.low hl a e; omega)).trans (hc i v hv)⟩
/-- A graph in memory, between two blocks: its rows' slice. -/
structure GrAt (w : World) (lo hi : Nat) (g : Option Addr) (A : Option Addr) (n c : Nat) (l : List RwD) : Prop where
  ptr : (g = none ∧ A = none ∧ n = 0 ∧ c = 0) ∨ ∃ b, g = some ⟨b, 0, none⟩ ∧ lo ≤ b ∧ b < hi ∧ Blk w b [.slice A n c]
  rows : RowsAt w lo hi A l
  len : l.length = n
  cap : n ≤ c ∧ c ≤ 9223372036854775807
  ok : GOk l
  few : n ≤ 1000000 ∧ (edgesG l).length ≤ 1000000
  top : hi ≤ w.heap.size
theorem GrAt.none (w : World) (lo : Nat) : GrAt w lo w.heap.size none none 0 0 [] := ⟨.inl ⟨rfl, rfl, rfl, rfl⟩, RowsAt.nil, rfl, ⟨Nat.le_refl _, by omega⟩, GOk.nil, ⟨by omega, by simp [edgesG]⟩, Nat.le_refl _⟩
theorem GrAt.out {T : Nat → Prop} {w w' : World} {lo hi : Nat} {g A : Option Addr} {n c : Nat} {l : List RwD} (h : GrAt w lo hi g A n c l) (ho : Out T w w') (hT : ∀ k, T k → k < lo ∨ hi ≤ k) : GrAt w' lo hi g A n c l :=
  { h with
    ptr := h.ptr.imp id fun ⟨b, e, h1, h2, h3⟩ => ⟨b, e, h1, h2, h3.out ho fun t => by have := hT b t; omega⟩
    rows := h.rows.off h.top ho hT
    top := Nat.le_trans h.top ho.size }
theorem GrAt.past {w w' : World} {lo hi : Nat} {g A : Option Addr} {n c : Nat} {l : List RwD} (h : GrAt w lo hi g A n c l) (hb : Below w.heap.size w w') : GrAt w' lo hi g A n c l := h.out (T := fun _ => False) (.of_below hb) fun _ h => h.elim
theorem GrAt.low {w : World} {lo lo' hi : Nat} {g A : Option Addr} {n c : Nat} {l : List RwD} (h : GrAt w lo hi g A n c l) (hl : lo' ≤ lo) : GrAt w lo' hi g A n c l :=
  { h with
    ptr := h.ptr.imp id fun ⟨b, e, h1, h2, h3⟩ => ⟨b, e, by omega, h2, h3⟩
    rows := by
      obtain ⟨vs, h1, h2, h3⟩ := h.rows.ex
      exact ⟨⟨vs, h1, h2, fun i p r hp hr => { h3 i p r hp hr with low := fun a e => Nat.le_trans hl ((h3 i p r hp hr).low a e) }⟩, fun h0 a e => Nat.le_trans hl (h.rows.low h0 a e)⟩ }
variable {w : World} {lo hi : Nat} {g A : Option Addr} {n c : Nat} {l : List RwD}
set_option maxRecDepth 100000 in
theorem list_any (h : GrAt w lo hi g A n c l) : Calls Try.prog 35 #[.pointer g] w fun e w' => e = .returned (.slice A n c) ∧ w' = w := by
  rcases h.ptr with ⟨rfl, rfl, rfl, rfl⟩ | ⟨b, rfl, h1, h2, h3⟩
  · clear h
    go_enter Try.func35, Try.ntmps35
    go_wp2
    go_ret
    exact ⟨rfl, rfl⟩
  · have c0 := h3.cell (i := 0) rfl
    clear h h3
    go_enter Try.func35, Try.ntmps35
    go_wp2
    go_ret
    exact ⟨rfl, rfl⟩
set_option maxRecDepth 100000 in
theorem glen_any (h : GrAt w lo hi g A n c l) : Calls Try.prog 11 #[.pointer g] w fun e w' => e = .returned (.int .i64 (n : Int)) ∧ w' = w := by
  have HC := Lib.hid (list_any h)
  clear h
  go_enter Try.func11, Try.ntmps11
  go_wp2_with fail
  refine HC.out.mono ?_
  rintro e w1 ⟨rfl, rfl⟩
  go_wp2
  go_ret
  exact ⟨rfl, rfl⟩
/-- Arcs, in memory of their own. -/
def NewA (w : World) (l : List ArcD) (e : Ending) (w' : World) : Prop :=
  ∃ A n c, e = .returned (.slice A n c) ∧ l.length = n ∧ w'.ownsRow w.heap.size 55 2 (.slice A n c) n (arcCells l) ∧ Below w.heap.size w w'
set_option maxRecDepth 100000 in
set_option maxHeartbeats 1000000 in
theorem aclone_any (A : Option Addr) (n c : Nat) (l : List ArcD) (w : World) (hl : l.length = n) (hn : n ≤ 2147483647) (hr : Arcs w w.heap.size A l) :
    Calls Try.prog 37 #[.slice A n c] w (NewA w l) := by
  obtain ⟨i0, hi0, hz0, hz1, hz2⟩ := info_parts marc_info
  have q22 : ∀ (w : World) (a : Option Addr) (n c n' c' : Nat), (binOp .eql 36 (.slice a n c) (.slice none n' c')).run Try.prog w = .ok (.bool a.isNone) w := fun w a n c n' c' => Lib.run_eql_slice_nil w _ _ a n c n' c' Try.underlying36
  cases A with
  | none =>
    have h0 : l = [] := by
      rcases Nat.eq_zero_or_pos l.length with h0 | h0
      · exact List.eq_nil_of_length_eq_zero h0
      · obtain ⟨a, e, _⟩ := hr.1 (by rw [arcCells_length]; omega)
        cases e
    subst h0
    have HN := Lib.hid hl
    clear hl hr
    go_enter Try.func37, Try.ntmps37
    go_wp2
    go_ret
    have := HN.out
    exact ⟨none, 0, 0, rfl, rfl, World.ownsRow_nil _ _ _ _, Below.refl _ _⟩
  | some a =>
    have hb0 : Below w.heap.size w (w.alloc (.cells #[] 55)) := (Below.refl _ _).alloc (Nat.le_refl _) _
    have HL := Lib.hid hl
    have HLN := Lib.hid (show (arcCells l).length = n * 2 by rw [arcCells_length, hl])
    have HRR := Lib.hid (show ∀ j u, (arcCells l)[j]? = some u → (w.alloc (.cells #[] 55)).cell? (a.add j) = some u from fun j u hu => by
      obtain ⟨a', e, hb, hc⟩ := hr.1 (by have := (List.getElem?_eq_some_iff.1 hu).1; omega)
      injection e with e
      subst e
      exact (hb0.cell (by rw [block_add]; exact hb)).trans (hc j u hu))
    have HM1 := Lib.hid (show 0 + n ≤ maxLen ∧ (0 + n) * 8 ≤ 140737488355328 by unfold maxLen; omega)
    have HO0 := Lib.hid (show (w.alloc (.cells #[] 55)).ownsRow w.heap.size 55 2 (.slice (some ⟨w.heap.size, 0, none⟩) 0 0) 0 [] from ⟨rfl, .inr ⟨w.heap.size, 0, #[], rfl, Nat.le_refl _, heap_alloc_new w _, Nat.le_refl _, by decide, rfl, rfl⟩⟩)
    have HB0 := Lib.hid hb0
    clear hl hr hb0
    go_enter Try.func37, Try.ntmps37
    go_wp2_with (at_builtin
                 go_loud (refine wpList_append_own_at _ rfl (.tmp 5) (.tmp 6) 36 rfl w.heap.size 55 i0 _ 2 8 Try.underlying36 hi0 hz0 hz1 hz2 rfl (by decide) (.slice (some ⟨w.heap.size, 0, none⟩) 0 0) 0 [] rfl HO0.out a n c (arcCells l) rfl HLN.out HRR.out arcCells_one HM1.out.1 HM1.out.2 HB0.out.size ?_)
                 intro v2 w3 hown2 hg2 hnn2 hn2
                 refine Classical.byContradiction fun hcontra => ?_)
    obtain ⟨A7, c7, hv7, -⟩ := own_slice' hown2
    subst hv7
    rw [Nat.zero_add, List.nil_append] at hown2
    rw [Nat.zero_add] at hcontra
    have HB3 := Lib.hid (HB0.out.grown hg2 HB0.out.size (fun k e => by cases e; exact Nat.le_refl _))
    have HO7 := Lib.hid hown2
    clear hown2 hg2 hnn2 hn2
    apply hcontra
    clear hcontra
    go_wp2
    go_ret
    exact ⟨A7, n, c7, rfl, HL.out, HO7.out, HB3.out⟩
/-- A row, its arcs in memory of their own. -/
def NewR (w : World) (r : RwD) (e : Ending) (w' : World) : Prop :=
  ∃ A n c, e = .returned (.agg #[.int .u32 (r.1 : Int), .slice A n c]) ∧ r.2.length = n ∧ w'.ownsRow w.heap.size 55 2 (.slice A n c) n (arcCells r.2) ∧ Below w.heap.size w w'
end Go.Proofs.Yteaibgnelnblnaa
end
section
namespace Go.Proofs.Yteaibgnelnblnaa
open Go.RowKit Me Tx Ed Mg Va

/-- What is known of each slot where a row is copied. -/
def cpG (H K s : Nat) (A : Option Addr) (n c : Nat) (l : List ArcD) : Gw.Fact := fun t v W =>
  match t with
  | 1 | 3 => v = .pointer (some ⟨H, 0, none⟩)
  | 2 => v = .pointer (some ⟨H + 1, 0, none⟩)
  | 4 => v = .int .u32 (s : Int)
  | 5 => v = .pointer (some ⟨H, 1, none⟩)
  | 6 => v = .slice A n c
  | 7 => ∃ A' c', v = .slice A' n c' ∧ W.ownsRow K 55 2 (.slice A' n c') n (arcCells l)
  | 8 => ∃ A' c', v = .agg #[.int .u32 (s : Int), .slice A' n c'] ∧ W.ownsRow K 55 2 (.slice A' n c') n (arcCells l)
  | _ => True
set_option maxRecDepth 100000 in
set_option maxHeartbeats 1000000 in
theorem copy_any (s : Nat) (A : Option Addr) (n c : Nat) (l : List ArcD) (w : World) (hl : l.length = n) (hn : n ≤ 2147483647) (hr : Arcs w w.heap.size A l) :
    Calls Try.prog 57 #[.agg #[.int .u32 (s : Int), .slice A n c]] w (NewR w (s, l)) := by
  obtain ⟨H, hH⟩ : ∃ H, H = w.heap.size := ⟨_, rfl⟩
  obtain ⟨w2, hw2⟩ : ∃ w2, (w.alloc (.cells #[.int .u32 (s : Int), .slice A n c] 51)).alloc (.cells #[.int .u32 0, .slice none 0 0] 51) = w2 := ⟨_, rfl⟩
  have hb2 : Below w.heap.size w w2 := by rw [← hw2]; exact ((Below.refl _ _).alloc (Nat.le_refl _) _).alloc (by simp) _
  have hs2 : w2.heap.size = H + 2 := by rw [← hw2, hH]; simp
  have b0 : Blk w2 H [.int .u32 (s : Int), .slice A n c] := by rw [← hw2, hH]; exact (Blk.new w [.int .u32 (s : Int), .slice A n c] _).alloc _
  have b1 : Blk w2 (H + 1) [.int .u32 0, .slice none 0 0] := by rw [← hw2, hH]; exact Blk.new' (w.alloc _) [.int .u32 0, .slice none 0 0] _ (by simp)
  have HC := Lib.hid (show ∀ W, Below w2.heap.size w2 W → Calls Try.prog 37 #[.slice A n c] W (NewA W l) from fun W hW =>
    aclone_any A n c l W hl hn ((hr.below (hb2.trans (hW.mono hb2.size))).more (Nat.le_trans hb2.size hW.size)))
  have HHE := Lib.hid hH
  have HW2 := Lib.hid hw2
  have HS2 := Lib.hid hs2
  have HB2 := Lib.hid hb2
  have HB0 := Lib.hid b0
  have HB1 := Lib.hid b1
  have HL := Lib.hid hl
  clear hH hw2 hs2 hb2 b0 b1 hl hr
  go_enter Try.func57, Try.ntmps57
  go_wp2_with fail
  simp only [← HHE.out, World.size_alloc]
  rw [HW2.out]
  refine wp_region_tl 6 (cpG H (H + 2) s A n c l) [3, 4, 5, 6, 7, 8] [([1], none), ([3], none), ([1], none), ([5], none), ([6], none), ([4, 7], none)] 9 (by kernel_rfl) (by kernel_rfl) rfl ?h0 ?hreq rfl ?hend
  case h0 =>
    intro t W hnd _
    unfold cpG
    split <;> first | rfl | trivial | exact absurd (by simp) hnd
  case hreq =>
    refine ⟨?_, ?_, ?_, ?_, ?_, ?_, trivial⟩
    all_goals
      intro ac W hg hk
      have hg' : Below w2.heap.size w2 W := hg
      have z0 := (HB0.out.past hg').cell (i := 0) rfl
      have z1 := (HB0.out.past hg').cell (i := 1) rfl
      simp only [Gw.Knows, cpG] at hk
      try (simp [go_sem, Gw.OpReq, Gw.Ok, Gw.Post, Gw.Holds, cpG, Gw.Grows.refl, hk, z0, z1]; done)
    · simp [go_sem, Gw.OpReq, Gw.Ok, Gw.Post, Gw.Holds, cpG, hk]
      refine ⟨Gw.Grows.refl _, (HC.out W hg').mono ?_⟩
      rintro e W' ⟨A1, n1, c1, rfl, h1, h2, h3⟩
      rw [HL.out] at h1
      subst h1
      exact ⟨_, rfl, h3, fun W2 hW2 => ⟨A1, c1, rfl, own_below' (own_more h2 (by have := hg'.size; have := HS2.out; omega)) hW2⟩⟩
    · obtain ⟨e4, ⟨A1, c1, e7, h7⟩, -⟩ := hk
      simp [go_sem, Gw.OpReq, Gw.Ok, Gw.Post, Gw.Holds, cpG, e4, e7]
      exact ⟨Gw.Grows.refl _, fun W2 hW2 => ⟨A1, c1, ⟨rfl, rfl⟩, own_below' h7 hW2⟩⟩
  case hend =>
    intro y w3 hg hy
    have hg' : Below w2.heap.size w2 w3 := hg
    obtain ⟨A1, c1, y8, ho8⟩ : ∃ A' c', y 8 = .agg #[.int .u32 (s : Int), .slice A' n c'] ∧ w3.ownsRow (H + 2) 55 2 (.slice A' n c') n (arcCells l) := (hy 8 (by simp)).now
    simp only [Gw.putAll, Act.put, List.setIfInBounds_toArray, List.set_cons_zero, List.set_cons_succ]
    rw [y8]
    refine tl_store 51 (.tmp 2) (.tmp 8) rfl (H + 1) [.int .u32 0, .slice none 0 0] #[.int .u32 (s : Int), .slice A1 n c1] rfl rfl (HB1.out.past hg') rfl (by kernel_rfl) (by simp [Value.oneCell']) ?_
    intro w4 hb4 ho4
    refine tl_nil ?_
    have r0 := hb4.cell (i := 0) rfl
    have r1 := hb4.cell (i := 1) rfl
    have FIN := Lib.hid (show NewR w (s, l) (.returned (.agg #[.int .u32 (s : Int), .slice A1 n c1])) w4 from
      ⟨A1, n, c1, rfl, HL.out, own_more (own_out ho8 ho4 (fun k hk e => by have := (ho8.lt k hk).1; have e : k = H + 1 := e; omega)) (by rw [← HHE.out]; omega), by
        have h3 := HB2.out.trans (hg'.mono HB2.out.size)
        exact h3.trans (ho4.below (fun k _ e => by have e : k = H + 1 := e; have := HHE.out; omega) h3.size)⟩)
    clear hg hy hg' ho8 hb4 ho4 y8
    go_wp2
    refine bodyPost_ret (v := .agg #[.int .u32 (s : Int), .slice A1 n c1]) (by simp [results, Try.results57, go_sem, r0, r1]) rfl ?_
    exact FIN.out
end Go.Proofs.Yteaibgnelnblnaa
end
section
namespace Go.Proofs.Yteaibgnelnblnaa
open Go.RowKit Me Tx Ed Mg Va

theorem goK_keys (keys : List (List UInt8)) : keysG [] none keys = if (goK [] none keys).2.2.2 = 0 then ((goK [] none keys).2.1, 0) else ([], (goK [] none keys).2.2.2) := keysG_go keys [] none
/-- The rows that are told, where no key has an error. -/
theorem tell_good {keys : List (List UInt8)} {pre post : List TellR} {x : TellR} (h : tellX keys = pre ++ x :: post) (hx : x.2 ≠ 0) : keysG [] none keys = ([], x.2) ∧ post = [] := by
  unfold tellX tellQ at h
  rw [goK_keys]
  split at h
  · rename_i h0
    have hm : x ∈ (rowM (goK [] none keys).2.1).map (fun r => ((r, 0) : TellR)) := by rw [h]; simp
    obtain ⟨r, -, hr⟩ := List.mem_map.1 hm
    rw [← hr] at hx
    exact absurd rfl hx
  · rename_i h0
    rw [if_neg h0]
    rcases List.eq_nil_or_concat post with hp | ⟨q, y, hp⟩
    · subst hp
      have h1 := List.append_inj_right' h rfl
      injection h1 with h1
      rw [← h1]
      exact ⟨rfl, rfl⟩
    · exfalso
      rw [hp] at h
      have h1 : told (goK [] none keys).2.1 = pre ++ x :: q := by
        have h2 : told (goK [] none keys).2.1 ++ [((0, []), (goK [] none keys).2.2.2)] = (pre ++ x :: q) ++ [y] := by rw [h]; simp
        exact List.append_inj_left' h2 rfl
      have hm : x ∈ told (goK [] none keys).2.1 := by rw [h1]; simp
      unfold told at hm
      obtain ⟨r, -, hr⟩ := List.mem_map.1 hm
      rw [← hr] at hx
      exact hx rfl
theorem tell_all {keys : List (List UInt8)} (h : ∀ x ∈ tellX keys, x.2 = 0) : ∃ rows, keysG [] none keys = (rows, 0) ∧ (tellX keys).map Prod.fst = rowM rows := by
  rw [goK_keys]
  unfold tellX tellQ at h ⊢
  by_cases h0 : (goK [] none keys).2.2.2 = 0
  · rw [if_pos h0] at h ⊢
    rw [if_pos h0]
    refine ⟨_, rfl, ?_⟩
    rw [List.map_map]
    exact List.map_id' _
  · rw [if_neg h0] at h
    have := h _ (List.mem_append_right _ (List.mem_singleton.2 rfl))
    exact absurd this h0
theorem goK_len : ∀ (l : List (List UInt8)) (rows : List RowR) (last : Option EdD), (goK rows last l).2.1.length ≤ rows.length + l.length
  | [], rows, last => Nat.le_refl _
  | b :: l, rows, last => by
    rw [goK]
    split
    · have h1 := goK_len l (addR (edB b) rows) (some (edB b))
      have h2 := addR_length (edB b) rows
      rw [List.length_cons]
      show (goK _ _ l).2.1.length ≤ _
      omega
    · exact Nat.le_add_right _ _
theorem tell_len (keys : List (List UInt8)) : (tellX keys).length ≤ keys.length + 1 := by
  have h := goK_len keys [] none
  unfold tellX tellQ
  split
  · rw [List.length_map, rowM_length]; simp at h; omega
  · unfold told
    rw [List.length_append, List.length_map, rowM_length, List.length_tail]
    simp at h
    show _ + 1 ≤ _
    omega
/-- Where a row is collected. -/
structure RsI (H : Nat) (w : World) (O : Nat → Prop) (pre : List TellR) (W : World) : Prop where
  ex : ∃ A n c vs, ColX O (H + 5) (H + 5) (H + 2) (pre.map Prod.fst) W A n c vs
  zero : ∀ x ∈ pre, x.2 = 0
  low : ∀ k, O k → H + 5 ≤ k
  b0 : Blk W H [.slice none 0 0]
  b1 : Blk W (H + 1) [.int .i64 0]
  size : H + 5 ≤ W.heap.size
  out : Below w.heap.size w W
theorem RsI.stays {H : Nat} {w : World} (hH : w.heap.size = H) : Ru.Stays (RsI H w) := by
  intro O O' pre W W' h ho hk
  obtain ⟨A, n, c, vs, hx⟩ := h.ex
  have hs5 := h.size
  refine ⟨⟨A, n, c, vs, hx.stay ho hk (fun e => by have := h.low _ e; omega)⟩, h.zero, fun k e => (hk k e).elim (h.low k) (fun e => by omega), h.b0.out ho (fun e => by have := h.low _ e; omega), h.b1.out ho (fun e => by have := h.low _ e; omega), Nat.le_trans hs5 ho.size, ?_⟩
  exact h.out.trans (ho.below (fun k _ e => by have := h.low k e; omega) h.out.size)
/-- A row that has been handed on, in memory. -/
structure HdAt (lo : Nat) (O : Nat → Prop) (x : TellR) (A1 : Option Addr) (n1 c1 : Nat) (R : Nat) (W : World) : Prop where
  row : RwAt W lo W.heap.size (x.1.1, A1, n1, c1) x.1
  free : 0 < x.1.2.length → ∀ a, A1 = some a → ¬ O a.block
  own : ∃ l, W.ownsRow l 55 2 (.slice A1 n1 c1) n1 (arcCells x.1.2)
  box : Blk W R [.int .u32 (x.1.1 : Int), .slice A1 n1 c1]
  low : lo ≤ R
theorem own_addr {W : World} {l n1 c1 k : Nat} {e : TypeId} {size : Nat} {A1 : Option Addr} {xs : List Value} (h : W.ownsRow l e size (.slice A1 n1 c1) n1 xs) (hk : (Value.slice A1 n1 c1).ownBlock = some k) : ∃ a, A1 = some a ∧ a.block = k := by
  rcases h.2 with ⟨e, -⟩ | ⟨g, cap, cur, e, -⟩
  · rw [e] at hk; cases hk
  · injection e with e1 e2 e3
    subst e1
    injection hk with hk
    exact ⟨_, rfl, hk⟩
theorem HdAt.out {lo : Nat} {O T : Nat → Prop} {x : TellR} {A1 : Option Addr} {n1 c1 R : Nat} {W W' : World} (h : HdAt lo O x A1 n1 c1 R W) (ho : Out T W W') (hT : ∀ k, T k → k < lo) : HdAt lo O x A1 n1 c1 R W' := by
  obtain ⟨l, hl⟩ := h.own
  refine ⟨h.row.out ho hT, h.free, ⟨l, own_out hl ho fun k hk e => ?_⟩, h.box.out ho (fun e => by have := hT _ e; have := h.low; omega), h.low⟩
  obtain ⟨a, ha, hb⟩ := own_addr hl hk
  have := h.row.low a ha
  have := hT k e
  omega
theorem hd_new {lo : Nat} {O : Nat → Prop} {x : TellR} {av : Array Value} {W : World} (h : eV lo (fun k => O k ∧ lo ≤ k) x av W) (hlo : lo ≤ W.heap.size) : ∃ A1 n1 c1, av = #[.agg #[.int .u32 (x.1.1 : Int), .slice A1 n1 c1], .int .i64 x.2] ∧ HdAt lo O x A1 n1 c1 W.heap.size (W.alloc (.cells #[.int .u32 (x.1.1 : Int), .slice A1 n1 c1] 51)) := by
  obtain ⟨A1, n1, c1, e, h1, h2, l, h3⟩ := h
  have hb : Below W.heap.size W (W.alloc (.cells #[.int .u32 (x.1.1 : Int), .slice A1 n1 c1] 51)) := (Below.refl _ _).alloc (Nat.le_refl _) _
  refine ⟨A1, n1, c1, e, (h1.below hb).more hb.size, fun h0 a ha hO => h2 a ha ⟨hO, h1.low a ha⟩, ⟨l, own_below' h3 hb⟩, Blk.new W [.int .u32 (x.1.1 : Int), .slice A1 n1 c1] _, hlo⟩
attribute [local go_sem] Oper.semAt_some
set_option maxRecDepth 100000 in
set_option maxHeartbeats 4000000 in
theorem mrows_any (A : Option Addr) (n c : Nat) (es : List Pc) (w : World) (hl : es.length = n) (hn : n ≤ 1000) (hr : BRows w w.heap.size A es) :
    Calls Try.prog 31 #[.slice A n c] w (KsPost w (keysG [] none (es.map (·.2)))) := by
  refine (callsIn_wide (n := 4)).1 ?_
  obtain ⟨H, hH⟩ : ∃ H, H = w.heap.size := ⟨_, rfl⟩
  obtain ⟨W5, hW5⟩ : ∃ W5, ((((w.alloc (.cells #[.slice none 0 0] 29)).alloc (.cells #[.int .i64 0] 26)).alloc (.cells #[.slice none 0 0] 29)).alloc (.cells #[.slice A n c] 61)).alloc (.cells #[.func (.func 79) #[] #[.pointer (some ⟨H + 3, 0, none⟩)]] 97) = W5 := ⟨_, rfl⟩
  have hs5 : W5.heap.size = H + 5 := by rw [← hW5, hH]; simp
  have hb5 : Below w.heap.size w W5 := by rw [← hW5]; exact (((((Below.refl _ _).alloc (Nat.le_refl _) _).alloc (by simp) _).alloc (by simp; omega) _).alloc (by simp; omega) _).alloc (by simp; omega) _
  have b0 : Blk W5 H [.slice none 0 0] := by rw [← hW5, hH]; exact ((((Blk.new w [.slice none 0 0] _).alloc _).alloc _).alloc _).alloc _
  have b1 : Blk W5 (H + 1) [.int .i64 0] := by rw [← hW5, hH]; exact (((Blk.new' (w.alloc _) [.int .i64 0] _ (by simp)).alloc _).alloc _).alloc _
  have b2 : Blk W5 (H + 2) [.slice none 0 0] := by rw [← hW5, hH]; exact ((Blk.new' ((w.alloc _).alloc _) [.slice none 0 0] _ (by simp)).alloc _).alloc _
  have b3 : Blk W5 (H + 3) [.slice A n c] := by rw [← hW5, hH]; exact (Blk.new' (((w.alloc _).alloc _).alloc _) [.slice A n c] _ (by simp)).alloc _
  have b4 : Blk W5 (H + 4) [.func (.func 79) #[] #[.pointer (some ⟨H + 3, 0, none⟩)]] := by rw [← hW5, hH]; exact Blk.new' ((((w.alloc _).alloc _).alloc _).alloc _) [_] _ (by simp)
  have hk5 : KeysFn W5 H (H + 3) (H + 4) (.func (.func 79) #[] #[.pointer (some ⟨H + 3, 0, none⟩)]) es := ⟨b4, .inr ⟨rfl, A, n, c, hl, by omega, b3, by rw [hH]; exact hr.below hb5⟩, by omega, by omega⟩
  have HG := Lib.hid (each_gives hk5 (by omega))
  have HI0 := Lib.hid (show ∀ O : Nat → Prop, (∀ k, O k → H + 5 ≤ k) → RsI H w O [] W5 from fun O hO => ⟨⟨none, 0, 0, [], ⟨b2, World.ownsRow_nil _ _ _ _, (by simp [Value.ownBlock]), rfl, rfl, fun k e => (by cases e), fun i p r h => (by simp at h)⟩⟩, fun x h => (by cases h), hO, b0, b1, by omega, hb5⟩)
  have HHE := Lib.hid hH
  have HW5 := Lib.hid hW5
  have HS5 := Lib.hid hs5
  have HL := Lib.hid hl
  clear hH hW5 hs5 hb5 b0 b1 b2 b3 b4 hk5 hl hr
  refine callsIn_of_wp_marks Try.func31 rfl trivial ?_ rfl
  simp only [Try.ntmps31, List.size_toArray, List.length_cons, List.length_nil, Nat.reduceAdd, Nat.reduceSub, Array.replicate_succ, Array.replicate_zero, List.push_toArray, List.append_toArray, List.nil_append, List.cons_append]
  gi_wp2_with fail
  refine ⟨trivial, (callsIn_wide.2 (values_any A n c _)).mono ?_⟩
  rintro e w' ⟨rfl, rfl⟩
  gi_wp2_with fail
  refine ⟨trivial, (callsIn_wide.2 (each_any _ rfl _)).mono ?_⟩
  rintro e w' ⟨rfl, rfl⟩
  simp only [World.size_alloc, ← HHE.out]
  rw [show H + 1 + 1 + 1 + 1 = H + 4 from rfl, show H + 1 + 1 + 1 = H + 3 from rfl, show H + 1 + 1 = H + 2 from rfl, HW5.out]
  gi_wp2_with fail
  have hs5 := HS5.out
  refine Ru.range_gives (gf := 76) (lb := #[.pointer (some ⟨H + 4, 0, none⟩)]) rfl (Go.Proofs.enters_of Try.func76 (by kernel_rfl) rfl) HG.out (Below.refl _ _) (fun B O x av W h => by obtain ⟨A1, n1, c1, e, -⟩ := h; rw [e]; rfl)
    (fun k => k = H ∨ k = H + 1 ∨ k = H + 2) ?hS ?hM
    (RsI H w) (fun c O pre W' => c = .ret ∧ (∀ k, O k → H + 5 ≤ k) ∧ H + 5 ≤ W'.heap.size ∧ Below w.heap.size w W' ∧ ∃ z, keysG [] none (es.map (·.2)) = ([], z) ∧ Blk W' H [.slice none 0 0] ∧ Blk W' (H + 1) [.int .i64 z]) (RsI.stays HHE.out.symm) ?hIx ?hI0
    (fun O x a' W' => ∃ A1 n1 c1 R, a' = { tmps := #[.slice A n c, undef, .pointer (some ⟨H, 0, none⟩), .pointer (some ⟨H + 1, 0, none⟩), .pointer (some ⟨H + 2, 0, none⟩), .pointer (some ⟨R, 0, none⟩), .int .i64 x.2, .slice A n c, .func (.func 79) #[] #[.pointer (some ⟨H + 3, 0, none⟩)], .func (.func 76) #[] #[.pointer (some ⟨H + 4, 0, none⟩)], .agg #[.int .u32 (x.1.1 : Int), .slice A1 n1 c1], .int .i64 x.2, undef, undef, undef, undef, undef, undef, undef, undef], defers := [] } ∧ HdAt (H + 7) O x A1 n1 c1 R W')
    ?hAx ?assign ?body ?done ?stop
  case hS =>
    intro k hk
    refine ⟨by omega, ?_⟩
    rintro (h | h | h) <;> omega
  case hM =>
    rintro k (h | h | h) <;> omega
  case hIx =>
    intro c O O' pre W' W'' ⟨h1, h2, h3, h4, z, h5, h6, h7⟩ ho hk
    exact ⟨h1, fun k e => (hk k e).elim (h2 k) (fun e => by omega), Nat.le_trans h3 ho.size, h4.trans (ho.below (fun k _ e => by have := h2 k e; have := HHE.out; omega) h4.size), z, h5, h6.out ho (fun e => by have := h2 _ e; omega), h7.out ho (fun e => by have := h2 _ e; omega)⟩
  case hI0 =>
    intro O hO
    exact HI0.out O (fun k hk => by have := hO k hk; omega)
  case hAx =>
    rintro O x a' W1 W2 ⟨A1, n1, c1, R, e, h⟩ ho
    exact ⟨A1, n1, c1, R, e, h.out ho (fun k hk => by rcases hk with h | h <;> omega)⟩
  case assign =>
    rintro O l' m pre x av W' K hO hOD hOD1 hv hI ho hK
    rw [hs5] at hv
    have hW7 : H + 5 + 2 ≤ W'.heap.size := by have := (hO _ hOD1).2; omega
    obtain ⟨A1, n1, c1, rfl, hd⟩ := hd_new hv hW7
    have HD := Lib.hid hd
    have HI2 := Lib.hid ((RsI.stays HHE.out.symm).below hI ((Below.refl _ _).alloc (Nat.le_refl _) (.cells #[.int .u32 (x.1.1 : Int), .slice A1 n1 c1] 51)))
    clear hd hv hI
    gi_wp2
    exact hK _ _ (Out.of_below ((Below.refl _ _).alloc (Nat.le_refl _) _)) HI2.out ⟨A1, n1, c1, _, rfl, HD.out⟩
  case body =>
    rintro O l' m pre x post a' W2 hX hO hOD hOD1 ho hI ⟨A1, n1, c1, R, rfl, hd⟩
    obtain ⟨z, hz⟩ : ∃ z, z = x.2 := ⟨_, rfl⟩
    rw [← hz]
    by_cases hz0 : z = 0
    · have d0 : (z != 0) = false := by simp [hz0]
      obtain ⟨A7, n7, c7, vs, hx⟩ := hI.ex
      have t2 := hx.box.cell (i := 0) rfl
      have f2 := hx.box.frozen 0
      have r0 := hd.box.cell (i := 0) rfl
      have r1 := hd.box.cell (i := 1) rfl
      have hn7 : n7 + 1 ≤ 100000 := by
        have h1 := tell_len (es.map (·.2))
        rw [hX, List.length_append, List.length_map, HL.out, List.length_cons] at h1
        have h2 := hx.num
        rw [List.length_map] at h2
        omega
      obtain ⟨i0, hi0, hz0', hz1, hz2⟩ := info_parts mrow_info
      obtain ⟨s, hs⟩ : ∃ s, s = x.1.1 := ⟨_, rfl⟩
      rw [← hs] at r0
      rw [← hs]
      have HMX := Lib.hid (show n7 + 1 ≤ maxLen by unfold maxLen; omega)
      have HXX := Lib.hid hx
      have HD := Lib.hid hd
      have HI2 := Lib.hid hI
      have HO := Lib.hid hO
      have HZ := Lib.hid (And.intro hz hz0)
      have HS := Lib.hid hs
      have HSZ := Lib.hid hI.size
      have hH2 : H + 2 < W2.heap.size := hx.box.lt
      have HOO := Lib.hid ho
      have HON := Lib.hid (And.intro hOD hOD1)
      have HCE := Lib.hid (show ∀ u ∈ ([.int .u32 (s : Int), .slice A1 n1 c1] : List Value), u.oneCell' = true from fun u hu => by simp at hu; rcases hu with rfl | rfl <;> rfl)
      clear hx hd hI hO hz hs ho hX hz0 hOD hOD1
      gi_wp2_with (gi_at_builtin
                   go_loud (refine wpListIn_append_both rfl (.tmp 15) (.tmp 17) 29 rfl (H + 5) 51 i0 _ 2 32 Try.underlying29 hi0 hz0' hz1 hz2 rfl (by decide) A7 n7 c7 _ rfl (HXX.out.own.alloc _) ⟨W2.heap.size, 0, none⟩ 1 1 [.int .u32 (s : Int), .slice A1 n1 c1] rfl rfl (two_lit rfl) HCE.out (by decide) HMX.out (by omega) (by rw [World.size_alloc]; have := HSZ.out; omega) ?_)
                   intro v6 w6 ho6 hg6 hn6 hfit6
                   refine Classical.byContradiction fun hcontra => ?_)
      obtain ⟨A8, d8, hv8, -⟩ := own_slice' ho6
      subst hv8
      have hba : Below W2.heap.size W2 (W2.alloc (.cells #[.int .u32 (s : Int), .slice A1 n1 c1] 51)) := (Below.refl _ _).alloc (Nat.le_refl _) _
      have hda := HD.out.out (.of_below hba) (T := fun _ => False) (fun k h => h.elim)
      have hxa := HXX.out.stay (O' := O) (.of_below hba) (fun k h => .inl h) (fun e => by have := HI2.out.low _ e; omega)
      rw [HS.out] at ho6 hg6 hn6 hda hxa
      obtain ⟨hcol, hout⟩ := hxa.push (by omega) (RwAt.mk (fun a e => by have := hda.row.low a e; omega) hda.row.src hda.row.fit hda.row.len hda.row.cap hda.row.arcs) hda.free hda.own (fun k hk => by have := (HO.out k hk).2; rw [World.size_alloc]; omega) ho6 hg6 hn6
      have FIN := Lib.hid (show Out (Ru.SO (fun k => k = H ∨ k = H + 1 ∨ k = H + 2) W5.heap.size O) W2 (w6.setCell ⟨H + 2, 0, none⟩ (.slice A8 (n7 + 1) d8)) ∧ RsI H w O (pre ++ [x]) (w6.setCell ⟨H + 2, 0, none⟩ (.slice A8 (n7 + 1) d8)) from by
        have ha := (Out.of_below (S := fun k => k = H + 2 ∨ H + 5 ≤ k ∧ ¬O k) hba)
        rw [HS.out] at ha
        have hall := ha.trans hout
        refine ⟨hall.more fun k _ hk => ?_, ⟨⟨_, _, _, _, by rw [List.map_append]; exact hcol⟩, fun y hy => ?_, HI2.out.low, HI2.out.b0.out hall (by omega), HI2.out.b1.out hall (by omega), Nat.le_trans HI2.out.size hall.size, ?_⟩⟩
        · rcases hk with h | h
          · exact .inl (.inr (.inr h))
          · exact .inr ⟨by omega, h.2⟩
        · rcases List.mem_append.1 hy with h | h
          · exact HI2.out.zero y h
          · rw [List.mem_singleton.1 h, ← HZ.out.1]; exact HZ.out.2
        · exact HI2.out.out.trans (hall.below (fun k _ hk => by have := HHE.out; rcases hk with h | h <;> omega) HI2.out.out.size))
      have e7 := hcol.box.cell (i := 0) rfl
      have hb6 : Blk w6 (H + 2) [.slice A7 n7 c7] := hxa.box.grown hg6 (fun e => by have := (hxa.own.lt _ e).1; omega)
      have e8 := hb6.cell (i := 0) rfl
      have y8 := hb6.frozen 0
      clear ho6 hg6 hn6 hfit6 hba hda hxa hcol hout e7 hb6 r0 r1 t2 f2
      apply hcontra
      clear hcontra
      gi_wp2
      exact FIN.out
    · have d0 : (z != 0) = true := by simp [hz0]
      have q0 := hI.b0.cell (i := 0) rfl
      have q1 := hI.b1.cell (i := 0) rfl
      have g0 := hI.b0.frozen 0
      have g1 := hI.b1.frozen 0
      obtain ⟨hk1, hk2⟩ := tell_good hX (by rw [← hz]; exact hz0)
      rw [← hz] at hk1
      have FIN := Lib.hid (show Out (Ru.SO (fun k => k = H ∨ k = H + 1 ∨ k = H + 2) W5.heap.size O) W2 ((W2.setCell ⟨H, 0, none⟩ (.slice none 0 0)).setCell ⟨H + 1, 0, none⟩ (.int .i64 z)) ∧ Code.ret = .ret ∧ (∀ k, O k → H + 5 ≤ k) ∧ H + 5 ≤ ((W2.setCell ⟨H, 0, none⟩ (.slice none 0 0)).setCell ⟨H + 1, 0, none⟩ (.int .i64 z)).heap.size ∧ Below w.heap.size w ((W2.setCell ⟨H, 0, none⟩ (.slice none 0 0)).setCell ⟨H + 1, 0, none⟩ (.int .i64 z)) ∧ ∃ z', keysG [] none (es.map (·.2)) = ([], z') ∧ Blk ((W2.setCell ⟨H, 0, none⟩ (.slice none 0 0)).setCell ⟨H + 1, 0, none⟩ (.int .i64 z)) H [.slice none 0 0] ∧ Blk ((W2.setCell ⟨H, 0, none⟩ (.slice none 0 0)).setCell ⟨H + 1, 0, none⟩ (.int .i64 z)) (H + 1) [.int .i64 z'] from by
        have hall : Out (fun k => k = H ∨ k = H + 1) W2 ((W2.setCell ⟨H, 0, none⟩ (.slice none 0 0)).setCell ⟨H + 1, 0, none⟩ (.int .i64 z)) := ((Out.refl (fun k => k = H ∨ k = H + 1) W2).setCell (p := ⟨H, 0, none⟩) (.inl (.inl rfl)) _).setCell (p := ⟨H + 1, 0, none⟩) (.inl (.inr rfl)) _
        refine ⟨hall.more fun k _ hk => .inl (by rcases hk with h | h; exact .inl h; exact .inr (.inl h)), rfl, hI.low, Nat.le_trans hI.size hall.size, hI.out.trans (hall.below (fun k _ hk => by have := HHE.out; rcases hk with h | h <;> omega) hI.out.size), z, hk1, ?_, ?_⟩
        · exact (hI.b0.set 0 (.slice none 0 0)).other (p := ⟨H + 1, 0, none⟩) (show H + 1 ≠ H by omega) _
        · exact (hI.b1.other (p := ⟨H, 0, none⟩) (show H ≠ H + 1 by omega) _).set 0 _)
      clear hX hO hOD hOD1 ho hI hd hz hz0 hk1 hk2
      gi_wp2
      have f := FIN.out
      rw [hs5] at f
      exact ⟨f.1, rfl, f.2.2⟩
  case done =>
    rintro O D W2 hO hD hOD ho hI hK
    obtain ⟨A7, n7, c7, vs, hx⟩ := hI.ex
    have hD5 : D = H + 5 := by rw [hD, hs5]
    subst hD5
    have q0 := hI.b0.cell (i := 0) rfl
    have q1 := hI.b1.cell (i := 0) rfl
    have q2 := hx.box.cell (i := 0) rfl
    have g0 := hI.b0.frozen 0
    have g1 := hI.b1.frozen 0
    obtain ⟨rows, hr1, hr2⟩ := tell_all hI.zero
    obtain ⟨W9, hW9⟩ : ∃ W9, (W2.setCell ⟨H, 0, none⟩ (.slice A7 n7 c7)).setCell ⟨H + 1, 0, none⟩ (.int .i64 0) = W9 := ⟨_, rfl⟩
    have hall : Out (fun k => k = H ∨ k = H + 1 ∨ k = H + 5) W2 (W9.putObj (H + 5) (.deferred none)) := by
      rw [← hW9]
      exact (((Out.refl (fun k => k = H ∨ k = H + 1 ∨ k = H + 5) W2).setCell (p := ⟨H, 0, none⟩) (.inl (.inl rfl)) _).setCell (p := ⟨H + 1, 0, none⟩) (.inl (.inr (.inl rfl))) _).trans ((Ru.put_out (O := fun k => k = H + 5) _ (H + 5) _ rfl).more fun k _ e => .inr (.inr e))
    have hb0 : Blk (W9.putObj (H + 5) (.deferred none)) H [.slice A7 n7 c7] := by
      rw [← hW9]
      exact ((hI.b0.set 0 (.slice A7 n7 c7)).other (p := ⟨H + 1, 0, none⟩) (show H + 1 ≠ H by omega) _).out (Ru.put_out (O := fun k => k = H + 5) _ (H + 5) _ rfl) (by omega)
    have hb1 : Blk (W9.putObj (H + 5) (.deferred none)) (H + 1) [.int .i64 0] := by
      rw [← hW9]
      exact ((hI.b1.other (p := ⟨H, 0, none⟩) (show H ≠ H + 1 by omega) _).set 0 _).out (Ru.put_out (O := fun k => k = H + 5) _ (H + 5) _ rfl) (by omega)
    have e0 := hb0.cell (i := 0) rfl
    have e1 := hb1.cell (i := 0) rfl
    have FIN := Lib.hid (show KsPost w (keysG [] none (es.map (·.2))) (.returned (.tuple #[.slice A7 n7 c7, .int .i64 0])) (W9.putObj (H + 5) (.deferred none)) from by
      rw [hr1]
      have hbd := own_bounds hx.own
      have hlen := hx.num
      rw [hr2] at hlen
      have hsz := hI.size
      have hown := own_out hx.own hall (fun k hk e => by
        have h1 := (hx.own.lt k hk).1
        have h2 := hx.free k hk
        rcases e with e | e | e
        · omega
        · omega
        · rw [e] at h2; exact h2 hOD)
      refine ⟨A7, n7, c7, rfl, hlen, hbd.1, hbd.2, ?_, hI.out.trans (hall.below (fun k _ hk => by have := HHE.out; rcases hk with h | h | h <;> omega) hI.out.size)⟩
      refine rows_own (own_more hown (by have := HHE.out; omega)) (Nat.le_refl _) (by rw [hx.len, hr2]) fun i p r hp hr => ?_
      rw [← hr2] at hr
      obtain ⟨h1, h2⟩ := hx.rows i p r hp hr
      have h3 := h1.kept hall (fun h0 a e => by
        have h4 := h1.low a e
        have h5 := (h2 h0 a e).1
        rintro (e' | e' | e')
        · omega
        · omega
        · rw [e'] at h5; exact h5 hOD)
      exact { h3 with low := fun a e => by have := h3.low a e; have := HHE.out; omega })
    have hK9 : W9.heap[H + 5]? = some (.deferred (some [])) := by
      rw [← hW9]
      exact Rt.heap_out (((Out.refl (fun k => k = H ∨ k = H + 1) W2).setCell (p := ⟨H, 0, none⟩) (.inl (.inl rfl)) _).setCell (p := ⟨H + 1, 0, none⟩) (.inl (.inr rfl)) _) hK (by omega)
    have HK9 := Lib.hid hK9
    have HW9 := Lib.hid hW9
    clear hO hD hOD ho hI hK hx hr1 hr2 hall hb0 hb1 hK9 hW9
    gi_wp2_with fail
    rw [HW9.out]
    refine ⟨by simp, .inl ⟨_, _, rfl, run_takeDeferred HK9.out, ?_⟩⟩
    refine ⟨.tuple #[.slice A7 n7 c7, .int .i64 0], ?_, FIN.out⟩
    simp [results, Try.results31, go_sem, e0, e1]
  case stop =>
    rintro O D cc pre post W2 hO hD hOD ho hX ⟨rfl, hlo, hsz, hbw, z, hz, hb0, hb1⟩ hK
    have hD5 : D = H + 5 := by rw [hD, hs5]
    subst hD5
    have hall : Out (fun k => k = H + 5) W2 (W2.putObj (H + 5) (.deferred none)) := Ru.put_out (O := fun k => k = H + 5) _ (H + 5) _ rfl
    have e0 := (hb0.out hall (by omega)).cell (i := 0) rfl
    have e1 := (hb1.out hall (by omega)).cell (i := 0) rfl
    have FIN := Lib.hid (show KsPost w (keysG [] none (es.map (·.2))) (.returned (.tuple #[.slice none 0 0, .int .i64 z])) (W2.putObj (H + 5) (.deferred none)) from by
      rw [hz]
      exact ⟨none, 0, 0, rfl, rfl, Nat.le_refl _, by omega, RowsAt.nil, hbw.trans (hall.below (fun k _ e => by have := HHE.out; omega) hbw.size)⟩)
    have HK := Lib.hid hK
    clear hO hD hOD ho hX hlo hsz hbw hz hb0 hb1 hK hall
    gi_wp2_with fail
    refine ⟨by simp, .inl ⟨_, _, rfl, run_takeDeferred HK.out, ?_⟩⟩
    refine ⟨.tuple #[.slice none 0 0, .int .i64 z], ?_, FIN.out⟩
    simp [results, Try.results31, go_sem, e0, e1]
end Go.Proofs.Yteaibgnelnblnaa
end
section
namespace Go.Proofs.Yteaibgnelnblnaa
open Go.RowKit Me Tx Ed Mg Va

end Go.Proofs.Yteaibgnelnblnaa
end
section
namespace Go.Proofs.Yteaibgnelnblnaa
open Go.RowKit Me Tx Ed Mg Va

theorem insE_at {x : EdD} : ∀ (l : List EdD) (i : Nat), i ≤ l.length → (∀ j y, j < i → l[j]? = some y → lowE x y = false) → (∀ y, l[i]? = some y → lowE x y = true) → insE x l = l.take i ++ x :: l.drop i
  | [], i, h, _, _ => by
    have : i = 0 := by simpa using h
    subst this
    rfl
  | y :: l, 0, _, _, h2 => by
    rw [insE, if_pos (h2 y rfl)]
    rfl
  | y :: l, i + 1, h, h1, h2 => by
    have hy : lowE x y = false := h1 0 y (by omega) rfl
    rw [insE, if_neg (by rw [hy]; simp), insE_at l i (by simpa using h) (fun j z hj hz => h1 (j + 1) z (by omega) hz) (fun z hz => h2 z hz)]
    rfl
theorem sortE_snoc (l : List EdD) (x : EdD) : sortE (l ++ [x]) = insE x (sortE l) := by
  unfold sortE
  rw [List.foldl_append]
  rfl
theorem ms_info : (Try.prog.info? 58).map (fun i => (i.zero, i.size, i.bytes)) = some (some (.agg #[.int .u32 0, .int .u32 0, .int .u32 0]), 3, 12) := by kernel_rfl
/-- An edge in memory. -/
structure EdAt (w : World) (a : Addr) (p : EdD) : Prop where
  c0 : w.cell? a = some (.int .u32 (p.src : Int))
  c1 : w.cell? ⟨a.block, a.off + 1, none⟩ = some (.int .u32 (p.dst : Int))
  c2 : w.cell? ⟨a.block, a.off + 2, none⟩ = some (.int .u32 (p.wgt : Int))
theorem EdAt.lt {w : World} {a : Addr} {p : EdD} (h : EdAt w a p) : a.block < w.heap.size := World.block_lt_of_cell? _ _ h.c0
theorem EdAt.below {w w' : World} {B : Nat} {a : Addr} {p : EdD} (h : EdAt w a p) (hb : Below B w w') (ha : a.block < B) : EdAt w' a p := ⟨(hb.cell ha).trans h.c0, (hb.cell (p := ⟨a.block, a.off + 1, none⟩) ha).trans h.c1, (hb.cell (p := ⟨a.block, a.off + 2, none⟩) ha).trans h.c2⟩
theorem EdAt.past {w w' : World} {a : Addr} {p : EdD} (h : EdAt w a p) (hb : Below w.heap.size w w') : EdAt w' a p := h.below hb h.lt
theorem eds_at {w : World} {B : Nat} {L : Option Addr} {l : List EdD} {k : Nat} {p : EdD} (h : Cs w B L (edCells l)) (hk : l[k]? = some p) : ∃ a, L = some a ∧ a.block < B ∧ EdAt w (a.add (k * 3)) p := by
  have hlt := (List.getElem?_eq_some_iff.1 hk).1
  obtain ⟨a, rfl, hb, hc⟩ := h (by rw [edCells_length]; omega)
  obtain ⟨h0, h1, h2⟩ := edCells_get hk
  have g1 := hc _ _ h1
  have g2 := hc _ _ h2
  rw [add_field a (k * 3) 0] at g1
  rw [add_field a (k * 3) 1] at g2
  exact ⟨a, rfl, hb, hc _ _ h0, g1, g2⟩
theorem cells_new (w : World) (l : List Value) (T : TypeId) (hl : l ≠ []) : ∀ (j : Nat) (x : Value), l[j]? = some x → (w.alloc (.cells l.toArray T)).cell? ((⟨w.heap.size, 0, none⟩ : Addr).add j) = some x := by
  intro j x hj
  obtain ⟨a, e, -, hc⟩ := Cs.lit w l.toArray T (by cases l with | nil => exact absurd rfl hl | cons y l => simp)
  injection e with e
  subst e
  exact hc j x hj
/-- What is known of each slot of the inner loop's condition. -/
def msG (a al : Addr) (k c n cl i : Nat) (y x : EdD) (q0 q1 : Bool) : Gw.Fact := fun s v _ =>
  match s with
  | 0 => v = .slice (some al) n cl
  | 18 => q0 = true → v = .slice (some al) n cl
  | 3 | 14 => v = .slice (some a) k c
  | 22 => q0 = true → v = .slice (some a) k c
  | 5 | 13 => v = .int .i64 (i : Int)
  | 23 => q0 = true → v = .int .i64 (i : Int)
  | 4 => v = .int .i64 (k : Int)
  | 19 => q0 = true → v = .int .i64 (k : Int)
  | 15 => v = .int .i64 (k : Int)
  | 16 | 17 => v = .bool q0
  | 24 => q0 = true → v = .pointer (some (a.add (i * 3)))
  | 25 => q0 = true → v = Ed.agg y
  | 20 => q0 = true → v = .pointer (some (al.add (k * 3)))
  | 21 => q0 = true → v = Ed.agg x
  | 26 => q0 = true → v = .bool q1
  | 27 => q0 = true → v = .bool (!q1)
  | 28 => v = .bool (q0 && !q1)
  | _ => True
set_option maxRecDepth 100000 in
set_option maxHeartbeats 2000000 in
theorem rsorted_any (Al : Option Addr) (n cl : Nat) (l : List EdD) (hl : l.length = n) (hn : n ≤ 1000000) (w : World) (hc : Cs w w.heap.size Al (edCells l)) :
    Calls Try.prog 34 #[.slice Al n cl] w fun e w' => ∃ A c, e = .returned (.slice A n c) ∧ w'.ownsRow w.heap.size 58 3 (.slice A n c) n (edCells (sortE l)) ∧ Below w.heap.size w w' := by
  have HL := Lib.hid hl
  have HC := Lib.hid hc
  obtain ⟨i0, hi0, hz0, hz1, hz2⟩ := info_parts ms_info
  have H0 := Lib.hid (show (w.alloc (.cells #[] 58)).ownsRow w.heap.size 58 3 (.slice (some ⟨w.heap.size, 0, none⟩) 0 0) 0 (edCells (sortE [])) ∧ Below w.heap.size w (w.alloc (.cells #[] 58)) from
    ⟨⟨rfl, .inr ⟨w.heap.size, 0, #[], rfl, Nat.le_refl _, heap_alloc_new w _, Nat.le_refl _, by decide, rfl, rfl⟩⟩, (Below.refl _ _).alloc (Nat.le_refl _) _⟩)
  clear hl hc
  go_enter Try.func34, Try.ntmps34
  go_wp2
  go_loopw [3, 10] (fun v kv wr => ∃ (k : Nat) (a : Addr) (c : Nat), v = .slice (some a) k c ∧ kv = .int .i64 (k : Int) ∧ k ≤ n ∧ Hid (wr.ownsRow w.heap.size 58 3 (.slice (some a) k c) k (edCells (sortE (l.take k)))) ∧ Hid (Below w.heap.size w wr)) (fun _ kv _ => n - (intOf kv).toNat)
  case atStart => exact ⟨0, ⟨w.heap.size, 0, none⟩, 0, rfl, rfl, Nat.zero_le _, Lib.hid H0.out.1, Lib.hid H0.out.2⟩
  case round =>
    clear H0
    obtain ⟨wo, rfl⟩ : ∃ wo, wo = wr := ⟨_, rfl⟩
    obtain ⟨k, a, c, rfl, rfl, hk, HO, HB⟩ := hrel
    by_cases hlt : k < n
    · obtain ⟨x, hx⟩ : ∃ x, l[k]? = some x := ⟨_, List.getElem?_eq_getElem (by rw [HL.out]; exact hlt)⟩
      obtain ⟨al, rfl, hab, hat⟩ := eds_at HC.out hx
      have CX := Lib.hid (hat.below HB.out (by rw [block_add]; exact hab))
      obtain ⟨S, hS⟩ : ∃ S, S = sortE (l.take k) := ⟨_, rfl⟩
      have HS := Lib.hid hS
      rw [← hS] at HO
      have HSL := Lib.hid (show S.length = k by have := HO.out.1; rw [edCells_length] at this; omega)
      have HX := Lib.hid hx
      have hlt2 : (k : Int) < (n : Int) := by omega
      have HCS := Lib.hid (Cs.of_own HO.out)
      have HGL := Lib.hid (World.ownsRow.lt HO.out a.block rfl).2
      clear hx hat hS hab
      go_wp2
      go_loopw [5] (fun iv w2 => ∃ i : Nat, iv = .int .i64 (i : Int) ∧ i ≤ k ∧ Hid (∀ j y, j < i → S[j]? = some y → lowE x y = false) ∧ Hid (Below wo.heap.size wo w2)) (fun iv _ => k - (intOf iv).toNat)
      case atStart => exact ⟨0, rfl, Nat.zero_le _, Lib.hid (fun j y hj => by omega), Lib.hid (Below.refl _ _)⟩
      case round =>
        obtain ⟨i, rfl, hik, HI, HB2⟩ := hrel
        obtain ⟨q0, hq0⟩ : ∃ q0, decide ((i : Int) < (k : Int)) = q0 := ⟨_, rfl⟩
        obtain ⟨y, hy⟩ : ∃ y, y = S.getD i ⟨0, 0, 0⟩ := ⟨_, rfl⟩
        obtain ⟨q1, hq1⟩ : ∃ q1, lowE x y = q1 := ⟨_, rfl⟩
        have HY := Lib.hid hy
        have hq0n : decide (i < k) = q0 := by rw [← hq0]; simp
        have hT : q0 = true → i < k := fun h => by rw [← hq0n] at h; exact of_decide_eq_true h
        have HCY := Lib.hid (show q0 = true → ∀ W, Below wr.heap.size wr W → EdAt W (a.add (i * 3)) y from fun h W hW => by
          have hik2 := hT h
          obtain ⟨a', ha, -, h1⟩ := eds_at (k := i) (p := y) HCS.out (by rw [hy, List.getD_eq_getElem?_getD, List.getElem?_eq_getElem (by rw [HSL.out]; exact hik2)]; rfl)
          injection ha with ha
          subst ha
          exact (h1.past HB2.out).past hW)
        have HCX := Lib.hid (show ∀ W, Below wr.heap.size wr W → EdAt W (al.add (k * 3)) x from fun W hW => (CX.out.past HB2.out).past hW)
        have HBE := Lib.hid (show ∀ W, Calls Try.prog 52 #[Ed.agg x, Ed.agg y] W fun e w' => e = .returned (.bool q1) ∧ Below W.heap.size W w' from fun W => by rw [← hq1]; exact rbelow_any x y W)
        clear hy
        go_wp2_with fail
        refine Gw.wp_region_grow (msG a al k c n cl i y x q0 q1) [13, 14, 15, 16, 17, 18, 19, 20, 21, 22, 23, 24, 25, 26, 27, 28] [([5], none), ([3], none), ([14], none), ([13, 15], none), ([16], none), ([0, 17], some (17, true)), ([4, 17], some (17, true)), ([18, 19, 17], some (17, true)), ([20, 17], some (17, true)), ([3, 17], some (17, true)), ([5, 17], some (17, true)), ([22, 23, 17], some (17, true)), ([24, 17], some (17, true)), ([21, 25, 17], some (17, true)), ([26, 17], some (17, true)), ([17, 27], none)] 50 (by kernel_rfl) (by kernel_rfl) rfl ?h0 ?hreq ?hend
        case h0 =>
          intro t W hnd _
          unfold msG
          split <;> first | (exfalso; apply hnd; decide) | rfl | trivial
        case hreq =>
          refine ⟨?_, ?_, ?_, ?_, ?_, ?_, ?_, ?_, ?_, ?_, ?_, ?_, ?_, ?_, ?_, ?_, trivial⟩
          all_goals
            intro ac W hg hk
            obtain ⟨x0, x1, x2⟩ := HCX.out W hg
            have zy := fun h => HCY.out h W hg
            simp only [Gw.Knows, msG] at hk
            try (first
              | (simp [go_sem, Gw.OpReq, Gw.Ok, Gw.Post, Gw.Holds, msG, Gw.Grows.refl, hk, hq0, hq0n, hq1, x0, x1, x2]; done)
              | (rcases Bool.eq_false_or_eq_true q0 with hq | hq
                 · have hik9 := hT hq
                   obtain ⟨y0, y1, y2⟩ := zy hq
                   simp [go_sem, Gw.OpReq, Gw.Ok, Gw.Post, Gw.Holds, msG, Gw.Grows.refl, hk, hq, hq1, hik9, hlt, x0, x1, x2, y0, y1, y2]
                   done
                 · simp [go_sem, Gw.OpReq, Gw.Ok, Gw.Post, Gw.Holds, msG, Gw.Grows.refl, hk, hq]
                   done))
          all_goals
            rcases Bool.eq_false_or_eq_true q0 with hq | hq
            · simp [go_sem, Gw.OpReq, Gw.Ok, Gw.Post, Gw.Holds, msG, Gw.Grows.refl, hk, hq]
              refine (HBE.out W).mono ?_
              rintro e W' ⟨rfl, hb3⟩
              exact ⟨_, rfl, hb3, fun _ _ => rfl⟩
            · simp [go_sem, Gw.OpReq, Gw.Ok, Gw.Post, Gw.Holds, msG, Gw.Grows.refl, hk, hq]
        case hend =>
          intro y2 w5 hg hy2
          have h28 := (hy2 28 (by simp)).now
          simp only [msG] at h28
          have HB5 := Lib.hid (HB2.out.trans (Below.mono (show Below wr.heap.size wr w5 from hg) HB2.out.size))
          clear hg hy2
          simp only [Gw.putAll, Act.put, List.setIfInBounds_toArray, List.set_cons_zero, List.set_cons_succ]
          rw [h28]
          cases hq : (q0 && !q1) with
          | true =>
            rw [Bool.and_eq_true] at hq
            have hik9 := hT hq.1
            have HN := Lib.hid (show ∀ j z, j < i + 1 → S[j]? = some z → lowE x z = false from fun j z hj hz => by
              by_cases hji : j < i
              · exact HI.out j z hji hz
              · have e : j = i := by omega
                subst e
                have h1 : y = z := by rw [HY.out, List.getD_eq_getElem?_getD, hz]; rfl
                have h2 := hq.2
                rw [← h1, hq1]
                simpa using h2)
            clear hq1 hq0 hq0n hT h28
            go_wp2
            go_roundw
            case rel => exact ⟨i + 1, by go_num, by omega, HN, HB5⟩
            case measure => simp [intOf]; omega
          | false =>
            have HNX := Lib.hid (show ∀ z, S[i]? = some z → lowE x z = true from fun z hz => by
              have hil : i < S.length := (List.getElem?_eq_some_iff.1 hz).1
              have h0 : q0 = true := by rw [← hq0n]; simp; have := HSL.out; omega
              rw [h0, Bool.true_and] at hq
              have h1 : y = z := by rw [HY.out, List.getD_eq_getElem?_getD, hz]; rfl
              rw [← h1, hq1]
              simpa using hq)
            have HINS := Lib.hid (show sortE (l.take (k + 1)) = S.take i ++ x :: S.drop i from by
              rw [List.take_add_one, HX.out]
              show sortE (l.take k ++ [x]) = _
              rw [sortE_snoc, ← HS.out]
              exact insE_at S i (by rw [HSL.out]; exact hik) HI.out HNX.out)
            have HK5 := Lib.hid (show ∀ W, Below w5.heap.size w5 W → ∀ j u, (edCells S)[j]? = some u → W.cell? (a.add j) = some u from fun W hW j u hu => by
              obtain ⟨a', ha, hb', h1⟩ := HCS.out (by have := (List.getElem?_eq_some_iff.1 hu).1; omega)
              injection ha with ha
              subst ha
              exact (hW.cell (by rw [block_add]; have := HB5.out.size; omega)).trans ((HB5.out.cell (by rw [block_add]; exact hb')).trans (h1 j u hu)))
            have hs5 := HB5.out.size
            have hws := HB.out.size
            obtain ⟨x0, x1, x2⟩ := CX.out.past HB5.out
            have hxl : (al.add (k * 3)).block < w5.heap.size := World.block_lt_of_cell? _ _ x0
            have hik2 : (i : Int) ≤ (k : Int) := by omega
            have hkc := (own_bounds HO.out).1
            have hic : (i : Int) ≤ (c : Int) := by omega
            have hkc2 : (k : Int) ≤ (c : Int) := by omega
            clear hq hq1 hq0 hq0n hT h28 HCY HCX HY HI
            have HOWN := Lib.hid (own_bounds HO.out)
            have HO5 := Lib.hid (show (w5.alloc (.cells #[] 58)).ownsRow w5.heap.size 58 3 (.slice (some ⟨w5.heap.size, 0, none⟩) 0 0) 0 [] from ⟨rfl, .inr ⟨w5.heap.size, 0, #[], rfl, Nat.le_refl _, heap_alloc_new w5 _, Nat.le_refl _, by decide, rfl, rfl⟩⟩)
            have HN1 := Lib.hid (show (edCells (S.take i)).length = i * 3 by rw [edCells_length, List.length_take, HSL.out]; omega)
            have HN2 := Lib.hid (show ∀ W, Below w5.heap.size w5 W → ∀ j u, (edCells (S.take i))[j]? = some u → W.cell? (a.add j) = some u from fun W hW j u hu => by
              rw [← edCells_take, List.getElem?_take] at hu
              split at hu
              · exact HK5.out W hW j u hu
              · cases hu)
            have HMX := Lib.hid (show 0 + i ≤ maxLen ∧ (0 + i) * 12 ≤ 140737488355328 by unfold maxLen; omega)
            go_wp2_with (at_builtin
                         go_loud (refine wpList_append_own_at _ rfl (.tmp 31) (.tmp 34) 22 rfl w5.heap.size 58 i0 _ 3 12 Try.underlying22 hi0 hz0 hz1 hz2 rfl (by decide) (.slice (some ⟨w5.heap.size, 0, none⟩) 0 0) 0 [] rfl HO5.out a i c (edCells (S.take i)) rfl HN1.out (HN2.out _ ((Below.refl _ _).alloc (Nat.le_refl _) _)) edCells_one HMX.out.1 HMX.out.2 (by rw [World.size_alloc]; omega) ?_)
                         intro v6 w6 ho6 hg6 hnn6 hn6
                         refine Classical.byContradiction fun hcontra => ?_)
            obtain ⟨A6, c6, hv6, -⟩ := own_slice' ho6
            subst hv6
            rw [Nat.zero_add] at hcontra
            have hb6 : Below w5.heap.size w5 w6 := (((Below.refl _ w5).alloc (Nat.le_refl _) (.cells #[] 58)).grown hg6 (by rw [World.size_alloc]; omega) (fun k e => by cases e; exact Nat.le_refl _))
            have HO6 := Lib.hid (show w6.ownsRow w5.heap.size 58 3 (.slice A6 i c6) i (edCells (S.take i)) from by rw [Nat.zero_add, List.nil_append] at ho6; exact ho6)
            obtain ⟨y0, y1, y2'⟩ := (CX.out.past HB5.out).past hb6
            have hs6 := hb6.size
            have HB6 := Lib.hid hb6
            obtain ⟨w6a, hw6a⟩ : ∃ w6a, w6a = w6.alloc (.cells #[.int .u32 (x.src : Int), .int .u32 (x.dst : Int), .int .u32 (x.wgt : Int)] 58) := ⟨_, rfl⟩
            have HC6 := Lib.hid (show ∀ j u, (edCells [x])[j]? = some u → w6a.cell? ((⟨w6.heap.size, 0, none⟩ : Addr).add j) = some u from by rw [hw6a]; exact cells_new w6 (edCells [x]) _ (by simp [edCells]))
            have HO6a := Lib.hid (show w6a.ownsRow w5.heap.size 58 3 (.slice A6 i c6) i (edCells (S.take i)) from by rw [hw6a]; exact HO6.out.alloc _)
            have HS6a := Lib.hid (show w6a.heap.size = w6.heap.size + 1 by rw [hw6a]; simp)
            have HMX7 := Lib.hid (show i + 1 ≤ maxLen ∧ (i + 1) * 12 ≤ 140737488355328 by unfold maxLen; omega)
            have HW6A := Lib.hid hw6a
            clear ho6 hg6 hnn6 hn6 hb6 x0 x1 x2 hw6a
            apply hcontra
            clear hcontra
            go_wp2_with (at_builtin
                         rw [← HW6A.out]
                         go_loud (refine wpList_append_own_at _ rfl (.tmp 36) (.tmp 41) 22 rfl w5.heap.size 58 i0 _ 3 12 Try.underlying22 hi0 hz0 hz1 hz2 rfl (by decide) (.slice A6 i c6) i _ rfl HO6a.out ⟨w6.heap.size, 0, none⟩ 1 1 (edCells [x]) rfl rfl HC6.out edCells_one HMX7.out.1 HMX7.out.2 (by rw [HS6a.out]; omega) ?_)
                         intro v7 w7 ho7 hg7 hnn7 hn7
                         refine Classical.byContradiction fun hcontra => ?_)
            obtain ⟨A7, c7, hv7, -⟩ := own_slice' ho7
            subst hv7
            have hs7 : w5.heap.size ≤ w7.heap.size := by have := hg7.size; rw [HS6a.out] at this; omega
            have hb67 : Below w5.heap.size w5 w7 := (HB6.out.trans ((show Below w6.heap.size w6 w6a by rw [HW6A.out]; exact (Below.refl _ _).alloc (Nat.le_refl _) _).mono HB6.out.size)).grown hg7 (by rw [HS6a.out]; omega) (fun j e => (HO6a.out.lt j e).1)
            have HB7 := Lib.hid hb67
            have HO7 := Lib.hid ho7
            have HN3 := Lib.hid (show (edCells (S.drop i)).length = (k - i) * 3 by rw [edCells_length, List.length_drop, HSL.out])
            have HMX8 := Lib.hid (show i + 1 + (k - i) ≤ maxLen ∧ (i + 1 + (k - i)) * 12 ≤ 140737488355328 by unfold maxLen; omega)
            have HS7 := Lib.hid hs7
            have HSD := Lib.hid (show ∀ j u, (edCells (S.drop i))[j]? = some u → j < (k - i) * 3 ∧ w7.cell? (a.add (i * 3 + j)) = some u from fun j u hu => by
              have hj : j < (k - i) * 3 := by have := (List.getElem?_eq_some_iff.1 hu).1; rw [HN3.out] at this; exact this
              rw [← edCells_drop, List.getElem?_drop] at hu
              exact ⟨hj, HK5.out w7 hb67 _ u hu⟩)
            have HLST := Lib.hid (show edCells (S.take i) ++ edCells [x] ++ edCells (S.drop i) = edCells (sortE (l.take (k + 1))) from by rw [HINS.out, ← edCells_append, ← edCells_append]; simp)
            have HBW7 := Lib.hid (HB.out.trans ((HB5.out.trans (hb67.mono HB5.out.size)).mono HB.out.size))
            clear ho7 hg7 hnn7 hn7 hb67 y0 y1 y2' hs7
            apply hcontra
            clear hcontra
            by_cases hci : c = i
            · have HK7 := Lib.hid (show ∀ j u, (edCells (S.drop i))[j]? = some u → w7.cell? (a.add j) = some u from fun j u hu => by
                have := (HSD.out j u hu).1
                omega)
              go_wp2_with (at_builtin
                           go_loud (refine wpList_append_own_at _ rfl (.tmp 43) (.tmp 46) 22 rfl w5.heap.size 58 i0 _ 3 12 Try.underlying22 hi0 hz0 hz1 hz2 rfl (by decide) (.slice A7 (i + 1) c7) (i + 1) _ rfl HO7.out a (k - i) 0 (edCells (S.drop i)) rfl HN3.out HK7.out edCells_one HMX8.out.1 HMX8.out.2 HS7.out ?_)
                           intro v8 w8 ho8 hg8 hnn8 hn8
                           refine Classical.byContradiction fun hcontra => ?_)
              rw [show i + 1 + (k - i) = k + 1 by omega, HLST.out] at ho8
              obtain ⟨g8, c8, hv8, -⟩ := ho8.form (Nat.succ_pos k)
              subst hv8
              have HB8 := Lib.hid (show Below w.heap.size w w8 from HBW7.out.grown hg8 (Nat.le_trans HBW7.out.size (Nat.le_refl _)) (fun j e => by have := (HO7.out.lt j e).1; omega))
              have HO8 := Lib.hid (own_more ho8 (show w.heap.size ≤ w5.heap.size by omega))
              clear ho8 hg8 hnn8 hn8
              apply hcontra
              clear hcontra
              go_wp2
              go_roundw
              case rel => exact ⟨k + 1, ⟨g8, 0, none⟩, c8, rfl, by go_num, by omega, HO8, HB8⟩
              case measure => simp [intOf]; omega
            · have HK7 := Lib.hid (show ∀ j u, (edCells (S.drop i))[j]? = some u → w7.cell? ((a.add (i * 3)).add j) = some u from fun j u hu => by
                rw [add_add]
                exact (HSD.out j u hu).2)
              go_wp2_with (at_builtin
                           go_loud (refine wpList_append_own_at _ rfl (.tmp 43) (.tmp 46) 22 rfl w5.heap.size 58 i0 _ 3 12 Try.underlying22 hi0 hz0 hz1 hz2 rfl (by decide) (.slice A7 (i + 1) c7) (i + 1) _ rfl HO7.out (a.add (i * 3)) (k - i) (c - i) (edCells (S.drop i)) rfl HN3.out HK7.out edCells_one HMX8.out.1 HMX8.out.2 HS7.out ?_)
                           intro v8 w8 ho8 hg8 hnn8 hn8
                           refine Classical.byContradiction fun hcontra => ?_)
              rw [show i + 1 + (k - i) = k + 1 by omega, HLST.out] at ho8
              obtain ⟨g8, c8, hv8, -⟩ := ho8.form (Nat.succ_pos k)
              subst hv8
              have HB8 := Lib.hid (show Below w.heap.size w w8 from HBW7.out.grown hg8 (Nat.le_trans HBW7.out.size (Nat.le_refl _)) (fun j e => by have := (HO7.out.lt j e).1; omega))
              have HO8 := Lib.hid (own_more ho8 (show w.heap.size ≤ w5.heap.size by omega))
              clear ho8 hg8 hnn8 hn8
              apply hcontra
              clear hcontra
              go_wp2
              go_roundw
              case rel => exact ⟨k + 1, ⟨g8, 0, none⟩, c8, rfl, by go_num, by omega, HO8, HB8⟩
              case measure => simp [intOf]; omega
    · have e : k = n := by omega
      subst e
      have HE := Lib.hid (show sortE (l.take k) = sortE l by rw [List.take_of_length_le (by rw [HL.out]; exact Nat.le_refl _)])
      have HO9 := Lib.hid (show wo.ownsRow w.heap.size 58 3 (.slice (some a) k c) k (edCells (sortE l)) by rw [← HE.out]; exact HO.out)
      clear HO HE
      go_wp2
      go_ret
      exact ⟨some a, c, rfl, HO9.out, HB.out⟩
end Go.Proofs.Yteaibgnelnblnaa
end
section
namespace Go.Proofs.Yteaibgnelnblnaa
open Go.RowKit Me Tx Ed Mg Va

/-- Edges, in memory of their own. -/
def NewE (w : World) (l : List EdD) (e : Ending) (w' : World) : Prop :=
  ∃ A n c, e = .returned (.slice A n c) ∧ l.length = n ∧ w'.ownsRow w.heap.size 58 3 (.slice A n c) n (edCells l) ∧ Below w.heap.size w w'
theorem rows_fit {w : World} {lo hi : Nat} {A : Option Addr} {l : List RwD} (h : RowsAt w lo hi A l) : ∀ x ∈ edgesG l, FitE x := by
  intro x hx
  unfold edgesG at hx
  obtain ⟨r, hr, hx⟩ := List.mem_flatMap.1 hx
  obtain ⟨i, hi, e⟩ := List.getElem_of_mem hr
  obtain ⟨a, p, r', -, h1, -, -, -, h2⟩ := h.at hi
  rw [List.getElem?_eq_getElem hi, e] at h1
  injection h1 with h1
  subst h1
  unfold edsR at hx
  obtain ⟨q, hq, rfl⟩ := List.mem_map.1 hx
  have h3 := h2.arcs.2 q hq
  exact ⟨h2.fit, h3.1, h3.2⟩
theorem edges_take {l : List RwD} {k : Nat} {r : RwD} (h : l[k]? = some r) : edgesG (l.take (k + 1)) = edgesG (l.take k) ++ edsR r := by
  rw [List.take_add_one, h]
  exact edgesG_snoc _ _
theorem edges_part {l : List RwD} {k j : Nat} {r : RwD} (h : l[k]? = some r) : (edgesG (l.take k) ++ (edsR r).take j).length ≤ (edgesG l).length := by
  have h1 : (edgesG l).length = (edgesG (l.take (k + 1))).length + (edgesG (l.drop (k + 1))).length := by
    rw [← List.length_append, ← edgesG_append, List.take_append_drop]
  rw [edges_take h] at h1
  rw [List.length_append] at h1 ⊢
  have : ((edsR r).take j).length ≤ (edsR r).length := by rw [List.length_take]; omega
  omega
theorem edsR_length (r : RwD) : (edsR r).length = r.2.length := by simp [edsR]
theorem edsR_take {r : RwD} {j : Nat} {q : ArcD} (h : r.2[j]? = some q) : (edsR r).take (j + 1) = (edsR r).take j ++ [⟨r.1, q.to, q.weight⟩] := by
  rw [List.take_add_one]
  unfold edsR
  rw [List.getElem?_map, h]
  rfl
set_option maxRecDepth 100000 in
set_option maxHeartbeats 2000000 in
theorem gedges_any {w : World} {lo hi : Nat} {g A : Option Addr} {n c : Nat} {l : List RwD} (h : GrAt w lo hi g A n c l) :
    Calls Try.prog 20 #[.pointer g] w (NewE w (edgesG l)) := by
  obtain ⟨i0, hi0, hz0, hz1, hz2⟩ := info_parts ms_info
  have HC := Lib.hid (list_any h)
  have HL := Lib.hid h.len
  have HR := Lib.hid (h.rows.more h.top)
  have HF := Lib.hid h.few
  have hn := h.few.1
  clear h
  go_enter Try.func20, Try.ntmps20
  go_wp2_with fail
  refine HC.out.mono ?_
  rintro e w1 ⟨rfl, hw1⟩
  rw [hw1]
  clear hw1
  go_wp2
  go_loopw [3, 11] (fun v kv wr => ∃ (k m : Nat) (A1 : Option Addr) (c1 : Nat), v = .slice A1 m c1 ∧ kv = .int .i64 (k : Int) ∧ k ≤ n ∧ Hid (wr.ownsRow w.heap.size 58 3 (.slice A1 m c1) m (edCells (edgesG (l.take k)))) ∧ Hid (Below w.heap.size w wr)) (fun _ kv _ => n - (intOf kv).toNat)
  case atStart => exact ⟨0, 0, none, 0, rfl, rfl, Nat.zero_le _, Lib.hid (World.ownsRow_nil _ _ _ _), Lib.hid (Below.refl _ _)⟩
  case round =>
    obtain ⟨k, m, A1, c1, rfl, rfl, hk, HO, HB⟩ := hrel
    by_cases hlt : k < n
    · obtain ⟨a, ⟨s, P, n1, c2⟩, r, rfl, hr, hab, x0, x1, hat⟩ := HR.out.at (k := k) (by rw [HL.out]; exact hlt)
      have c0 := (HB.out.cell (by rw [block_add]; exact hab)).trans x0
      have c1' := (HB.out.cell (p := ⟨(a.add (k * 2)).block, (a.add (k * 2)).off + 1, none⟩) (by show (a.add (k * 2)).block < _; rw [block_add]; exact hab)).trans x1
      dsimp only at c0 c1' hat
      have HRR := Lib.hid hr
      have HAT := Lib.hid hat
      have hlt2 : (k : Int) < (n : Int) := by omega
      obtain ⟨wo, hwo⟩ : ∃ wo, wo = wr := ⟨_, rfl⟩
      subst hwo
      obtain ⟨s1, hs1⟩ : ∃ s1, s1 = r.1 := ⟨_, rfl⟩
      rw [← hs1] at c0
      have HS1 := Lib.hid hs1
      have HLN := Lib.hid hat.len
      dsimp only at HLN
      have hn1 : n1 ≤ 1000000 := by
        have h1 := edges_part (j := (edsR r).length) hr
        have h2 := HF.out.2
        have h3 := HLN.out
        rw [List.take_length, List.length_append, edsR_length] at h1
        omega
      obtain ⟨w3, hw3⟩ : ∃ w3, w3 = wo.alloc (.cells #[.int .u32 (s1 : Int), .slice P n1 c2] 51) := ⟨_, rfl⟩
      have hb3 : Below wo.heap.size wo w3 := by rw [hw3]; exact (Below.refl _ _).alloc (Nat.le_refl _) _
      have HBX := Lib.hid (show Blk w3 wo.heap.size [.int .u32 (s1 : Int), .slice P n1 c2] from by rw [hw3]; exact Blk.new wo [.int .u32 (s1 : Int), .slice P n1 c2] _)
      have HO3 := Lib.hid (own_below' HO.out hb3)
      have HB3 := Lib.hid (HB.out.trans (hb3.mono HB.out.size))
      have HOF := Lib.hid (show (Value.slice A1 m c1).ownBlock ≠ some wo.heap.size from fun e => by have := (HO.out.lt _ e).2; omega)
      have HW3 := Lib.hid hw3
      clear hr hat hs1 x0 x1 hw3 hb3 hab
      go_wp2
      rw [← HW3.out]
      go_loopw [3, 18] (fun v jv w2 => ∃ (j m2 : Nat) (A2 : Option Addr) (c3 : Nat), v = .slice A2 m2 c3 ∧ jv = .int .i64 (j : Int) ∧ j ≤ n1 ∧ Hid (w2.ownsRow w.heap.size 58 3 (.slice A2 m2 c3) m2 (edCells (edgesG (l.take k) ++ (edsR r).take j))) ∧ Hid (Below w.heap.size w w2) ∧ Hid (Blk w2 wo.heap.size [.int .u32 (s1 : Int), .slice P n1 c2] ∧ (Value.slice A2 m2 c3).ownBlock ≠ some wo.heap.size)) (fun _ jv _ => n1 - (intOf jv).toNat)
      case atStart => exact ⟨0, m, A1, c1, rfl, rfl, Nat.zero_le _, Lib.hid (by rw [List.take_zero, List.append_nil]; exact HO3.out), HB3, Lib.hid ⟨HBX.out, HOF.out⟩⟩
      case round =>
        clear HO3 HB3 HBX HOF HO
        obtain ⟨j, m2, A2, c3, rfl, rfl, hj, HO2, HB2, HX⟩ := hrel
        by_cases hjn : j < n1
        · obtain ⟨a2, q, e2, hq, -, d0, d1, -, -⟩ := (HAT.out.arcs.below HB2.out).at (k := j) (by rw [HLN.out]; exact hjn)
          dsimp only at e2
          subst e2
          have r0 := HX.out.1.cell (i := 0) rfl
          have r1 := HX.out.1.cell (i := 1) rfl
          have hjn2 : (j : Int) < (n1 : Int) := by omega
          have HLST := Lib.hid (show edCells (edgesG (l.take k) ++ (edsR r).take j) ++ edCells [⟨s1, q.to, q.weight⟩] = edCells (edgesG (l.take k) ++ (edsR r).take (j + 1)) from by
            rw [edsR_take hq, ← HS1.out, ← List.append_assoc, ← edCells_append])
          have hm2 : m2 + 1 ≤ 1000000 := by
            have h1 := HO2.out.1
            have h2 := edges_part (j := j + 1) HRR.out
            have h3 := HF.out.2
            rw [edCells_length] at h1
            rw [edsR_take hq, ← List.append_assoc, List.length_append, List.length_singleton] at h2
            omega
          obtain ⟨w4, hw4⟩ : ∃ w4, w4 = (wr.alloc (.cells #[.int .u32 (q.to : Int), .int .u32 (q.weight : Int)] 55)).alloc (.cells #[.int .u32 (s1 : Int), .int .u32 (q.to : Int), .int .u32 (q.weight : Int)] 58) := ⟨_, rfl⟩
          have hb4 : Below wr.heap.size wr w4 := by rw [hw4]; exact ((Below.refl _ _).alloc (Nat.le_refl _) _).alloc (by simp) _
          have hs4 : w4.heap.size = wr.heap.size + 2 := by rw [hw4]; simp
          have HC4 := Lib.hid (show ∀ i u, (edCells [(⟨s1, q.to, q.weight⟩ : EdD)])[i]? = some u → w4.cell? ((⟨wr.heap.size + 1, 0, none⟩ : Addr).add i) = some u from by
            have := cells_new (wr.alloc (.cells #[.int .u32 (q.to : Int), .int .u32 (q.weight : Int)] 55)) (edCells [(⟨s1, q.to, q.weight⟩ : EdD)]) 58 (by simp [edCells])
            rw [World.size_alloc] at this
            rw [hw4]
            exact this)
          have HO4 := Lib.hid (own_below' HO2.out hb4)
          have HX4 := Lib.hid (HX.out.1.past hb4)
          have HXN := Lib.hid HX.out.2
          have HB4 := Lib.hid (HB2.out.trans (hb4.mono HB2.out.size))
          have HXL := Lib.hid HX.out.1.lt
          have hxl := HX.out.1.lt
          have HMX := Lib.hid (show m2 + 1 ≤ maxLen ∧ (m2 + 1) * 12 ≤ 140737488355328 by unfold maxLen; omega)
          have HW4 := Lib.hid hw4
          have HS4 := Lib.hid hs4
          have hws := HB2.out.size
          clear hq hw4 hb4 hs4 HO2 HX
          go_wp2_with (at_builtin
                       rw [← HW4.out]
                       go_loud (refine wpList_append_own_at _ rfl (.tmp 22) (.tmp 30) 22 rfl w.heap.size 58 i0 _ 3 12 Try.underlying22 hi0 hz0 hz1 hz2 rfl (by decide) (.slice A2 m2 c3) m2 _ rfl HO4.out ⟨wr.heap.size + 1, 0, none⟩ 1 1 (edCells [⟨s1, q.to, q.weight⟩]) rfl rfl HC4.out edCells_one HMX.out.1 HMX.out.2 (by rw [HS4.out]; omega) ?_)
                       intro v7 w7 ho7 hg7 hnn7 hn7
                       refine Classical.byContradiction fun hcontra => ?_)
          obtain ⟨A7, c7, hv7, -⟩ := own_slice' ho7
          subst hv7
          rw [HLST.out] at ho7
          have HO7 := Lib.hid ho7
          have HB7 := Lib.hid (HB4.out.grown hg7 (by rw [HS4.out]; omega) (fun i e => (HO4.out.lt i e).1))
          have HX7 := Lib.hid (show Blk w7 wo.heap.size [.int .u32 (s1 : Int), .slice (some a2) n1 c2] ∧ (Value.slice A7 (m2 + 1) c7).ownBlock ≠ some wo.heap.size from ⟨HX4.out.grown hg7 HXN.out, fun e => by
            rcases hn7 with h7 | h7
            · exact HXN.out (h7.symm.trans e)
            · rw [h7] at e
              injection e with e
              have := HXL.out
              have := HS4.out
              omega⟩)
          clear ho7 hg7 hnn7 hn7 d0 d1 r0 r1
          apply hcontra
          clear hcontra
          go_wp2
          go_roundw
          case rel => exact ⟨j + 1, m2 + 1, A7, c7, rfl, by go_num, by omega, HO7, HB7, HX7⟩
          case measure => simp [intOf]; omega
        · have e : j = n1 := by omega
          subst e
          have HO9 := Lib.hid (show wr.ownsRow w.heap.size 58 3 (.slice A2 m2 c3) m2 (edCells (edgesG (l.take (k + 1)))) from by
            have := HO2.out
            rw [show (edsR r).take j = edsR r from List.take_of_length_le (by rw [edsR_length, HLN.out]; exact Nat.le_refl _), ← edges_take HRR.out] at this
            exact this)
          clear HO2 HX
          go_wp2
          go_roundw
          case rel => exact ⟨k + 1, m2, A2, c3, rfl, by go_num, by omega, HO9, HB2⟩
          case measure => simp [intOf]; omega
    · have e : k = n := by omega
      subst e
      have HO9 := Lib.hid (show wr.ownsRow w.heap.size 58 3 (.slice A1 m c1) m (edCells (edgesG l)) from by
        have := HO.out
        rw [List.take_of_length_le (by rw [HL.out]; exact Nat.le_refl _)] at this
        exact this)
      clear HO
      go_wp2
      go_ret
      exact ⟨A1, m, c1, rfl, by have := HO9.out.1; rw [edCells_length] at this; omega, HO9.out, HB.out⟩
end Go.Proofs.Yteaibgnelnblnaa
end
section
namespace Go.Proofs.Yteaibgnelnblnaa
open Go.RowKit Me Tx Ed Mg Va

/-- Arcs, anywhere. -/
def SomeA (w : World) (l : List ArcD) (e : Ending) (w' : World) : Prop :=
  ∃ A n c, e = .returned (.slice A n c) ∧ l.length = n ∧ n ≤ c ∧ c ≤ 9223372036854775807 ∧ Arcs w' w'.heap.size A l ∧ Below w.heap.size w w'
variable {lo : Nat} {A : Option Addr} {n c : Nat} {l : List RwD} {w : World}
set_option maxRecDepth 100000 in
set_option maxHeartbeats 1000000 in
theorem rarcs_any (hl : l.length = n) (hn : n ≤ 1000000) (hr : RowsAt w lo w.heap.size A l) (v : Nat) :
    Calls Try.prog 16 #[.slice A n c, .int .u32 (v : Int)] w (SomeA w (arcsG l v)) := by
  have HL := Lib.hid hl
  have HR := Lib.hid hr
  clear hl hr
  go_enter Try.func16, Try.ntmps16
  go_wp2
  go_loopw [8] (fun kv wr => ∃ k : Nat, kv = .int .i64 (k : Int) ∧ k ≤ n ∧ Hid (∀ j s, j < k → l[j]? = some s → s.1 ≠ v) ∧ Hid (Below w.heap.size w wr)) (fun kv _ => n - (intOf kv).toNat)
  case atStart => exact ⟨0, rfl, Nat.zero_le _, Lib.hid (fun j s hj => by omega), Lib.hid (Below.refl _ _)⟩
  case round =>
    obtain ⟨k, rfl, hk, HI, HB⟩ := hrel
    by_cases hlt : k < n
    · obtain ⟨a, ⟨s, P, n1, c2⟩, r, rfl, hr, -, c0, c1', hat⟩ := (HR.out.below HB.out).at (k := k) (by rw [HL.out]; exact hlt)
      have hlt2 : (k : Int) < (n : Int) := by omega
      dsimp only at c0 c1' hat
      obtain ⟨s1, hs1⟩ : ∃ s1, s1 = r.1 := ⟨_, rfl⟩
      rw [← hs1] at c0
      by_cases hv : s1 = v
      · have d0 : ((s1 : Int) == (v : Int)) = true := by simp [hv]
        have FIN := Lib.hid (show SomeA w (arcsG l v) (.returned (.slice P n1 c2)) wr from by
          rw [arcsG_first hr (hs1.symm.trans hv) HI.out]
          exact ⟨_, _, _, rfl, hat.len, hat.cap.1, hat.cap.2, hat.arcs.more HB.out.size, HB.out⟩)
        clear hr hat hs1 hv
        go_wp2
        go_ret
        exact FIN.out
      · have d0 : ((s1 : Int) == (v : Int)) = false := by rw [beq_eq_false_iff_ne]; omega
        have HI2 := Lib.hid (show ∀ j s, j < k + 1 → l[j]? = some s → s.1 ≠ v from fun j s hj hs => by
          by_cases hjk : j < k
          · exact HI.out j s hjk hs
          · have e : j = k := by omega
            subst e
            rw [hr] at hs
            injection hs with hs
            rw [← hs, ← hs1]
            exact hv)
        clear hr hat hs1 hv
        go_wp2
        go_roundw
        case rel => exact ⟨k + 1, by go_num, by omega, HI2, HB⟩
        case measure => simp [intOf]; omega
    · have FIN := Lib.hid (show arcsG l v = [] from arcsG_none fun r hr => by
        obtain ⟨i, hi, e⟩ := List.getElem_of_mem hr
        have h1 := HL.out
        exact HI.out i r (by omega) (by rw [List.getElem?_eq_getElem hi, e]))
      have HB2 := Lib.hid (show Below w.heap.size w (wr.alloc (.cells #[] 55)) from HB.out.alloc HB.out.size _)
      go_wp2
      go_ret
      rw [FIN.out]
      exact ⟨_, 0, 0, rfl, rfl, Nat.le_refl _, by omega, Arcs.empty, HB2.out⟩
set_option maxRecDepth 100000 in
set_option maxHeartbeats 1000000 in
theorem rnear_any (hl : l.length = n) (hn : n ≤ 1000000) (hr : RowsAt w lo w.heap.size A l) (hok : GOk l) (v t : Nat) :
    Calls Try.prog 18 #[.slice A n c, .int .u32 (v : Int), .int .u32 (t : Int)] w fun e w' => e = .returned (.bool (nearG (arcsG l v) t)) ∧ Below w.heap.size w w' := by
  have HC := Lib.hid (rarcs_any (c := c) hl hn hr v)
  have hm : (arcsG l v).length ≤ 2147483647 := by
    by_cases h0 : arcsG l v = []
    · rw [h0]; simp
    · obtain ⟨r, hr, -, e⟩ := arcsG_mem h0
      rw [e]
      exact may_few (hok.full r hr).2
  have HM := Lib.hid hm
  clear hl hr hok hm
  go_enter Try.func18, Try.ntmps18
  go_wp2_with fail
  refine HC.out.mono ?_
  rintro e w1 ⟨A1, n1, c1, rfl, h1, h2, h3, h4, hb⟩
  obtain ⟨L, hL⟩ : ∃ L, L = arcsG l v := ⟨_, rfl⟩
  rw [← hL] at h1 h4 HM
  have HLL := Lib.hid hL
  have HL := Lib.hid h1
  have HA := Lib.hid h4
  have HB := Lib.hid hb
  have hn1 : n1 ≤ 2147483647 := by rw [← h1]; exact HM.out
  clear h1 h2 h3 h4 hb hL
  go_wp2
  go_loopw [14] (fun kv wr => ∃ k : Nat, kv = .int .i64 (k : Int) ∧ k ≤ n1 ∧ Hid (∀ j q, j < k → L[j]? = some q → q.to ≠ t) ∧ Hid (Below w1.heap.size w1 wr)) (fun kv _ => n1 - (intOf kv).toNat)
  case atStart => exact ⟨0, rfl, Nat.zero_le _, Lib.hid (fun j s hj => by omega), Lib.hid (Below.refl _ _)⟩
  case round =>
    obtain ⟨k, rfl, hk, HI, HB2⟩ := hrel
    by_cases hlt : k < n1
    · obtain ⟨a, q, rfl, hq, -, c0, -, -, -⟩ := (HA.out.below HB2.out).at (k := k) (by rw [HL.out]; exact hlt)
      have hlt2 : (k : Int) < (n1 : Int) := by omega
      obtain ⟨s1, hs1⟩ : ∃ s1, s1 = q.to := ⟨_, rfl⟩
      rw [← hs1] at c0
      by_cases hv : s1 = t
      · have d0 : ((s1 : Int) == (t : Int)) = true := by simp [hv]
        have FIN := Lib.hid (show nearG (arcsG l v) t = true ∧ Below w.heap.size w wr from ⟨by
          rw [← HLL.out]
          exact List.any_eq_true.2 ⟨q, List.mem_of_getElem? hq, decide_eq_true (hs1.symm.trans hv)⟩, HB.out.trans (HB2.out.mono HB.out.size)⟩)
        clear hq hs1 hv
        go_wp2
        go_ret
        exact ⟨by rw [FIN.out.1]; rfl, FIN.out.2⟩
      · have d0 : ((s1 : Int) == (t : Int)) = false := by rw [beq_eq_false_iff_ne]; omega
        have HI2 := Lib.hid (show ∀ j q, j < k + 1 → L[j]? = some q → q.to ≠ t from fun j s hj hs => by
          by_cases hjk : j < k
          · exact HI.out j s hjk hs
          · have e : j = k := by omega
            subst e
            rw [hq] at hs
            injection hs with hs
            rw [← hs, ← hs1]
            exact hv)
        clear hq hs1 hv
        go_wp2
        go_roundw
        case rel => exact ⟨k + 1, by go_num, by omega, HI2, HB2⟩
        case measure => simp [intOf]; omega
    · have FIN := Lib.hid (show nearG (arcsG l v) t = false ∧ Below w.heap.size w wr from ⟨by
        rw [← HLL.out]
        exact List.any_eq_false.2 fun q hq e => by
          obtain ⟨i, hi, e'⟩ := List.getElem_of_mem hq
          have h1 := HL.out
          exact HI.out i q (by omega) (by rw [List.getElem?_eq_getElem hi, e']) (of_decide_eq_true e), HB.out.trans (HB2.out.mono HB.out.size)⟩)
      go_wp2
      go_ret
      exact ⟨by rw [FIN.out.1]; rfl, FIN.out.2⟩
/-- What is known of each slot where an edge is put behind others. -/
def reG (a a2 : Addr) (k j n c n1 c2 m2 c3 : Nat) (A2 : Option Addr) (x : EdD) : Gw.Fact := fun t v W =>
  match t with
  | 0 | 22 | 27 | 36 => v = .slice (some a) n c
  | 4 | 23 | 28 | 37 => v = .int .i64 (k : Int)
  | 5 | 32 | 41 => v = .int .i64 (j : Int)
  | 3 | 21 => v = .slice A2 m2 c3
  | 24 | 25 | 29 | 38 => v = .pointer (some (a.add (k * 2)))
  | 26 => v = .int .u32 (x.src : Int)
  | 30 | 39 => v = .pointer (some ⟨(a.add (k * 2)).block, (a.add (k * 2)).off + 1, none⟩)
  | 31 | 40 => v = .slice (some a2) n1 c2
  | 33 | 34 | 42 => v = .pointer (some (a2.add (j * 2)))
  | 35 => v = .int .u32 (x.dst : Int)
  | 43 => v = .pointer (some ⟨(a2.add (j * 2)).block, (a2.add (j * 2)).off + 1, none⟩)
  | 44 => v = .int .u32 (x.wgt : Int)
  | 45 => v = Ed.agg x
  | 46 => ∃ b, v = .slice (some ⟨b, 0, none⟩) 1 1 ∧ b < W.heap.size ∧ ∀ i u, (edCells [x])[i]? = some u → W.cell? ((⟨b, 0, none⟩ : Addr).add i) = some u
  | _ => True
set_option maxRecDepth 100000 in
set_option maxHeartbeats 4000000 in
theorem redges_any (hl : l.length = n) (hn : n ≤ 1000000) (hfew : (edgesG l).length ≤ 1000000) (hr : RowsAt w lo w.heap.size A l) :
    Calls Try.prog 21 #[.slice A n c] w (NewE w (edgesG l)) := by
  obtain ⟨i0, hi0, hz0, hz1, hz2⟩ := info_parts ms_info
  have HL := Lib.hid hl
  have HR := Lib.hid hr
  have HF := Lib.hid hfew
  have HO0 := Lib.hid (show (w.alloc (.cells #[] 58)).ownsRow w.heap.size 58 3 (.slice (some ⟨w.heap.size, 0, none⟩) 0 0) 0 [] from ⟨rfl, .inr ⟨w.heap.size, 0, #[], rfl, Nat.le_refl _, heap_alloc_new w _, Nat.le_refl _, by decide, rfl, rfl⟩⟩)
  have HB0 := Lib.hid (show Below w.heap.size w (w.alloc (.cells #[] 58)) from (Below.refl _ _).alloc (Nat.le_refl _) _)
  clear hl hr hfew
  go_enter Try.func21, Try.ntmps21
  go_wp2
  go_loopw [3, 9] (fun v kv wr => ∃ (k m : Nat) (A1 : Option Addr) (c1 : Nat), v = .slice A1 m c1 ∧ kv = .int .i64 (k : Int) ∧ k ≤ n ∧ Hid (wr.ownsRow w.heap.size 58 3 (.slice A1 m c1) m (edCells (edgesG (l.take k)))) ∧ Hid (Below w.heap.size w wr)) (fun _ kv _ => n - (intOf kv).toNat)
  case atStart => exact ⟨0, 0, some ⟨w.heap.size, 0, none⟩, 0, rfl, rfl, Nat.zero_le _, Lib.hid HO0.out, Lib.hid HB0.out⟩
  case round =>
    obtain ⟨k, m, A1, c1, rfl, rfl, hk, HO, HB⟩ := hrel
    by_cases hlt : k < n
    · obtain ⟨a, ⟨s, P, n1, c2⟩, r, rfl, hr, hab, x0, x1, hat⟩ := HR.out.at (k := k) (by rw [HL.out]; exact hlt)
      dsimp only at x0 x1 hat
      have HX := Lib.hid (show ∀ W, Below w.heap.size w W → W.cell? (a.add (k * 2)) = some (.int .u32 (r.1 : Int)) ∧ W.cell? ⟨(a.add (k * 2)).block, (a.add (k * 2)).off + 1, none⟩ = some (.slice P n1 c2) from fun W hW =>
        ⟨(hW.cell (by rw [block_add]; exact hab)).trans x0, (hW.cell (p := ⟨(a.add (k * 2)).block, (a.add (k * 2)).off + 1, none⟩) (by show (a.add (k * 2)).block < _; rw [block_add]; exact hab)).trans x1⟩)
      have HRR := Lib.hid hr
      have HAT := Lib.hid hat
      have hlt2 : (k : Int) < (n : Int) := by omega
      have hkk : k < n := hlt
      have HLN := Lib.hid hat.len
      dsimp only at HLN
      have hn1 : n1 ≤ 1000000 := by
        have h1 := edges_part (j := (edsR r).length) hr
        have h2 := HF.out
        have h3 := HLN.out
        rw [List.take_length, List.length_append, edsR_length] at h1
        omega
      obtain ⟨-, c1'⟩ := HX.out wr HB.out
      clear hr hat x0 x1 hab
      go_wp2
      clear c1'
      go_loopw [3, 18] (fun v jv w2 => ∃ (j m2 : Nat) (A2 : Option Addr) (c3 : Nat), v = .slice A2 m2 c3 ∧ jv = .int .i64 (j : Int) ∧ j ≤ n1 ∧ Hid (w2.ownsRow w.heap.size 58 3 (.slice A2 m2 c3) m2 (edCells (edgesG (l.take k) ++ (edsR r).take j))) ∧ Hid (Below w.heap.size w w2)) (fun _ jv _ => n1 - (intOf jv).toNat)
      case atStart => exact ⟨0, m, A1, c1, rfl, rfl, Nat.zero_le _, Lib.hid (by rw [List.take_zero, List.append_nil]; exact HO.out), HB⟩
      case round =>
        clear HO
        obtain ⟨j, m2, A2, c3, rfl, rfl, hj, HO2, HB2⟩ := hrel
        by_cases hjn : j < n1
        · obtain ⟨a2, q, e2, hq, hb2, d0, d1, -, -⟩ := HAT.out.arcs.at (k := j) (by rw [HLN.out]; exact hjn)
          dsimp only at e2
          subst e2
          obtain ⟨x, hx⟩ : ∃ x : EdD, x = ⟨r.1, q.to, q.weight⟩ := ⟨_, rfl⟩
          have HD := Lib.hid (show ∀ W, Below w.heap.size w W → W.cell? (a2.add (j * 2)) = some (.int .u32 (x.dst : Int)) ∧ W.cell? ⟨(a2.add (j * 2)).block, (a2.add (j * 2)).off + 1, none⟩ = some (.int .u32 (x.wgt : Int)) ∧ W.cell? (a.add (k * 2)) = some (.int .u32 (x.src : Int)) from fun W hW => by
            rw [hx]
            exact ⟨(hW.cell (by rw [block_add]; exact hb2)).trans d0, (hW.cell (p := ⟨(a2.add (j * 2)).block, (a2.add (j * 2)).off + 1, none⟩) (by show (a2.add (j * 2)).block < _; rw [block_add]; exact hb2)).trans d1, (HX.out W hW).1⟩)
          have HLST := Lib.hid (show edCells (edgesG (l.take k) ++ (edsR r).take j) ++ edCells [x] = edCells (edgesG (l.take k) ++ (edsR r).take (j + 1)) from by
            rw [edsR_take hq, ← hx, ← List.append_assoc, ← edCells_append])
          have hm2 : m2 + 1 ≤ 1000000 := by
            have h1 := HO2.out.1
            have h2 := edges_part (j := j + 1) HRR.out
            have h3 := HF.out
            rw [edCells_length] at h1
            rw [edsR_take hq, ← List.append_assoc, List.length_append, List.length_singleton] at h2
            omega
          have hws := HB2.out.size
          have hjn2 : (j : Int) < (n1 : Int) := by omega
          clear hq hb2 d0 d1 hx
          go_wp2_with fail
          refine wp_region_tlT (tail := [_, _]) 26 (reG a a2 k j n c n1 c2 m2 c3 A2 x) [21, 22, 23, 24, 25, 26, 27, 28, 29, 30, 31, 32, 33, 34, 35, 36, 37, 38, 39, 40, 41, 42, 43, 44, 45, 46] [([3], none), ([0], none), ([4], none), ([22, 23], none), ([24], none), ([25], none), ([0], none), ([4], none), ([27, 28], none), ([29], none), ([30], none), ([5], none), ([31, 32], none), ([33], none), ([34], none), ([0], none), ([4], none), ([36, 37], none), ([38], none), ([39], none), ([5], none), ([40, 41], none), ([42], none), ([43], none), ([26, 35, 44], none), ([45], none)] 51 (by kernel_rfl) (by kernel_rfl) rfl ?h0 ?hreq rfl ?hend
          case h0 =>
            intro t W hnd _
            unfold reG
            split <;> first | rfl | trivial | exact absurd (by simp) hnd
          case hreq =>
            refine ⟨?_, ?_, ?_, ?_, ?_, ?_, ?_, ?_, ?_, ?_, ?_, ?_, ?_, ?_, ?_, ?_, ?_, ?_, ?_, ?_, ?_, ?_, ?_, ?_, ?_, ?_, trivial⟩
            all_goals
              intro ac W hg hk
              have hg' : Below wr.heap.size wr W := hg
              have hW := HB2.out.trans (hg'.mono HB2.out.size)
              obtain ⟨z0, z1, z2⟩ := HD.out W hW
              obtain ⟨-, z3⟩ := HX.out W hW
              simp only [Gw.Knows, reG] at hk
              try (simp [go_sem, Gw.OpReq, Gw.Ok, Gw.Post, Gw.Holds, reG, Gw.Grows.refl, hk, z0, z1, z2, z3, hkk, hjn]; done)
            simp [go_sem, Gw.OpReq, Gw.Ok, Gw.Post, Gw.Holds, reG, hk]
            refine ⟨(Below.refl _ _).alloc (Nat.le_refl _) _, fun W2 hW2 => ?_⟩
            have hg2 : Below (W.alloc (.cells #[.int .u32 (x.src : Int), .int .u32 (x.dst : Int), .int .u32 (x.wgt : Int)] 58)).heap.size (W.alloc (.cells #[.int .u32 (x.src : Int), .int .u32 (x.dst : Int), .int .u32 (x.wgt : Int)] 58)) W2 := hW2
            have hs2 := hg2.size
            rw [World.size_alloc] at hs2
            refine ⟨by omega, fun j u hu => ?_⟩
            have h1 := cells_new W (edCells [x]) 58 (by simp [edCells]) j u hu
            rw [show (⟨W.heap.size, 0, none⟩ : Addr).add j = ⟨W.heap.size, j, none⟩ by simp [Addr.add]; omega] at h1
            exact (hg2.cell (by rw [World.size_alloc]; exact Nat.lt_succ_self _)).trans h1
          case hend =>
            intro y w8 hg hy
            have h21 := (hy 21 (by simp)).now
            obtain ⟨b, h46, hb46, hc46⟩ := (hy 46 (by simp)).now
            have hg' : Below wr.heap.size wr w8 := hg
            simp only [reG] at h21
            simp only [Gw.putAll, Act.put, List.setIfInBounds_toArray, List.set_cons_zero, List.set_cons_succ]
            rw [h21, h46]
            refine tl_append (.tmp 21) (.tmp 46) 22 rfl w.heap.size 58 i0 _ 3 12 Try.underlying22 hi0 hz0 hz1 hz2 rfl (by decide) A2 m2 c3 _ rfl (own_below' HO2.out hg') ⟨b, 0, none⟩ 1 1 (edCells [x]) rfl rfl hc46 edCells_one (by decide) (by unfold maxLen; omega) (by omega) (by have := hg'.size; omega) ?_
            intro v9 w9 ho9 hg9 hn9
            obtain ⟨A9, c9, hv9, -⟩ := own_slice' ho9
            subst hv9
            have HB9 := Lib.hid (show Below w.heap.size w w9 from (HB2.out.trans (hg'.mono HB2.out.size)).grown hg9 (Nat.le_trans HB2.out.size hg'.size) (fun j e => (HO2.out.lt j e).1))
            rw [HLST.out] at ho9
            have HO9 := Lib.hid ho9
            clear ho9 hg9 hn9 h21 h46 hb46 hc46 hg' hg hy
            refine ⟨?_⟩
            refine Gw.wp_assign (.tmp 47) _ rfl rfl ?_
            simp only [Gw.seqTail, Act.put, List.setIfInBounds_toArray, List.set_cons_zero, List.set_cons_succ]
            go_wp2
            go_roundw
            case rel => exact ⟨j + 1, m2 + 1, A9, c9, rfl, by go_num, by omega, HO9, HB9⟩
            case measure => simp [intOf]; omega
        · have e : j = n1 := by omega
          subst e
          have HO9 := Lib.hid (show wr.ownsRow w.heap.size 58 3 (.slice A2 m2 c3) m2 (edCells (edgesG (l.take (k + 1)))) from by
            have := HO2.out
            rw [show (edsR r).take j = edsR r from List.take_of_length_le (by rw [edsR_length, HLN.out]; exact Nat.le_refl _), ← edges_take HRR.out] at this
            exact this)
          clear HO2
          go_wp2
          go_roundw
          case rel => exact ⟨k + 1, m2, A2, c3, rfl, by go_num, by omega, HO9, HB2⟩
          case measure => simp [intOf]; omega
    · have e : k = n := by omega
      subst e
      have HO9 := Lib.hid (show wr.ownsRow w.heap.size 58 3 (.slice A1 m c1) m (edCells (edgesG l)) from by
        have := HO.out
        rw [List.take_of_length_le (by rw [HL.out]; exact Nat.le_refl _)] at this
        exact this)
      clear HO
      go_wp2
      go_ret
      exact ⟨A1, m, c1, rfl, by have := HO9.out.1; rw [edCells_length] at this; omega, HO9.out, HB.out⟩
end Go.Proofs.Yteaibgnelnblnaa
end
section
namespace Go.Proofs.Yteaibgnelnblnaa
open Go.RowKit Me Tx Ed Mg Va

theorem bs_info : (Try.prog.info? 62).map (fun i => (i.zero, i.size, i.bytes)) = some (some (.slice none 0 0), 1, 24) := by kernel_rfl
/-- A text in memory, apart from a block. -/
def PcOff (w : World) (g : Option Nat) (p : Pc) : Prop := ∃ a n c, p.1 = .slice (some a) n c ∧ p.2.length = n ∧ n ≤ c ∧ c ≤ 9223372036854775807 ∧ a.block < w.heap.size ∧ (∀ i u, p.2[i]? = some u → w.cell? (a.add i) = some (.int .u8 (u.toNat : Int))) ∧ g ≠ some a.block
theorem PcOff.at {w : World} {g : Option Nat} {p : Pc} (h : PcOff w g p) : PcAt w w.heap.size p := by
  obtain ⟨a, n, c, h1, h2, h3, h4, h5, h6, -⟩ := h
  exact ⟨some a, n, c, h1, h2, h3, h4, fun _ => ⟨a, rfl, h5, h6⟩⟩
theorem PcOff.below {w w' : World} {g : Option Nat} {p : Pc} (h : PcOff w g p) (hb : Below w.heap.size w w') : PcOff w' g p := by
  obtain ⟨a, n, c, h1, h2, h3, h4, h5, h6, h7⟩ := h
  exact ⟨a, n, c, h1, h2, h3, h4, Nat.lt_of_lt_of_le h5 hb.size, fun i u hu => (hb.cell (by rw [block_add]; exact h5)).trans (h6 i u hu), h7⟩
theorem PcOff.grown {w w' : World} {g g' : Option Nat} {p : Pc} (h : PcOff w g p) (hg : w.grownBy w' g) (hn : g' = g ∨ g' = some w.heap.size) : PcOff w' g' p := by
  obtain ⟨a, n, c, h1, h2, h3, h4, h5, h6, h7⟩ := h
  refine ⟨a, n, c, h1, h2, h3, h4, Nat.lt_of_lt_of_le h5 hg.size, fun i u hu => ?_, ?_⟩
  · exact (World.cell?_of_block (a := a.add i) (hg.block _ (by rw [block_add]; exact h5) (by rw [block_add]; exact fun e => h7 e.symm))).trans (h6 i u hu)
  · rcases hn with rfl | rfl
    · exact h7
    · intro e; injection e with e; omega
/-- The keys that are there so far. -/
structure KsAt (w : World) (base : Nat) (A : Option Addr) (n c : Nat) (vs : List Pc) : Prop where
  own : w.ownsRow base 62 1 (.slice A n c) n (vs.map Prod.fst)
  all : ∀ p ∈ vs, PcOff w (Value.slice A n c).ownBlock p
theorem KsAt.rows {w : World} {base n c : Nat} {A : Option Addr} {vs : List Pc} (h : KsAt w base A n c vs) : BRows w w.heap.size A vs := ⟨Cs.of_own h.own, fun p hp => (h.all p hp).at⟩
theorem KsAt.len {w : World} {base n c : Nat} {A : Option Addr} {vs : List Pc} (h : KsAt w base A n c vs) : vs.length = n := by
  have := h.own.1
  rw [List.length_map] at this
  omega
set_option maxRecDepth 100000 in
set_option maxHeartbeats 2000000 in
theorem rkeys_any (Al : Option Addr) (n cl : Nat) (l : List EdD) (hl : l.length = n) (hn : n ≤ 1000000) (w : World) (hc : Cs w w.heap.size Al (edCells l)) (hf : ∀ x ∈ l, FitE x) :
    Calls Try.prog 33 #[.slice Al n cl] w fun e w' => ∃ A c es, e = .returned (.slice A n c) ∧ es.length = n ∧ n ≤ c ∧ c ≤ 9223372036854775807 ∧ es.map Prod.snd = l.map keyB ∧ BRows w' w'.heap.size A es ∧ Below w.heap.size w w' := by
  have HL := Lib.hid hl
  have HC := Lib.hid hc
  have HF := Lib.hid hf
  obtain ⟨i0, hi0, hz0, hz1, hz2⟩ := info_parts bs_info
  have H0 := Lib.hid (show KsAt (w.alloc (.cells #[] 62)) w.heap.size (some ⟨w.heap.size, 0, none⟩) 0 0 [] ∧ Below w.heap.size w (w.alloc (.cells #[] 62)) from
    ⟨⟨⟨rfl, .inr ⟨w.heap.size, 0, #[], rfl, Nat.le_refl _, heap_alloc_new w _, Nat.le_refl _, by decide, rfl, rfl⟩⟩, fun p hp => (by cases hp)⟩, (Below.refl _ _).alloc (Nat.le_refl _) _⟩)
  clear hl hc hf
  go_enter Try.func33, Try.ntmps33
  go_wp2
  go_loopw [3, 8] (fun v kv wr => ∃ (k : Nat) (A : Option Addr) (c : Nat) (vs : List Pc), v = .slice A k c ∧ kv = .int .i64 (k : Int) ∧ k ≤ n ∧ Hid (KsAt wr w.heap.size A k c vs) ∧ Hid (vs.map Prod.snd = (l.take k).map keyB) ∧ Hid (Below w.heap.size w wr)) (fun _ kv _ => n - (intOf kv).toNat)
  case atStart => exact ⟨0, some ⟨w.heap.size, 0, none⟩, 0, [], rfl, rfl, Nat.zero_le _, Lib.hid H0.out.1, Lib.hid rfl, Lib.hid H0.out.2⟩
  case round =>
    clear H0
    obtain ⟨wo, rfl⟩ : ∃ wo, wo = wr := ⟨_, rfl⟩
    obtain ⟨k, A, c, vs, rfl, rfl, hk, HO, HV, HB⟩ := hrel
    by_cases hlt : k < n
    · obtain ⟨x, hx⟩ : ∃ x, l[k]? = some x := ⟨_, List.getElem?_eq_getElem (by rw [HL.out]; exact hlt)⟩
      obtain ⟨al, rfl, hab, hat⟩ := eds_at HC.out hx
      obtain ⟨x0, x1, x2⟩ := hat.below HB.out (by rw [block_add]; exact hab)
      have HX := Lib.hid hx
      have HKY := Lib.hid (rkey_any x (HF.out x (List.mem_of_getElem? hx)) wo)
      have hlt2 : (k : Int) < (n : Int) := by omega
      clear hx hat hab
      go_wp2_with fail
      refine HKY.out.mono ?_
      rintro e w1 h1
      obtain ⟨A1, n1, k1, rfl, hl1, hn1, ho1, hr1, hb1⟩ := h1.open
      rw [keyB_length] at hl1
      subst hl1
      obtain ⟨w1a, hw1a⟩ : ∃ w1a, w1a = w1.alloc (.cells #[.slice A1 12 k1] 62) := ⟨_, rfl⟩
      have hb1a : Below w1.heap.size w1 w1a := by rw [hw1a]; exact (Below.refl _ _).alloc (Nat.le_refl _) _
      have HB1 := Lib.hid hb1
      have HB1a := Lib.hid hb1a
      have HS1 := Lib.hid (show w1a.heap.size = w1.heap.size + 1 by rw [hw1a]; simp)
      have HNEW := Lib.hid (show PcOff w1a (Value.slice A k c).ownBlock (.slice A1 12 k1, keyB x) from by
        obtain ⟨a, rfl, hlt1, hcl⟩ := hr1 (by rw [keyB_length]; omega)
        have hbs := own_bounds ho1
        obtain ⟨g, cap, hf', hg1, -⟩ := ho1.form (by omega)
        refine ⟨a, 12, k1, rfl, keyB_length x, hbs.1, hbs.2, Nat.lt_of_lt_of_le hlt1 hb1a.size, fun i u hu => (hb1a.cell (by rw [block_add]; exact hlt1)).trans (hcl i u hu), fun e => ?_⟩
        have h2 := (HO.out.own.lt _ e).2
        have h3 := (ho1.lt a.block rfl).1
        omega)
      have HOA := Lib.hid (own_below' (own_below' HO.out.own hb1) hb1a)
      have HALL := Lib.hid (show ∀ p ∈ vs, PcOff w1a (Value.slice A k c).ownBlock p from fun p hp => ((HO.out.all p hp).below hb1).below hb1a)
      have HC1 := Lib.hid (show ∀ j u, ([.slice A1 12 k1] : List Value)[j]? = some u → w1a.cell? ((⟨w1.heap.size, 0, none⟩ : Addr).add j) = some u from by rw [hw1a]; exact cell_one_new w1 _ _)
      have HMX := Lib.hid (show k + 1 ≤ maxLen ∧ (k + 1) * 24 ≤ 140737488355328 by unfold maxLen; omega)
      have HW1A := Lib.hid hw1a
      have hws := HB.out.size
      clear h1 hn1 ho1 hr1 hb1 hb1a hw1a x0 x1 x2
      go_wp2_with (at_builtin
                   rw [← HW1A.out]
                   go_loud (refine wpList_append_own_at _ rfl (.tmp 11) (.tmp 17) 61 rfl w.heap.size 62 i0 _ 1 24 Try.underlying61 hi0 hz0 hz1 hz2 rfl (by decide) (.slice A k c) k _ rfl HOA.out ⟨w1.heap.size, 0, none⟩ 1 1 [.slice A1 12 k1] rfl rfl HC1.out (fun u hu => by rw [List.mem_singleton.1 hu]; rfl) HMX.out.1 HMX.out.2 (by have := HB1.out.size; rw [HS1.out]; omega) ?_)
                   intro v7 w7 ho7 hg7 hnn7 hn7
                   refine Classical.byContradiction fun hcontra => ?_)
      obtain ⟨A7, c7, hv7, -⟩ := own_slice' ho7
      subst hv7
      have HO7 := Lib.hid (show KsAt w7 w.heap.size A7 (k + 1) c7 (vs ++ [(.slice A1 12 k1, keyB x)]) from ⟨by rw [List.map_append]; exact ho7, fun p hp => by
        rcases List.mem_append.1 hp with hp | hp
        · exact (HALL.out p hp).grown hg7 hn7
        · rw [List.mem_singleton.1 hp]; exact HNEW.out.grown hg7 hn7⟩)
      have HV7 := Lib.hid (show (vs ++ [((.slice A1 12 k1 : Value), keyB x)]).map Prod.snd = (l.take (k + 1)).map keyB from by
        rw [List.map_append, HV.out, List.take_add_one, HX.out, List.map_append]
        rfl)
      have HB7 := Lib.hid (show Below w.heap.size w w7 from by
        have h1 := HB.out.trans ((HB1.out.trans (HB1a.out.mono HB1.out.size)).mono HB.out.size)
        exact h1.grown hg7 h1.size (fun j e => (HOA.out.lt j e).1))
      clear ho7 hg7 hnn7 hn7
      apply hcontra
      clear hcontra
      go_wp2
      go_roundw
      case rel => exact ⟨k + 1, A7, c7, _, rfl, by go_num, by omega, HO7, HV7, HB7⟩
      case measure => simp [intOf]; omega
    · have e : k = n := by omega
      subst e
      have HE := Lib.hid (show l.take k = l by rw [List.take_of_length_le (by rw [HL.out]; exact Nat.le_refl _)])
      go_wp2
      go_ret
      have hbs := own_bounds HO.out.own
      exact ⟨A, c, vs, rfl, HO.out.len, hbs.1, hbs.2, by rw [HV.out, HE.out], HO.out.rows, HB.out⟩
end Go.Proofs.Yteaibgnelnblnaa
end
section
namespace Go.Proofs.Yteaibgnelnblnaa
open Go.RowKit Me Tx Ed Mg Va

open Go.ChangeShapes Go.WideShapes Go.ChangeAt Go.Joins
end Go.Proofs.Yteaibgnelnblnaa
end
section
namespace Go.Proofs.Yteaibgnelnblnaa
open Go.RowKit Me Tx Ed Mg Va

/-- Rows of edges, sorted: as many as there are edges. -/
theorem sort_fit {l : List EdD} (hf : ∀ x ∈ l, FitE x) : ∀ x ∈ sortE l, FitE x := fun x hx => hf x ((mem_sort l).1 hx)
theorem insE_length (x : EdD) : ∀ l : List EdD, (insE x l).length = l.length + 1
  | [] => rfl
  | y :: l => by
    rw [insE]
    split
    · rfl
    · rw [List.length_cons, insE_length x l, List.length_cons]
theorem sort_fold_length : ∀ (l out : List EdD), (l.foldl (fun out x => insE x out) out).length = l.length + out.length
  | [], out => by simp
  | x :: l, out => by rw [List.foldl_cons, sort_fold_length l, insE_length, List.length_cons]; omega
theorem sort_length (l : List EdD) : (sortE l).length = l.length := by unfold sortE; rw [sort_fold_length]; simp
/-- What is known of each slot where the other part is put behind. -/
def mpG (a : Addr) (g n c c6 k p r : Nat) (x : EdD) : Gw.Fact := fun s v W =>
  match s with
  | 7 | 47 => v = .slice (some ⟨g, 0, none⟩) n c6
  | 0 | 48 | 53 | 58 => v = .slice (some a) n c
  | 1 | 49 | 54 | 59 => v = .int .i64 (k : Int)
  | 50 | 51 | 55 | 60 => v = .pointer (some (a.add (k * 3)))
  | 52 => v = .int .u32 (x.src : Int)
  | 56 => v = .pointer (some ⟨(a.add (k * 3)).block, (a.add (k * 3)).off + 1, none⟩)
  | 57 => v = .int .u32 (x.dst : Int)
  | 61 => v = .pointer (some ⟨(a.add (k * 3)).block, (a.add (k * 3)).off + 2, none⟩)
  | 62 => v = .int .u32 (x.wgt : Int)
  | 2 | 63 => v = .int .u32 (p : Int)
  | 64 => v = .int .u32 (r : Int)
  | 65 => v = .agg #[.int .u32 (x.src : Int), .int .u32 (x.dst : Int), .int .u32 (r : Int)]
  | 66 => ∃ b, v = .slice (some ⟨b, 0, none⟩) 1 1 ∧ b < W.heap.size ∧ ∀ j u, (edCells [⟨x.src, x.dst, r⟩])[j]? = some u → W.cell? ((⟨b, 0, none⟩ : Addr).add j) = some u
  | _ => True
end Go.Proofs.Yteaibgnelnblnaa
end
section
namespace Go.Proofs.Yteaibgnelnblnaa
open Go.RowKit Me Tx Ed Mg Va

set_option maxRecDepth 100000 in
theorem pred_any (s v : Nat) (A : Option Addr) (n c : Nat) (w : World) :
    Calls Try.prog 59 #[.agg #[.int .u32 (s : Int), .slice A n c], .int .u32 (v : Int)] w fun e w' => e = .returned (.int .i64 (cmpN s v)) ∧ Below w.heap.size w w' := by
  have HB := Lib.hid (show Below w.heap.size w (w.alloc (.cells #[.int .u32 (s : Int), .slice A n c] 51)) from (Below.refl _ _).alloc (Nat.le_refl _) _)
  have HC := Lib.hid (cmpc_any s v)
  go_enter Try.func59, Try.ntmps59
  go_wp2_with fail
  refine (HC.out _).mono ?_
  rintro e w1 ⟨rfl, rfl⟩
  go_wp2
  go_ret
  exact ⟨rfl, HB.out⟩
theorem cmpN_lt (a b : Nat) : decide (cmpN a b < 0) = decide (a < b) := by
  unfold cmpN
  by_cases h : a < b
  · rw [if_pos h]; simp [h]
  · rw [if_neg h]
    by_cases h2 : b < a
    · rw [if_pos h2]; simp [h]
    · rw [if_neg h2]; simp [h]
theorem cmpN_eq (a b : Nat) : (cmpN a b == 0) = decide (a = b) := by
  unfold cmpN
  by_cases h : a < b
  · rw [if_pos h, decide_eq_false (by omega)]; rfl
  · rw [if_neg h]
    by_cases h2 : b < a
    · rw [if_pos h2, decide_eq_false (by omega)]; rfl
    · rw [if_neg h2, decide_eq_true (by omega)]; rfl
set_option maxRecDepth 100000 in
set_option maxHeartbeats 2000000 in
theorem bsearch_any (lo : Nat) (A : Option Addr) (n c v : Nat) (l : List RwD) (w : World) (hl : l.length = n) (hn : n ≤ 1000000) (hr : RowsAt w lo w.heap.size A l) (hok : l.Pairwise fun a b => a.1 < b.1) :
    Calls Try.prog 58 #[.slice A n c, .int .u32 (v : Int), .func (.func 59) #[] #[]] w fun e w' =>
      ∃ (r : Nat) (bb : Bool), e = .returned (.tuple #[.int .i64 (r : Int), .bool bb]) ∧ (bb = true → ∃ x, l[r]? = some x ∧ x.1 = v) ∧ (bb = false → ∀ x ∈ l, x.1 ≠ v) ∧ Below w.heap.size w w' := by
  have hlt0 : ∀ (i j : Nat) (x y : RwD), i < j → l[i]? = some x → l[j]? = some y → x.1 < y.1 := fun i j x y hij hx hy => by
    obtain ⟨h1, h2⟩ := List.getElem?_eq_some_iff.1 hx
    obtain ⟨h3, h4⟩ := List.getElem?_eq_some_iff.1 hy
    have := List.pairwise_iff_getElem.1 hok i j h1 h3 hij
    rw [h2, h4] at this
    exact this
  have HLT := Lib.hid hlt0
  have HL := Lib.hid hl
  have HR := Lib.hid hr
  have HP := Lib.hid (fun s A1 n1 c1 W => pred_any s v A1 n1 c1 W)
  have eg : ∀ args w, (callFunc 59 args).run Try.prog w = .ok (.enter 59 args) w := Go.Proofs.enters_of Try.func59 (by kernel_rfl) rfl
  clear hl hr hok hlt0
  go_enter Try.func58, Try.ntmps58
  go_wp2
  go_loopw [9, 10] (fun x y wr => ∃ lo hi : Nat, x = .int .i64 (lo : Int) ∧ y = .int .i64 (hi : Int) ∧ lo ≤ hi ∧ hi ≤ n ∧ Hid ((∀ t x, t < lo → l[t]? = some x → x.1 < v) ∧ (∀ t x, hi ≤ t → l[t]? = some x → v ≤ x.1)) ∧ Hid (Below w.heap.size w wr)) (fun x y _ => (intOf y).toNat - (intOf x).toNat)
  case atStart => exact ⟨0, n, rfl, rfl, Nat.zero_le _, Nat.le_refl _, Lib.hid ⟨fun t _ ht => absurd ht (Nat.not_lt_zero _), fun t x h1 h2 => by have := (List.getElem?_eq_some_iff.1 h2).1; have := HL.out; omega⟩, Lib.hid (Below.refl _ _)⟩
  case round =>
    obtain ⟨lo', hi', rfl, rfl, hlh, hin, HI, HB⟩ := hrel
    by_cases hlt : lo' < hi'
    · obtain ⟨m, hmm⟩ : ∃ m, m = (lo' + hi') / 2 := ⟨_, rfl⟩
      have hm1 : lo' ≤ m := by omega
      have hm2 : m < hi' := by omega
      have hmz : ((lo' : Int) + (hi' : Int)) / 2 = (m : Int) := by omega
      have hml : m < l.length := by rw [HL.out]; omega
      obtain ⟨a, p, r, rfl, hr, -, c0, c1, -⟩ := (HR.out.below HB.out).at hml
      obtain ⟨z, hz⟩ : ∃ z, z = cmpN r.1 v := ⟨_, rfl⟩
      have HZ := Lib.hid hz
      have HRR := Lib.hid hr
      have HP2 := Lib.hid (HP.out r.1 p.2.1 p.2.2.1 p.2.2.2)
      rw [← hz] at HP2
      have hmn : (m : Int) < (n : Int) := by omega
      clear hmm hz hr hml
      by_cases hz : z < 0
      · have HI2 := Lib.hid (show (∀ t x, t < m + 1 → l[t]? = some x → x.1 < v) ∧ (∀ t x, hi' ≤ t → l[t]? = some x → v ≤ x.1) from ⟨fun t x ht hx => by
          have h1 : r.1 < v := by have := cmpN_lt r.1 v; rw [← HZ.out] at this; simpa [hz] using this.symm
          rcases Nat.lt_or_ge t m with h2 | h2
          · have := HLT.out t m x r h2 hx HRR.out; omega
          · have e : t = m := by omega
            subst e
            rw [HRR.out] at hx
            injection hx with hx
            rw [← hx]; exact h1, HI.out.2⟩)
        go_wp2_with fail
        refine (HP2.out _).mono ?_
        rintro e w1 ⟨rfl, hb1⟩
        have HB1 := Lib.hid (HB.out.trans (hb1.mono HB.out.size))
        clear hb1 c0 c1
        go_wp2
        go_roundw
        case rel => exact ⟨m + 1, hi', by go_num, rfl, by omega, hin, HI2, HB1⟩
        case measure => simp [intOf]; omega
      · have HI2 := Lib.hid (show (∀ t x, t < lo' → l[t]? = some x → x.1 < v) ∧ (∀ t x, m ≤ t → l[t]? = some x → v ≤ x.1) from ⟨HI.out.1, fun t x ht hx => by
          have h1 : ¬ r.1 < v := by have := cmpN_lt r.1 v; rw [← HZ.out] at this; simpa [hz] using this.symm
          rcases Nat.lt_or_ge m t with h2 | h2
          · have := HLT.out m t r x h2 HRR.out hx; omega
          · have e : t = m := by omega
            subst e
            rw [HRR.out] at hx
            injection hx with hx
            rw [← hx]; omega⟩)
        go_wp2_with fail
        refine (HP2.out _).mono ?_
        rintro e w1 ⟨rfl, hb1⟩
        have HB1 := Lib.hid (HB.out.trans (hb1.mono HB.out.size))
        clear hb1 c0 c1
        go_wp2
        go_roundw
        case rel => exact ⟨lo', m, rfl, rfl, by omega, by omega, HI2, HB1⟩
        case measure => simp [intOf]; omega
    · have e : lo' = hi' := by omega
      subst e
      by_cases hln : lo' < n
      · have hml : lo' < l.length := by rw [HL.out]; omega
        obtain ⟨a, p, r, rfl, hr, -, c0, c1, -⟩ := (HR.out.below HB.out).at hml
        obtain ⟨z, hz⟩ : ∃ z, z = cmpN r.1 v := ⟨_, rfl⟩
        have HP2 := Lib.hid (HP.out r.1 p.2.1 p.2.2.1 p.2.2.2)
        rw [← hz] at HP2
        have FIN := Lib.hid (show ((z == 0) = true → ∃ x, l[lo']? = some x ∧ x.1 = v) ∧ ((z == 0) = false → ∀ x ∈ l, x.1 ≠ v) from by
          rw [hz, cmpN_eq]
          refine ⟨fun h => ⟨r, hr, of_decide_eq_true h⟩, fun h x hx e => ?_⟩
          obtain ⟨i, hi, hie⟩ := List.getElem_of_mem hx
          have hi2 : l[i]? = some x := by rw [List.getElem?_eq_getElem hi, hie]
          rcases Nat.lt_trichotomy i lo' with h2 | h2 | h2
          · have := HI.out.1 i x h2 hi2; omega
          · subst h2
            rw [hr] at hi2
            injection hi2 with hi2
            subst hi2
            exact of_decide_eq_false h e
          · have h3 := HLT.out lo' i r x h2 hr hi2
            have h4 := HI.out.2 lo' r (Nat.le_refl _) hr
            omega)
        clear hz hr hml
        go_wp2_with fail
        refine (HP2.out _).mono ?_
        rintro e w1 ⟨rfl, hb1⟩
        have HB1 := Lib.hid (HB.out.trans (hb1.mono HB.out.size))
        clear hb1 c0 c1
        go_wp2
        go_ret2
        exact ⟨lo', _, rfl, FIN.out.1, FIN.out.2, HB1.out⟩
      · have FIN := Lib.hid (show ∀ x ∈ l, x.1 ≠ v from fun x hx e => by
          obtain ⟨i, hi, hie⟩ := List.getElem_of_mem hx
          have hi2 : l[i]? = some x := by rw [List.getElem?_eq_getElem hi, hie]
          have h1 := HL.out
          have := HI.out.1 i x (by omega) hi2
          omega)
        go_wp2
        go_ret2
        exact ⟨lo', false, rfl, (fun h => by cases h), fun _ => FIN.out, HB.out⟩
/-- A vertex's arcs, in the graph's own memory. -/
def ArPost (w : World) (lo hi : Nat) (l : List ArcD) (e : Ending) (w' : World) : Prop :=
  ∃ A n c, e = .returned (.slice A n c) ∧ l.length = n ∧ n ≤ c ∧ c ≤ 9223372036854775807 ∧ n ≤ 2147483647 ∧ rises 0 l = true ∧ Arcs w' hi A l ∧ Below w.heap.size w w'
variable {w : World} {lo hi : Nat} {g A : Option Addr} {n c : Nat} {l : List RwD}
theorem arcsG_may {l : List RwD} (h : GOk l) (v : Nat) : (arcsG l v).length ≤ 2147483647 ∧ rises 0 (arcsG l v) = true := by
  by_cases h0 : arcsG l v = []
  · rw [h0]; exact ⟨by simp, rfl⟩
  · obtain ⟨r, hr, -, e⟩ := arcsG_mem h0
    rw [e]
    have := (h.full r hr).2
    exact ⟨may_few this, may_rises this⟩
set_option maxRecDepth 100000 in
set_option maxHeartbeats 1000000 in
theorem garcs_any (h : GrAt w lo hi g A n c l) (v : Nat) : Calls Try.prog 38 #[.pointer g, .int .u32 (v : Int)] w (ArPost w lo hi (arcsG l v)) := by
  have HG := Lib.hid h
  have HC := Lib.hid (list_any h)
  have HQ := Lib.hid (bsearch_any lo A n c v l w h.len h.few.1 (h.rows.more h.top) h.ok.srcs)
  clear h
  go_enter Try.func38, Try.ntmps38
  go_wp2_with fail
  refine HC.out.mono ?_
  rintro e w1 ⟨rfl, hw1⟩
  rw [hw1]
  clear hw1
  go_wp2_with fail
  refine HQ.out.mono ?_
  rintro e w2 ⟨r, bb, rfl, h1, h2, hb⟩
  have HB := Lib.hid hb
  have hm := arcsG_may HG.out.ok v
  cases bb with
  | false =>
    have FIN := Lib.hid (arcsG_none (h2 rfl))
    clear h1 h2 hb hm
    go_wp2
    go_ret
    rw [FIN.out]
    exact ⟨none, 0, 0, rfl, rfl, Nat.le_refl _, by omega, by omega, rfl, Arcs.empty, HB.out⟩
  | true =>
    obtain ⟨x, hx, hv⟩ := h1 rfl
    have hrl := (List.getElem?_eq_some_iff.1 hx).1
    obtain ⟨a, p, x', rfl, hx', -, c0, c1, hat⟩ := (HG.out.past hb).rows.at hrl
    rw [hx] at hx'
    injection hx' with hx'
    subst hx'
    have hrn : (r : Int) < (n : Int) := by have := HG.out.len; omega
    have FIN := Lib.hid (show ArPost w lo hi (arcsG l v) (.returned (.slice p.2.1 p.2.2.1 p.2.2.2)) w2 from by
      have e : arcsG l v = x.2 := arcsG_first hx hv fun j s hj hs => by
        have h3 := List.pairwise_iff_getElem.1 HG.out.ok.srcs j r (List.getElem?_eq_some_iff.1 hs).1 hrl hj
        rw [(List.getElem?_eq_some_iff.1 hs).2, (List.getElem?_eq_some_iff.1 hx).2] at h3
        omega
      rw [e] at hm ⊢
      exact ⟨_, _, _, rfl, hat.len, hat.cap.1, hat.cap.2, by rw [← hat.len]; exact hm.1, hm.2, hat.arcs, HB.out⟩)
    clear h1 h2 hb hm hx hv hrl hat
    go_wp2
    go_ret
    exact FIN.out
set_option maxRecDepth 100000 in
theorem gArcs_any (h : GrAt w lo hi g A n c l) (v : Nat) : Calls Try.prog 15 #[.pointer g, .int .u32 (v : Int)] w (NewA w (arcsG l v)) := by
  have HT := Lib.hid h.top
  have HC := Lib.hid (garcs_any h v)
  clear h
  go_enter Try.func15, Try.ntmps15
  go_wp2_with fail
  refine HC.out.mono ?_
  rintro e w1 ⟨A1, n1, c1, rfl, h1, h2, h3, h4, h5, h6, hb⟩
  have HB := Lib.hid hb
  have HA := Lib.hid (aclone_any A1 n1 c1 _ w1 h1 h4 (h6.more (Nat.le_trans HT.out hb.size)))
  clear h1 h2 h3 h4 h5 h6 hb
  go_wp2_with fail
  refine HA.out.mono ?_
  rintro e w2 ⟨A2, n2, c2, rfl, h1, h2, hb2⟩
  have FIN := Lib.hid (show NewA w (arcsG l v) (.returned (.slice A2 n2 c2)) w2 from ⟨_, _, _, rfl, h1, own_more h2 HB.out.size, HB.out.trans (hb2.mono HB.out.size)⟩)
  clear h1 h2 hb2
  go_wp2
  go_ret
  exact FIN.out
theorem stands_near {l : List ArcD} {t r : Nat} {bb : Bool} (hri : rises 0 l = true) (h : Stands l t r bb) : bb = nearG l t := by
  obtain ⟨h1, h2, h3, h4⟩ := h
  rw [h4]
  unfold nearG
  cases e : l[r]? with
  | none =>
    symm
    rw [List.any_eq_false]
    intro a ha hd
    obtain ⟨i, hi, hie⟩ := List.getElem_of_mem ha
    have hr := List.getElem?_eq_none_iff.1 e
    have := h2 i a (by rw [List.getElem?_eq_getElem hi, hie]) (by omega)
    have := of_decide_eq_true hd
    omega
  | some q =>
    by_cases hq : q.to = t
    · simp only [hq, decide_true]
      symm
      rw [List.any_eq_true]
      exact ⟨q, List.mem_of_getElem? e, decide_eq_true hq⟩
    · simp only [hq, decide_false]
      symm
      rw [List.any_eq_false]
      intro a ha hd
      have hd := of_decide_eq_true hd
      obtain ⟨i, hi, hie⟩ := List.getElem_of_mem ha
      have hi2 : l[i]? = some a := by rw [List.getElem?_eq_getElem hi, hie]
      rcases Nat.lt_trichotomy i r with h5 | h5 | h5
      · have := h2 i a hi2 h5; omega
      · subst h5; rw [e] at hi2; injection hi2 with hi2; subst hi2; exact hq hd
      · have h6 := rises_lt l 0 hri r i q a h5 e hi2
        have h7 := h3 r q e (Nat.le_refl _)
        omega
set_option maxRecDepth 100000 in
theorem gnear_any (h : GrAt w lo hi g A n c l) (v t : Nat) : Calls Try.prog 17 #[.pointer g, .int .u32 (v : Int), .int .u32 (t : Int)] w fun e w' => e = .returned (.bool (nearG (arcsG l v) t)) ∧ Below w.heap.size w w' := by
  have HT := Lib.hid h.top
  have HC := Lib.hid (garcs_any h v)
  clear h
  go_enter Try.func17, Try.ntmps17
  go_wp2_with fail
  refine HC.out.mono ?_
  rintro e w1 ⟨A1, n1, c1, rfl, h1, h2, h3, h4, h5, h6, hb⟩
  have HB := Lib.hid hb
  have HR := Lib.hid h5
  have HA := Lib.hid (find_any A1 n1 c1 _ t w1 h1 (by omega) (h6.more (Nat.le_trans HT.out hb.size)) h5)
  clear h1 h2 h3 h4 h5 h6 hb
  go_wp2_with fail
  refine HA.out.mono ?_
  rintro e w2 ⟨r, bb, rfl, h1, hb2⟩
  have FIN := Lib.hid (show bb = nearG (arcsG l v) t ∧ Below w.heap.size w w2 from ⟨stands_near HR.out h1, HB.out.trans (hb2.mono HB.out.size)⟩)
  clear h1 hb2
  go_wp2
  go_ret
  exact ⟨by rw [FIN.out.1]; rfl, FIN.out.2⟩
end Go.Proofs.Yteaibgnelnblnaa
end
section
namespace Go.Proofs.Yteaibgnelnblnaa
open Go.RowKit Me Tx Ed Mg Va

/-- A row as it is handed on: its arcs in new memory. -/
def rV (B : Nat) (O : Nat → Prop) (x : RwD) (av : Array Value) (W : World) : Prop :=
  ∃ A n c, av = #[.agg #[.int .u32 (x.1 : Int), .slice A n c]] ∧ RwAt W B W.heap.size (x.1, A, n, c) x ∧ (0 < x.2.length → ∀ a, A = some a → ¬ O a.block) ∧ ∃ lo, W.ownsRow lo 55 2 (.slice A n c) n (arcCells x.2)
/-- What the iterator reads. -/
def GrM (lo hi Bx : Nat) (k : Nat) : Prop := k = Bx ∨ (lo ≤ k ∧ k < hi)
set_option maxRecDepth 100000 in
theorem grows_any (g : Option Addr) (w : World) :
    Calls Try.prog 36 #[.pointer g] w fun e w' => e = .returned (.func (.func 56) #[] #[.pointer (some ⟨w.heap.size, 0, none⟩)]) ∧ w' = w.alloc (.cells #[.pointer g] 25) := by
  go_enter Try.func36, Try.ntmps36
  go_wp2
  go_ret
  exact ⟨rfl, rfl⟩
theorem so_old {S O : Nat → Prop} {W0 X Y : World} (h : Out S W0 X) (h' : Out (Ru.SO S W0.heap.size O) X Y) : Out S W0 Y := h.trans' h' fun _ hj => hj.elim .inl (fun h => .inr h.1)
attribute [local go_sem] Oper.semAt_some
set_option maxRecDepth 100000 in
set_option maxHeartbeats 4000000 in
theorem rows_gives {w0 : World} {lo hi Bx n c : Nat} {g A : Option Addr} {l : List RwD} (h0 : GrAt w0 lo hi g A n c l) (hb0 : Blk w0 Bx [.pointer g]) :
    Ru.Gives Try.prog 56 #[.pointer (some ⟨Bx, 0, none⟩)] rV l (GrM lo hi Bx) w0 := fun nn l' S J Jx W hW hS hJ hJx hY hj0 => by
  have h := h0.past hW
  have hbx := hb0.past hW
  refine callsIn_any (n := 3) ?_
  have c0 := hbx.cell (i := 0) rfl
  have hbl := hbx.lt
  have HLI := Lib.hid (list_any h)
  have HG := Lib.hid (fun W' (ho : Out S W W') => h.out ho fun k hk => by
    have h1 := (hS k hk).2
    unfold GrM at h1
    rcases Nat.lt_or_ge k lo with h2 | h2
    · exact .inl h2
    · rcases Nat.lt_or_ge k hi with h3 | h3
      · exact absurd (.inr ⟨h2, h3⟩) h1
      · exact .inr h3)
  have HJ := Lib.hid hJ
  have HJX := Lib.hid hJx
  have HY := Lib.hid hY
  have HJ0 := Lib.hid hj0
  have HLE := Lib.hid h.len
  have HOK := Lib.hid h.ok
  have hn := h.few.1
  clear h h0 hW hS hJ hJx hY hj0 hbx hb0
  refine callsIn_of_wp Try.func56 rfl trivial ?_ rfl
  simp only [Try.ntmps56, List.size_toArray, List.length_cons, List.length_nil, Nat.reduceAdd, Nat.reduceSub, Array.replicate_succ, Array.replicate_zero, List.push_toArray, List.append_toArray, List.nil_append, List.cons_append]
  gi_wp2_with fail
  refine ⟨trivial, (callsIn_wide.2 HLI.out).mono ?_⟩
  rintro e w' ⟨rfl, hw'⟩
  rw [hw']
  clear hw' c0
  gi_wp2
  gi_loopw [8] (fun i wr => ∃ k : Nat, k ≤ n ∧ i = .int .i64 (k : Int) ∧ Hid (J (fun _ => False) (l.take k) wr) ∧ Hid (Out S W wr)) (fun i _ => n - (intOf i).toNat)
  case atStart => exact ⟨0, by omega, rfl, HJ0, Lib.hid (Out.refl _ _)⟩
  case round =>
    clear HJ0 HLI
    obtain ⟨k, hk, rfl, HJK, HOK2⟩ := hrel
    by_cases hlt : k < n
    · obtain ⟨a, ⟨s0, P, n1, c2⟩, r, rfl, hr, -, c0, c1', hat⟩ := (HG.out wr HOK2.out).rows.at (k := k) (by rw [HLE.out]; exact hlt)
      dsimp only at c0 c1' hat
      have hlt2 : (k : Int) < (n : Int) := by omega
      obtain ⟨hX, hT⟩ := take_more hr
      obtain ⟨u, hu⟩ : ∃ u, u = r.1 := ⟨_, rfl⟩
      rw [← hu] at c0
      obtain ⟨w1, hw1⟩ : ∃ w1, w1 = wr.alloc (.cells #[.int .u32 (u : Int), .slice P n1 c2] 51) := ⟨_, rfl⟩
      have hb1 : Below wr.heap.size wr w1 := by rw [hw1]; exact (Below.refl _ _).alloc (Nat.le_refl _) _
      have hfull := HOK.out.full r (List.mem_of_getElem? hr)
      have hln : r.2.length = n1 := hat.len
      have HCP := Lib.hid (copy_any u P n1 c2 r.2 w1 hln (by rw [← hln]; exact may_few hfull.2) (by
        have h1 := (HG.out wr HOK2.out).top
        exact ((hat.arcs.below (hb1.mono h1)).more (Nat.le_trans h1 hb1.size))))
      have HFT := Lib.hid (And.intro hat.fit hat.arcs.2)
      have HO1 := Lib.hid (HOK2.out.trans (.of_below hb1))
      have HJ1 := Lib.hid (HJ.out.below HJK.out hb1)
      have HX := Lib.hid hX
      have HT := Lib.hid hT
      have HU := Lib.hid hu
      have HPN := Lib.hid (show 0 < n1 by rw [← hln]; exact hfull.1)
      have HW1 := Lib.hid hw1
      clear hX hT hr hat hb1 hfull hln hu hw1
      gi_wp2_with fail
      rw [← HW1.out]
      refine ⟨trivial, (callsIn_wide.2 HCP.out).mono ?_⟩
      rintro e w5 ⟨A5, n5, c5, rfl, hl5, ho5, hb5⟩
      have HO5 := Lib.hid (HO1.out.trans (.of_below hb5))
      have HJ5 := Lib.hid (HJ.out.below HJ1.out hb5)
      have hev : rV W.heap.size (fun _ => False) r #[.agg #[.int .u32 (u : Int), .slice A5 n5 c5]] w5 := by
        refine ⟨A5, n5, c5, by rw [HU.out], ⟨fun a e => ?_, rfl, HFT.out.1, hl5, own_bounds ho5, Arcs.of_own ho5 HFT.out.2⟩, fun _ a _ h => h, _, ho5⟩
        obtain ⟨g5, cap, hf, hg5, -⟩ := ho5.form (by
          have h1 := HPN.out
          rcases Nat.eq_zero_or_pos n5 with h2 | h2
          · have h3 := HOK.out.full r (by rw [HX.out]; simp)
            have h4 : r.2.length = n5 := hl5
            omega
          · exact h2)
        injection hf with f1 f2 f3
        have e : A5 = some a := e
        rw [e] at f1
        injection f1 with f1
        have := HO1.out.size
        show W.heap.size ≤ a.block
        rw [f1]
        show W.heap.size ≤ g5
        omega
      obtain ⟨fn, tmps, assign, body, hy, hRo⟩ := HY.out (fun _ => False) (l.take k) r _ _ w5 HX.out (fun _ h => h.elim) HO5.out HJ5.out hev
      have HRo := Lib.hid hRo
      clear hl5 ho5 hb5 hev hRo c0 c1'
      gi_wp2_with fail
      refine (roundIn_any HRo.out).mono ?_
      rintro e' W3 ⟨ho3, ⟨rfl, hJ3⟩ | ⟨rfl, hJx3⟩⟩
      · have HJ3 := Lib.hid (show J (fun _ => False) (l.take (k + 1)) W3 by rw [HT.out]; exact hJ3)
        have HW3 := Lib.hid (so_old HO5.out ho3)
        clear hJ3 ho3 hy
        gi_wp2
        go_roundw
        case rel => exact ⟨k + 1, by omega, by go_num, HJ3, HW3⟩
        case measure => simp [intOf]; omega
      · have FIN := Lib.hid (show Out S W W3 ∧ ∃ O : Nat → Prop, (∀ k, O k → W.heap.size ≤ k) ∧ (J O l W3 ∨ ∃ pre post, l = pre ++ post ∧ Jx O pre W3) from
          ⟨so_old HO5.out ho3, fun _ => False, fun _ h => h.elim, .inr ⟨l.take k ++ [r], l.drop (k + 1), by rw [List.append_assoc]; exact HX.out, hJx3⟩⟩)
        clear hy ho3 hJx3
        gi_wp2
        refine bodyPost_ret (results_none rfl _ _ _) rfl ?_
        exact ⟨⟨_, rfl⟩, FIN.out⟩
    · obtain rfl : k = n := by omega
      have FIN := Lib.hid (show J (fun _ => False) l wr by have := HJK.out; rw [List.take_of_length_le (by rw [HLE.out]; exact Nat.le_refl _)] at this; exact this)
      gi_wp2
      go_end0
      exact ⟨⟨_, rfl⟩, HOK2.out, fun _ => False, fun _ h => h.elim, .inl FIN.out⟩
end Go.Proofs.Yteaibgnelnblnaa
end
section
namespace Go.Proofs.Yteaibgnelnblnaa
open Go.RowKit Me Tx Ed Mg Va

/-- An end as it is handed on. -/
def nV (_B : Nat) (_O : Nat → Prop) (x : Nat) (av : Array Value) (_W : World) : Prop := av = #[.int .u32 (x : Int)]
set_option maxRecDepth 100000 in
theorem gends_any (g : Option Addr) (w : World) :
    Calls Try.prog 40 #[.pointer g] w fun e w' => e = .returned (.func (.func 63) #[] #[.pointer (some ⟨w.heap.size, 0, none⟩)]) ∧ w' = w.alloc (.cells #[.pointer g] 25) := by
  go_enter Try.func40, Try.ntmps40
  go_wp2
  go_ret
  exact ⟨rfl, rfl⟩
theorem not_so {S O : Nat → Prop} {B k : Nat} (hS : ∀ k, S k → k < B) (hk : B ≤ k) (hO : O k) : ¬ Ru.SO S B O k := fun h => h.elim (fun h => by have := hS k h; omega) (fun h => h.2 hO)
theorem ends_part {E : List EdD} {k : Nat} {x : EdD} (h : E[k]? = some x) : endsE E = endsE (E.take k) ++ x.src :: (x.dst :: endsE (E.drop (k + 1))) ∧ endsE (E.take (k + 1)) = endsE (E.take k) ++ [x.src] ++ [x.dst] := by
  obtain ⟨h1, h2⟩ := take_more h
  refine ⟨?_, ?_⟩
  · rw [h1]
    unfold endsE
    rw [List.flatMap_append, List.flatMap_cons]
    rw [← h1]
    simp
  · rw [h2]
    unfold endsE
    rw [List.flatMap_append]
    simp
attribute [local go_sem] Oper.semAt_some
set_option maxRecDepth 100000 in
set_option maxHeartbeats 4000000 in
theorem ends_gives {w0 : World} {lo hi Bx n c : Nat} {g A : Option Addr} {l : List RwD} (h0 : GrAt w0 lo hi g A n c l) (hb0 : Blk w0 Bx [.pointer g]) :
    Ru.Gives Try.prog 63 #[.pointer (some ⟨Bx, 0, none⟩)] nV (endsE (edgesG l)) (GrM lo hi Bx) w0 := fun nn l' S J Jx W hW hS hJ hJx hY hj0 => by
  have h := h0.past hW
  have hbx := hb0.past hW
  refine callsIn_any (n := 3) ?_
  have c0 := hbx.cell (i := 0) rfl
  have HED := Lib.hid (gedges_any h)
  have HS := Lib.hid (fun k hk => (hS k hk).1)
  have HJ := Lib.hid hJ
  have HJX := Lib.hid hJx
  have HY := Lib.hid hY
  have HJ0 := Lib.hid hj0
  have hfew := h.few.2
  obtain ⟨E, hE⟩ : ∃ E, E = edgesG l := ⟨_, rfl⟩
  rw [← hE] at HED HY hfew
  rw [← hE]
  have HFW := Lib.hid hfew
  clear h h0 hW hS hJ hJx hY hj0 hbx hb0 hE hfew
  refine callsIn_of_wp Try.func63 rfl trivial ?_ rfl
  simp only [Try.ntmps63, List.size_toArray, List.length_cons, List.length_nil, Nat.reduceAdd, Nat.reduceSub, Array.replicate_succ, Array.replicate_zero, List.push_toArray, List.append_toArray, List.nil_append, List.cons_append]
  gi_wp2_with fail
  refine ⟨trivial, (callsIn_wide.2 HED.out).mono ?_⟩
  rintro e w1 ⟨Ae, m, ce, rfl, hlE, hoE, hb1⟩
  obtain ⟨O, hO⟩ : ∃ O : Nat → Prop, O = fun k => (Value.slice Ae m ce).ownBlock = some k := ⟨_, rfl⟩
  have HLE := Lib.hid hlE
  have HOL := Lib.hid (show ∀ k, O k → W.heap.size ≤ k from fun k hk => by rw [hO] at hk; exact (hoE.lt k hk).1)
  have HOE := Lib.hid (show ∀ k, (Value.slice Ae m ce).ownBlock = some k ↔ O k from fun k => by rw [hO])
  have HW1 := Lib.hid (show Out S W w1 from .of_below hb1)
  have HOW := Lib.hid hoE
  have HJ1 := Lib.hid (show J O [] w1 from HJ.out (fun _ => False) O [] W w1 HJ0.out (.of_below hb1) fun k hk => .inr (HOL.out k hk))
  have hm : m ≤ 1000000 := by rw [← hlE]; exact HFW.out
  clear hlE hoE hb1 hO c0
  gi_wp2
  gi_loopw [8] (fun i wr => ∃ k : Nat, k ≤ m ∧ i = .int .i64 (k : Int) ∧ Hid (J O (endsE (E.take k)) wr) ∧ Hid (Out S W wr) ∧ Hid (wr.ownsRow W.heap.size 58 3 (.slice Ae m ce) m (edCells E))) (fun i _ => m - (intOf i).toNat)
  case atStart => exact ⟨0, by omega, rfl, HJ1, HW1, HOW⟩
  case round =>
    clear HJ0 HJ1 HED HW1 HOW
    obtain ⟨k, hk, rfl, HJK, HOK, HOW⟩ := hrel
    by_cases hlt : k < m
    · obtain ⟨x, hx⟩ : ∃ x, E[k]? = some x := ⟨_, List.getElem?_eq_getElem (by rw [HLE.out]; exact hlt)⟩
      obtain ⟨al, rfl, hab, hat⟩ := eds_at (Cs.of_own HOW.out) hx
      obtain ⟨x0, x1, x2⟩ := hat
      have hlt2 : (k : Int) < (m : Int) := by omega
      obtain ⟨hX, hT⟩ := ends_part hx
      have HX := Lib.hid hX
      have HT := Lib.hid hT
      obtain ⟨w2, hw2⟩ : ∃ w2, w2 = wr.alloc (.cells #[.int .u32 (x.src : Int), .int .u32 (x.dst : Int), .int .u32 (x.wgt : Int)] 58) := ⟨_, rfl⟩
      have hb2 : Below wr.heap.size wr w2 := by rw [hw2]; exact (Below.refl _ _).alloc (Nat.le_refl _) _
      have hs2 : w2.heap.size = wr.heap.size + 1 := by rw [hw2]; simp
      obtain ⟨Bq, hBq⟩ : ∃ Bq, Bq = wr.heap.size := ⟨_, rfl⟩
      obtain ⟨O1, hO1⟩ : ∃ O1 : Nat → Prop, O1 = fun k => O k ∨ k = Bq := ⟨_, rfl⟩
      have HBB := Lib.hid (show Blk w2 Bq [.int .u32 (x.src : Int), .int .u32 (x.dst : Int), .int .u32 (x.wgt : Int)] from by rw [hw2, hBq]; exact Blk.new wr [.int .u32 (x.src : Int), .int .u32 (x.dst : Int), .int .u32 (x.wgt : Int)] _)
      have HO2 := Lib.hid (HOK.out.trans (.of_below hb2))
      have HJ2 := Lib.hid (show J O1 (endsE (E.take k)) w2 from HJ.out O O1 _ wr w2 HJK.out (.of_below hb2) fun j hj => by
        rw [hO1] at hj
        rcases hj with h | h
        · exact .inl h
        · exact .inr (by omega))
      have HOW2 := Lib.hid (own_below' HOW.out hb2)
      have HO1L := Lib.hid (show ∀ j, O1 j → W.heap.size ≤ j ∧ j < w2.heap.size from fun j hj => by
        rw [hO1] at hj
        rcases hj with h | h
        · refine ⟨HOL.out j h, ?_⟩
          have := (HOW.out.lt j ((HOE.out j).2 h)).2
          omega
        · have := HOK.out.size
          omega)
      have HO1B := Lib.hid (show O1 Bq ∧ (∀ j, O j → O1 j) from by rw [hO1]; exact ⟨.inr rfl, fun j h => .inl h⟩)
      have HW2 := Lib.hid hw2
      have HBQ := Lib.hid hBq
      have r0 := HBB.out.cell (i := 0) rfl
      obtain ⟨fn, tmps, assign, body, hy, hRo⟩ := HY.out O1 (endsE (E.take k)) x.src _ #[.int .u32 (x.src : Int)] w2 HX.out HO1L.out HO2.out HJ2.out rfl
      rw [hw2] at hy hRo
      have HRo := Lib.hid hRo
      clear hx hab hX hT hb2 hs2 hO1 hw2 hRo r0 hBq
      gi_wp2_with fail
      refine (roundIn_any HRo.out).mono ?_
      rw [← HW2.out]
      rintro e' W3 ⟨ho3, ⟨rfl, hJ3⟩ | ⟨rfl, hJx3⟩⟩
      · have HO3 := Lib.hid (so_old HO2.out ho3)
        have HJ3 := Lib.hid hJ3
        have HBB3 := Lib.hid (HBB.out.out ho3 (not_so HS.out (HO1L.out _ HO1B.out.1).1 HO1B.out.1))
        have HOW3 := Lib.hid (own_out HOW2.out ho3 fun j hj => not_so HS.out (HO1L.out _ (HO1B.out.2 j ((HOE.out j).1 hj))).1 (HO1B.out.2 j ((HOE.out j).1 hj)))
        have HSZ := Lib.hid ho3.size
        have hX2 : endsE E = (endsE (E.take k) ++ [x.src]) ++ x.dst :: endsE (E.drop (k + 1)) := by rw [HX.out]; simp
        obtain ⟨fn2, tmps2, assign2, body2, hy2, hRo2⟩ := HY.out O1 (endsE (E.take k) ++ [x.src]) x.dst _ #[.int .u32 (x.dst : Int)] W3 hX2 (fun j hj => by have := HO1L.out j hj; have := HSZ.out; omega) HO3.out HJ3.out rfl
        have HRo2 := Lib.hid hRo2
        have r1 := HBB3.out.cell (i := 1) rfl
        rw [HBQ.out] at r1
        clear hJ3 ho3 hy hX2 hRo2
        gi_wp2_with fail
        refine (roundIn_any HRo2.out).mono ?_
        rintro e' W4 ⟨ho4, ⟨rfl, hJ4⟩ | ⟨rfl, hJx4⟩⟩
        · have HO4 := Lib.hid (so_old HO3.out ho4)
          have HJ4 := Lib.hid (show J O (endsE (E.take (k + 1))) W4 from by
            rw [HT.out]
            exact HJ.out.less hJ4 fun j hj => .inl (HO1B.out.2 j hj))
          have HOW4 := Lib.hid (own_out HOW3.out ho4 fun j hj => not_so HS.out (HO1L.out _ (HO1B.out.2 j ((HOE.out j).1 hj))).1 (HO1B.out.2 j ((HOE.out j).1 hj)))
          clear ho4 hJ4 hy2 r1
          gi_wp2
          go_roundw
          case rel => exact ⟨k + 1, by omega, by go_num, HJ4, HO4, HOW4⟩
          case measure => simp [intOf]; omega
        · have FIN := Lib.hid (show Out S W W4 ∧ ∃ O : Nat → Prop, (∀ k, O k → W.heap.size ≤ k) ∧ (J O (endsE E) W4 ∨ ∃ pre post, endsE E = pre ++ post ∧ Jx O pre W4) from
            ⟨so_old HO3.out ho4, O1, fun j hj => (HO1L.out j hj).1, .inr ⟨_, endsE (E.drop (k + 1)), by rw [HX.out]; simp, hJx4⟩⟩)
          clear hy2 ho4 hJx4 r1
          gi_wp2
          refine bodyPost_ret (results_none rfl _ _ _) rfl ?_
          exact ⟨⟨_, rfl⟩, FIN.out⟩
      · have FIN := Lib.hid (show Out S W W3 ∧ ∃ O : Nat → Prop, (∀ k, O k → W.heap.size ≤ k) ∧ (J O (endsE E) W3 ∨ ∃ pre post, endsE E = pre ++ post ∧ Jx O pre W3) from
          ⟨so_old HO2.out ho3, O1, fun j hj => (HO1L.out j hj).1, .inr ⟨_, x.dst :: endsE (E.drop (k + 1)), by rw [HX.out]; simp, hJx3⟩⟩)
        clear hy ho3 hJx3
        gi_wp2_with fail
        refine ⟨(fun f hf => by cases hf), ?_⟩
        gi_wp2
        refine bodyPost_ret (results_none rfl _ _ _) rfl ?_
        exact ⟨⟨_, rfl⟩, FIN.out⟩
    · obtain rfl : k = m := by omega
      have FIN := Lib.hid (show J O (endsE E) wr by have := HJK.out; rw [List.take_of_length_le (by rw [HLE.out]; exact Nat.le_refl _)] at this; exact this)
      gi_wp2
      go_end0
      exact ⟨⟨_, rfl⟩, HOK.out, O, HOL.out, .inl FIN.out⟩
end Go.Proofs.Yteaibgnelnblnaa
end
section
namespace Go.Proofs.Yteaibgnelnblnaa
open Go.RowKit Me Tx Ed Mg Va

/-- A row's arcs can be written. -/
def WrR (w : World) (p : RwV) : Prop := ∀ a, p.2.1 = some a → ∀ j, j < p.2.2.1 * 2 → ∃ v, w.cell? (a.add j) = some v ∧ w.frozen? (a.add j) = false
theorem WrR.set {w : World} {p : RwV} (h : WrR w p) (q : Addr) (x : Value) : WrR (w.setCell q x) p := fun a e j hj => by
  obtain ⟨v, h1, h2⟩ := h a e j hj
  obtain ⟨v', h3⟩ := cell?_setCell_some (w := w) (p := q) (x := x) (q := a.add j) h1
  exact ⟨v', h3, by rw [World.frozen?_setCell]; exact h2⟩
theorem WrR.out {T : Nat → Prop} {w w' : World} {p : RwV} (h : WrR w p) (ho : Out T w w') (hT : 0 < p.2.2.1 → ∀ a, p.2.1 = some a → ¬ T a.block) : WrR w' p := fun a e j hj => by
  obtain ⟨v, h1, h2⟩ := h a e j hj
  have hb := World.block_lt_of_cell? _ _ h1
  have hn : ¬ T (a.add j).block := by rw [block_add]; exact hT (by omega) a e
  exact ⟨v, (ho.cell hb hn).trans h1, (ho.frozen hb hn).trans h2⟩
theorem WrR.own {w : World} {lo s n c : Nat} {e : TypeId} {A : Option Addr} {xs : List Value} (h : w.ownsRow lo e 2 (.slice A n c) n xs) : WrR w (s, A, n, c) := fun a e j hj => by
  have e : A = some a := e
  subst e
  have hj : j < n * 2 := hj
  obtain ⟨g, cap, hf, -, -⟩ := h.form (by omega)
  injection hf with f1 f2 f3
  injection f1 with f1
  subst f1
  have h1 := h.1
  have e1 : (⟨g, 0, none⟩ : Addr).add j = ⟨g, j, none⟩ := by simp [Addr.add]; omega
  rw [e1]
  exact ⟨_, (h.cellAt j (by omega)).trans (List.getElem?_eq_getElem (by omega)), h.frozenAt j⟩
/-- Rows in memory of one's own, their arcs too. -/
structure RwsW (w : World) (lo : Nat) (A : Option Addr) (n c : Nat) (l : List RwD) (vs : List RwV) : Prop where
  own : w.ownsRow lo 51 2 (.slice A n c) n (rvCells vs)
  len : vs.length = l.length
  num : l.length = n
  rows : ∀ (i : Nat) (p : RwV) (r : RwD), vs[i]? = some p → l[i]? = some r → RwAt w lo w.heap.size p r
  wr : ∀ p ∈ vs, WrR w p
  off : ∀ p ∈ vs, 0 < p.2.2.1 → ∀ a, p.2.1 = some a → (Value.slice A n c).ownBlock ≠ some a.block
theorem RwsW.at {w : World} {lo : Nat} {A : Option Addr} {n c : Nat} {l : List RwD} {vs : List RwV} (h : RwsW w lo A n c l vs) : RowsAt w lo w.heap.size A l := rows_own h.own (Nat.le_refl _) h.len h.rows
def SomeR (w : World) (l : List RwD) (e : Ending) (w' : World) : Prop :=
  ∃ A n c vs, e = .returned (.slice A n c) ∧ RwsW w' w.heap.size A n c l vs ∧ Below w.heap.size w w'
theorem rd_new {lo : Nat} {O : Nat → Prop} {x : RwD} {av : Array Value} {W : World} (h : rV lo (fun k => O k ∧ lo ≤ k) x av W) (hlo : lo ≤ W.heap.size) : ∃ A1 n1 c1, av = #[.agg #[.int .u32 (x.1 : Int), .slice A1 n1 c1]] ∧ HdAt lo O (x, 0) A1 n1 c1 W.heap.size (W.alloc (.cells #[.int .u32 (x.1 : Int), .slice A1 n1 c1] 51)) := by
  obtain ⟨A1, n1, c1, e, h1, h2, l, h3⟩ := h
  have hb : Below W.heap.size W (W.alloc (.cells #[.int .u32 (x.1 : Int), .slice A1 n1 c1] 51)) := (Below.refl _ _).alloc (Nat.le_refl _) _
  refine ⟨A1, n1, c1, e, (h1.below hb).more hb.size, fun h0 a ha hO => h2 h0 a ha ⟨hO, h1.low a ha⟩, ⟨l, own_below' h3 hb⟩, Blk.new W [.int .u32 (x.1 : Int), .slice A1 n1 c1] _, hlo⟩
/-- The rows that have come so far: their arcs can be written. -/
structure CwX (O : Nat → Prop) (H : Nat) (pre : List RwD) (W : World) (A : Option Addr) (n c : Nat) (vs : List RwV) : Prop where
  col : ColX O H (H + 3) (H + 1) pre W A n c vs
  wr : ∀ p ∈ vs, WrR W p
  blk : ∀ k, (Value.slice A n c).ownBlock = some k → k = H ∨ H + 3 ≤ k
theorem CwX.get {O : Nat → Prop} {H : Nat} {pre : List RwD} {W : World} {A : Option Addr} {n c : Nat} {vs : List RwV} (h : CwX O H pre W A n c vs) {p : RwV} (hp : p ∈ vs) : 0 < p.2.2.1 → ∀ a, p.2.1 = some a → H + 3 ≤ a.block ∧ ¬ O a.block ∧ (Value.slice A n c).ownBlock ≠ some a.block := fun h0 a e => by
  obtain ⟨i, hi, hie⟩ := List.getElem_of_mem hp
  have hr : i < pre.length := by rw [← h.col.len]; exact hi
  obtain ⟨h1, h2⟩ := h.col.rows i p pre[i] (by rw [List.getElem?_eq_getElem hi, hie]) (List.getElem?_eq_getElem hr)
  have h3 := h1.low a e
  have h4 := h2 (by rw [h1.len]; exact h0) a e
  exact ⟨h3, h4.1, h4.2⟩
theorem CwX.stay {O O' : Nat → Prop} {H : Nat} {pre : List RwD} {W W' : World} {A : Option Addr} {n c : Nat} {vs : List RwV} (h : CwX O H pre W A n c vs) (ho : Out O W W') (hk : ∀ k, O' k → O k ∨ W.heap.size ≤ k) (hL : ¬ O (H + 1)) : CwX O' H pre W' A n c vs :=
  ⟨h.col.stay ho hk hL, fun p hp => (h.wr p hp).out ho fun h0 a e => (h.get hp h0 a e).2.1, h.blk⟩
structure RwI (H : Nat) (w : World) (O : Nat → Prop) (pre : List RwD) (W : World) : Prop where
  ex : ∃ A n c vs, CwX O H pre W A n c vs
  low : ∀ k, O k → H + 3 ≤ k
  size : H + 3 ≤ W.heap.size
  out : Below w.heap.size w W
theorem RwI.stays {H : Nat} {w : World} (hH : w.heap.size = H) : Ru.Stays (RwI H w) := by
  intro O O' pre W W' h ho hk
  obtain ⟨A, n, c, vs, hx⟩ := h.ex
  have hs5 := h.size
  refine ⟨⟨A, n, c, vs, hx.stay ho hk (fun e => by have := h.low _ e; omega)⟩, fun k e => (hk k e).elim (h.low k) (fun e => by omega), Nat.le_trans hs5 ho.size, ?_⟩
  exact h.out.trans (ho.below (fun k _ e => by have := h.low k e; omega) h.out.size)
theorem seqrow_info (w : World) (x : Array Value) : (binOp .eql 75 (.func (.func 56) #[] x) .nilFunc).run Try.prog w = .ok (.bool false) w := run_eql_func14 Try.underlying75 _ _ _
attribute [local go_sem] Oper.semAt_some
set_option maxRecDepth 100000 in
set_option maxHeartbeats 4000000 in
theorem lawrows_any {w : World} {lo hi n0 c0 : Nat} {g A0 : Option Addr} {l : List RwD} (h : GrAt w lo hi g A0 n0 c0 l) :
    Calls Try.prog 13 #[.pointer g] w (SomeR w l) := by
  refine (callsIn_wide (n := 4)).1 ?_
  obtain ⟨H, hH⟩ : ∃ H, H = w.heap.size := ⟨_, rfl⟩
  obtain ⟨W2, hW2⟩ : ∃ W2, (w.alloc (.cells #[] 51)).alloc (.cells #[.slice (some ⟨H, 0, none⟩) 0 0] 29) = W2 := ⟨_, rfl⟩
  obtain ⟨W3, hW3⟩ : ∃ W3, W2.alloc (.cells #[.pointer g] 25) = W3 := ⟨_, rfl⟩
  have hs2 : W2.heap.size = H + 2 := by rw [← hW2, hH]; simp
  have hs3 : W3.heap.size = H + 3 := by rw [← hW3]; simp [hs2]
  have hb2 : Below w.heap.size w W2 := by rw [← hW2]; exact ((Below.refl _ _).alloc (Nat.le_refl _) _).alloc (by simp) _
  have hb3 : Below w.heap.size w W3 := by rw [← hW3]; exact hb2.alloc hb2.size _
  have b1 : Blk W3 (H + 1) [.slice (some ⟨H, 0, none⟩) 0 0] := by rw [← hW3, ← hW2, hH]; exact (Blk.new' (w.alloc _) [_] _ (by simp)).alloc _
  have b2 : Blk W3 (H + 2) [.pointer g] := by rw [← hW3]; exact Blk.new' W2 [.pointer g] _ hs2
  have o3 : W3.ownsRow H 51 2 (.slice (some ⟨H, 0, none⟩) 0 0) 0 [] := by
    have h1 : (w.alloc (.cells #[] 51)).ownsRow w.heap.size 51 2 (.slice (some ⟨w.heap.size, 0, none⟩) 0 0) 0 [] := ⟨rfl, .inr ⟨w.heap.size, 0, #[], rfl, Nat.le_refl _, heap_alloc_new w _, Nat.le_refl _, by decide, rfl, rfl⟩⟩
    rw [← hW3, ← hW2, hH]
    exact (h1.alloc _).alloc _
  have HG := Lib.hid (rows_gives (h.past hb3) b2)
  have HTP := Lib.hid h.top
  have HFW := Lib.hid (show l.length ≤ 1000000 by rw [h.len]; exact h.few.1)
  have HI0 := Lib.hid (show ∀ O : Nat → Prop, (∀ k, O k → H + 3 ≤ k) → RwI H w O [] W3 from fun O hO => ⟨⟨some ⟨H, 0, none⟩, 0, 0, [], ⟨⟨b1, o3, (by simp [Value.ownBlock]), rfl, rfl, fun k e => (by injection e with e; have e : H = k := e; intro hk; have := hO k hk; omega), fun i p r h => (by simp at h)⟩, fun p hp => (by cases hp), fun k e => (by injection e with e; exact .inl e.symm)⟩⟩, hO, by omega, hb3⟩)
  have HHE := Lib.hid hH
  have HW2 := Lib.hid hW2
  have HW3 := Lib.hid hW3
  have HS3 := Lib.hid hs3
  have HS2 := Lib.hid hs2
  clear hH hW2 hW3 hs2 hs3 hb2 hb3 b1 b2 o3 h
  refine callsIn_of_wp_marks Try.func13 rfl trivial ?_ rfl
  simp only [Try.ntmps13, List.size_toArray, List.length_cons, List.length_nil, Nat.reduceAdd, Nat.reduceSub, Array.replicate_succ, Array.replicate_zero, List.push_toArray, List.append_toArray, List.nil_append, List.cons_append]
  gi_wp2_with fail
  simp only [World.size_alloc, ← HHE.out]
  rw [HW2.out]
  refine ⟨trivial, (callsIn_wide.2 (grows_any g W2)).mono ?_⟩
  rintro e w' ⟨rfl, hw'⟩
  rw [hw', HW3.out, HS2.out]
  clear hw'
  have hq := fun W : World => seqrow_info W #[.pointer (some ⟨H + 2, 0, none⟩)]
  gi_wp2_with fail
  have hs3 := HS3.out
  refine Ru.range_gives (gf := 56) (lb := #[.pointer (some ⟨H + 2, 0, none⟩)]) rfl (Go.Proofs.enters_of Try.func56 (by kernel_rfl) rfl) HG.out (Below.refl _ _) (fun B O x av W h => by obtain ⟨A1, n1, c1, e, -⟩ := h; rw [e]; rfl)
    (fun k => k = H ∨ k = H + 1) ?hS ?hM
    (RwI H w) (fun _ _ _ _ => False) (RwI.stays HHE.out.symm) (fun _ _ _ _ _ _ h => h.elim) ?hI0
    (fun O x a' W' => ∃ A1 n1 c1 R, a' = { tmps := #[.pointer g, undef, .slice none 0 0, .pointer (some ⟨H + 1, 0, none⟩), .func (.func 56) #[] #[.pointer (some ⟨H + 2, 0, none⟩)], .pointer (some ⟨R, 0, none⟩), .slice (some ⟨H, 0, none⟩) 0 0, .pointer g, .func (.func 56) #[] #[.pointer (some ⟨H + 2, 0, none⟩)], .func (.func 56) #[] #[.pointer (some ⟨H + 2, 0, none⟩)], .bool false, undef, .func (.func 56) #[] #[.pointer (some ⟨H + 2, 0, none⟩)], .agg #[.int .u32 (x.1 : Int), .slice A1 n1 c1], undef, undef, undef, undef, undef], defers := [] } ∧ HdAt (H + 5) O (x, 0) A1 n1 c1 R W')
    ?hAx ?assign ?body ?done ?stop
  case hS =>
    intro k hk
    have h1 := HTP.out
    have h2 := HHE.out
    refine ⟨by rcases hk with h | h <;> omega, ?_⟩
    rintro (h | h) <;> rcases hk with h' | h' <;> omega
  case hM =>
    have h1 := HTP.out
    have h2 := HHE.out
    rintro k (h | h) <;> omega
  case hI0 =>
    intro O hO
    exact HI0.out O (fun k hk => by have := hO k hk; omega)
  case hAx =>
    rintro O x a' W1 W2' ⟨A1, n1, c1, R, e, h⟩ ho
    exact ⟨A1, n1, c1, R, e, h.out ho (fun k hk => by rcases hk with h | h <;> omega)⟩
  case assign =>
    rintro O l' m pre x av W' K hO hOD hOD1 hv hI ho hK
    rw [hs3] at hv
    have hW7 : H + 3 + 2 ≤ W'.heap.size := by have := (hO _ hOD1).2; omega
    obtain ⟨A1, n1, c1, rfl, hd⟩ := rd_new hv hW7
    have HD := Lib.hid hd
    have HI2 := Lib.hid ((RwI.stays HHE.out.symm).below hI ((Below.refl _ _).alloc (Nat.le_refl _) (.cells #[.int .u32 (x.1 : Int), .slice A1 n1 c1] 51)))
    clear hd hv hI
    gi_wp2
    exact hK _ _ (Out.of_below ((Below.refl _ _).alloc (Nat.le_refl _) _)) HI2.out ⟨A1, n1, c1, _, rfl, HD.out⟩
  case body =>
    rintro O l' m pre x post a' W4 hX hO hOD hOD1 ho hI ⟨A1, n1, c1, R, rfl, hd⟩
    obtain ⟨A7, n7, c7, vs, hx⟩ := hI.ex
    have t2 := hx.col.box.cell (i := 0) rfl
    have f2 := hx.col.box.frozen 0
    have r0 := hd.box.cell (i := 0) rfl
    have r1 := hd.box.cell (i := 1) rfl
    have hn7 : n7 + 1 ≤ 1000000 := by
      have h1 := HFW.out
      rw [hX, List.length_append, List.length_cons] at h1
      have h2 := hx.col.num
      omega
    obtain ⟨i0, hi0, hz0', hz1, hz2⟩ := info_parts mrow_info
    obtain ⟨s, hs⟩ : ∃ s, s = x.1 := ⟨_, rfl⟩
    rw [← hs]
    replace r0 : W4.cell? ⟨R, 0, none⟩ = some (.int .u32 (s : Int)) := by rw [hs]; exact r0
    have HMX := Lib.hid (show n7 + 1 ≤ maxLen by unfold maxLen; omega)
    have HXX := Lib.hid hx
    have HD := Lib.hid hd
    have HI2 := Lib.hid hI
    have HO := Lib.hid hO
    have HS := Lib.hid hs
    have HSZ := Lib.hid hI.size
    have hH2 : H + 1 < W4.heap.size := hx.col.box.lt
    have HOO := Lib.hid ho
    have HON := Lib.hid (And.intro hOD hOD1)
    have HCE := Lib.hid (show ∀ u ∈ ([.int .u32 (s : Int), .slice A1 n1 c1] : List Value), u.oneCell' = true from fun u hu => by simp at hu; rcases hu with rfl | rfl <;> rfl)
    clear hx hd hI hO hs ho hX hOD hOD1
    gi_wp2_with (gi_at_builtin
                 go_loud (refine wpListIn_append_both rfl (.tmp 14) (.tmp 16) 29 rfl H 51 i0 _ 2 32 Try.underlying29 hi0 hz0' hz1 hz2 rfl (by decide) A7 n7 c7 _ rfl (HXX.out.col.own.alloc _) ⟨W4.heap.size, 0, none⟩ 1 1 [.int .u32 (s : Int), .slice A1 n1 c1] rfl rfl (two_lit rfl) HCE.out (by decide) HMX.out (by omega) (by rw [World.size_alloc]; have := HSZ.out; omega) ?_)
                 intro v6 w6 ho6 hg6 hn6 hfit6
                 refine Classical.byContradiction fun hcontra => ?_)
    obtain ⟨A8, d8, hv8, -⟩ := own_slice' ho6
    subst hv8
    have hba : Below W4.heap.size W4 (W4.alloc (.cells #[.int .u32 (s : Int), .slice A1 n1 c1] 51)) := (Below.refl _ _).alloc (Nat.le_refl _) _
    have hda := HD.out.out (.of_below hba) (T := fun _ => False) (fun k h => h.elim)
    have hxa := HXX.out.stay (O' := O) (.of_below hba) (fun k h => .inl h) (fun e => by have := HI2.out.low _ e; omega)
    have hsz4 := HI2.out.size
    have FIN := Lib.hid (show Out (Ru.SO (fun k => k = H ∨ k = H + 1) W3.heap.size O) W4 (w6.setCell ⟨H + 1, 0, none⟩ (.slice A8 (n7 + 1) d8)) ∧ RwI H w O (pre ++ [x]) (w6.setCell ⟨H + 1, 0, none⟩ (.slice A8 (n7 + 1) d8)) from by
      have hrow : RwAt (W4.alloc (.cells #[.int .u32 (s : Int), .slice A1 n1 c1] 51)) (H + 3) (W4.alloc (.cells #[.int .u32 (s : Int), .slice A1 n1 c1] 51)).heap.size (s, A1, n1, c1) x :=
        RwAt.mk (fun a e => by have := hda.row.low a e; omega) HS.out hda.row.fit hda.row.len hda.row.cap hda.row.arcs
      obtain ⟨hcol, hout⟩ := hxa.col.push (p := (s, A1, n1, c1)) (r := x) (by omega) hrow hda.free hda.own (fun k hk => by have := (HO.out k hk).2; rw [World.size_alloc]; omega) ho6 hg6 hn6
      have hfin : Out (fun k => k = H + 1 ∨ (Value.slice A7 n7 c7).ownBlock = some k) W4 (w6.setCell ⟨H + 1, 0, none⟩ (.slice A8 (n7 + 1) d8)) :=
        ((Out.of_below hba).trans (Out.of_grown (S := fun k => k = H + 1 ∨ (Value.slice A7 n7 c7).ownBlock = some k) hg6 fun k e _ => .inr e)).setCell (p := ⟨H + 1, 0, none⟩) (.inl (.inl rfl)) _
      have hnew : ∀ p ∈ vs ++ [(s, A1, n1, c1)], WrR (w6.setCell ⟨H + 1, 0, none⟩ (.slice A8 (n7 + 1) d8)) p := fun p hp => by
        refine WrR.set ?_ _ _
        rcases List.mem_append.1 hp with hp | hp
        · refine (hxa.wr p hp).out (Out.of_grown (S := fun k => (Value.slice A7 n7 c7).ownBlock = some k) hg6 fun k e _ => e) fun h0 a e => (hxa.get hp h0 a e).2.2
        · rw [List.mem_singleton.1 hp]
          obtain ⟨lo1, hown1⟩ := hda.own
          refine (WrR.own (s := s) hown1).out (Out.of_grown (S := fun k => (Value.slice A7 n7 c7).ownBlock = some k) hg6 fun k e _ => e) fun h0 a e h => ?_
          have e : A1 = some a := e
          exact own_apart hxa.col.own hown1 (by decide) h (by rw [e]; rfl)
      refine ⟨hfin.more fun k _ hk => ?_, ⟨⟨_, _, _, _, hcol, hnew, fun k e => ?_⟩, HI2.out.low, Nat.le_trans hsz4 hfin.size, ?_⟩⟩
      · rcases hk with rfl | hk
        · exact .inl (.inr rfl)
        · rcases HXX.out.blk k hk with rfl | h3
          · exact .inl (.inl rfl)
          · exact .inr ⟨by omega, HXX.out.col.free k hk⟩
      · rcases hn6 with h | h
        · rw [h] at e; exact HXX.out.blk k e
        · rw [h] at e; injection e with e; rw [World.size_alloc] at e; omega
      · exact HI2.out.out.trans (hfin.below (fun k _ hk => by
          have := HHE.out
          rcases hk with rfl | hk
          · omega
          · rcases HXX.out.blk k hk with rfl | h3 <;> omega) HI2.out.out.size))
    have hb6 : Blk w6 (H + 1) [.slice A7 n7 c7] := hxa.col.box.grown hg6 (fun e => hxa.col.off e)
    have e8 := hb6.cell (i := 0) rfl
    have y8 := hb6.frozen 0
    clear ho6 hg6 hn6 hfit6 hba hda hxa hb6 r0 r1 t2 f2 hsz4
    apply hcontra
    clear hcontra
    gi_wp2
    exact FIN.out
  case done =>
    rintro O D W4 hO hD hOD ho hI hK
    obtain ⟨A7, n7, c7, vs, hx⟩ := hI.ex
    have hD3 : D = H + 3 := by rw [hD, hs3]
    subst hD3
    have q1 := hx.col.box.cell (i := 0) rfl
    have hall : Out (fun k => k = H + 3) W4 (W4.putObj (H + 3) (.deferred none)) := Ru.put_out (O := fun k => k = H + 3) _ (H + 3) _ rfl
    have FIN := Lib.hid (show SomeR w l (.returned (.slice A7 n7 c7)) (W4.putObj (H + 3) (.deferred none)) from by
      have hsz := hI.size
      have hown := own_out hx.col.own hall (fun k hk e => by
        have h2 := hx.col.free k hk
        rw [e] at h2; exact h2 hOD)
      have hbl := hI.out.trans (hall.below (B := w.heap.size) (fun k _ hk => by have := HHE.out; omega) hI.out.size)
      refine ⟨A7, n7, c7, vs, rfl, ⟨own_more hown (by have := HHE.out; omega), hx.col.len, hx.col.num, fun i p r hp hr => ?_, fun p hp => (hx.wr p hp).out hall fun h0 a e h => ?_, fun p hp h0 a e => (hx.get hp h0 a e).2.2⟩, hbl⟩
      · obtain ⟨h1, h2⟩ := hx.col.rows i p r hp hr
        have h3 := h1.kept hall (fun h0 a e h => by
          have h5 := (h2 h0 a e).1
          rw [h] at h5
          exact h5 hOD)
        exact { h3 with low := fun a e => by have := h3.low a e; have := HHE.out; omega }
      · have h5 := (hx.get hp h0 a e).2.1
        rw [h] at h5
        exact h5 hOD)
    have HKK := Lib.hid hK
    clear hO hD hOD ho hI hK hx hall
    gi_wp2_with fail
    refine ⟨by simp, .inl ⟨_, _, rfl, run_takeDeferred HKK.out, ?_⟩⟩
    exact ⟨.slice A7 n7 c7, by simp [results, Try.results13, go_sem], FIN.out⟩
  case stop =>
    rintro O D cc pre post W4 hO hD hOD ho hX h hK
    exact h.elim
end Go.Proofs.Yteaibgnelnblnaa
end
