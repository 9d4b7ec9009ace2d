/- A new map, and a copy of one. -/
import Derived.Test.YtjphjlbbeammnaaMap
import Derived.Test.YtjphjlbbeammnaaAppRow
import Derived.OwnWalk
namespace Go.Proofs.Ytjphjlbbeammnaa
open Go.RowKit Me Ex

theorem made_free (n : Nat) : (madeCells (Value.bool false).cells (n * 1)).toList = bcells (List.replicate n false) := by
  rw [Nat.mul_one]
  have e : (Value.bool false).cells = #[Value.bool false] := rfl
  rw [e]
  unfold madeCells bcells
  apply List.ext_getElem?
  intro i
  by_cases hi : i < n
  · simp [hi, Nat.mod_one]
  · simp [hi]
theorem cs_row {w : World} {B : Nat} {A : Option Addr} {vs : List Value} (h : Cs w B A vs) : 0 < vs.length → ∃ a, A = some a ∧ ∀ j u, vs[j]? = some u → w.cell? (a.add j) = some u := fun hn => by
  obtain ⟨a, e, -, hc⟩ := h hn
  exact ⟨a, e, hc⟩
/-- An empty row of one's own. -/
theorem own_none (w : World) (base size : Nat) (e : TypeId) (hb : base ≤ w.heap.size) : (w.alloc (.cells #[] e)).ownsRow base e size (.slice (some ⟨w.heap.size, 0, none⟩) 0 0) 0 [] := by
  refine ⟨by simp, .inr ⟨w.heap.size, 0, #[], rfl, hb, heap_alloc_new w _, Nat.le_refl _, by unfold maxLen; omega, by simp, by simp⟩⟩
/-- New memory is answered that reads as these blocks. -/
def NewsB (w : World) (k : List Bool) (e : Ending) (w' : World) : Prop :=
  ∃ v, e = .returned v ∧ w'.ownsRow w.heap.size 4 1 v k.length (bcells k) ∧ Below w.heap.size w w'
set_option maxRecDepth 100000 in
set_option maxHeartbeats 400000 in
theorem clone_any (A : Option Addr) (n c : Nat) (k : List Bool) (w : World) (hl : k.length = n) (hn : n ≤ 65536) (hr : Cs w w.heap.size A (bcells k)) :
    Calls Try.prog 18 #[.slice A n c] w (NewsB w k) := by
  obtain ⟨i0, hi0, hz0, hz1, hz2⟩ := info_parts bool_info
  have q22 : ∀ (w : World) (a : Option Addr) (n c n' c' : Nat), (binOp .eql 27 (.slice a n c) (.slice none n' c')).run Try.prog w = .ok (.bool a.isNone) w := fun w a n c n' c' => Lib.run_eql_slice_nil w _ _ a n c n' c' Try.underlying27
  have hb0 : Below w.heap.size w (w.alloc (.cells #[] 4)) := (Below.refl _ _).alloc (Nat.le_refl _) _
  have HL := Lib.hid hl
  have HR := Lib.hid hr
  have HLN := Lib.hid (show (bcells k).length = n * 1 by rw [bcells_length, hl, Nat.mul_one])
  have HRR := Lib.hid (cs_row (hr.below hb0))
  have HM1 := Lib.hid (show 0 + n ≤ maxLen by unfold maxLen; omega)
  have HB0 := Lib.hid hb0
  clear hl hr hb0
  cases A with
  | none =>
    go_enter Try.func18, Try.ntmps18
    go_wp2
    go_ret
    have h1 : k = [] := by
      rcases Nat.eq_zero_or_pos k.length with h0 | h0
      · exact List.eq_nil_of_length_eq_zero h0
      · obtain ⟨a, e, _⟩ := HR.out (by rw [bcells_length]; exact h0)
        cases e
    subst h1
    exact ⟨_, rfl, World.ownsRow_nil _ _ _ _, Below.refl _ _⟩
  | some a =>
    go_enter Try.func18, Try.ntmps18
    go_wp2_with (at_builtin
                 refine wpList_append_row rfl (.tmp 5) (.tmp 6) 27 rfl w.heap.size 4 i0 _ 1 1 Try.underlying27 hi0 hz0 hz1 hz2 rfl (by decide) (.slice (some ⟨w.heap.size, 0, none⟩) 0 0) 0 [] rfl (own_none w _ _ _ (Nat.le_refl _)) (some a) n c (bcells k) rfl HLN.out HRR.out (bcells_one k) HM1.out (by omega) HB0.out.size ?_
                 intro v2 w3 hown2 hg2 hat2
                 have HB3 := Lib.hid (below_app' HB0.out (own_none w w.heap.size 1 4 (Nat.le_refl _)) (Nat.le_refl _) HB0.out.size hg2)
                 have HW2 := Lib.hid hown2
                 clear hat2 hg2 hown2)
    go_ret
    exact ⟨v2, rfl, by have := HW2.out; rw [Nat.zero_add, List.nil_append] at this; rw [HL.out]; exact this, HB3.out⟩
/-- A new block with one cell: a map round a row of one's own. -/
theorem map_new {w w1 : World} {v : Value} {k : List Bool} (ho : w1.ownsRow w.heap.size 4 1 v k.length (bcells k)) (hb : Below w.heap.size w w1) (hm : k.length ≤ 65536) {t : TypeId} :
    ∃ own, MapAt (w1.alloc (.cells #[v] t)) w.heap.size w1.heap.size k own ∧ Below w.heap.size w (w1.alloc (.cells #[v] t)) := by
  have hs := hb.size
  refine ⟨fun j => j = w1.heap.size ∨ v.ownBlock = some j, ⟨v, ⟨Blk.new w1 [v] t, own_below' ho ((Below.refl _ _).alloc (Nat.le_refl _) _), own_ne ho, hs, fun _ => Iff.rfl, hm⟩⟩, hb.alloc hs _⟩
/-- A new map is answered. -/
def NewM (w : World) (k : List Bool) (e : Ending) (w' : World) : Prop := ∃ D own, e = .returned (.pointer (some ⟨D, 0, none⟩)) ∧ MapAt w' w.heap.size D k own ∧ Below w.heap.size w w'
set_option maxRecDepth 100000 in
set_option maxHeartbeats 400000 in
theorem new_any (i : Int) (w : World) :
    Calls Try.prog 8 #[.int .i64 i] w (NewM w (List.replicate (min (max i 0) 65536).toNat false)) := by
  obtain ⟨i0, hi0, hz0, hz1, hz2⟩ := info_parts bool_info
  obtain ⟨n, hn⟩ : ∃ n, n = (min (max i 0) 65536).toNat := ⟨_, rfl⟩
  rw [← hn]
  have hn1 : n ≤ 65536 := by omega
  have hway : (i < 0 ∧ Hid ((0 : Int) = (n : Int))) ∨ (¬ i < 0 ∧ 65536 < i ∧ Hid ((65536 : Int) = (n : Int))) ∨ (¬ i < 0 ∧ ¬ 65536 < i ∧ Hid (i = (n : Int))) := by
    by_cases h1 : i < 0
    · exact .inl ⟨h1, Lib.hid (by omega)⟩
    · by_cases h2 : 65536 < i
      · exact .inr (.inl ⟨h1, h2, Lib.hid (by omega)⟩)
      · exact .inr (.inr ⟨h1, h2, Lib.hid (by omega)⟩)
  have HB2 := Lib.hid (show i0.bytes * n ≤ 281474976710656 by rw [hz2]; omega)
  have HM1 := Lib.hid (show n ≤ maxLen by unfold maxLen; omega)
  clear hn
  have hfin : ∀ w1 : World, w1.ownsRow w.heap.size 4 1 (.slice (some ⟨w.heap.size, 0, none⟩) n n) n (madeCells (Value.bool false).cells (n * 1)).toList → w.grownBy w1 none →
      ∃ own, MapAt (w1.alloc (.cells #[.slice (some ⟨w.heap.size, 0, none⟩) n n] 45)) w.heap.size w1.heap.size (List.replicate n false) own ∧ Below w.heap.size w (w1.alloc (.cells #[.slice (some ⟨w.heap.size, 0, none⟩) n n] 45)) := fun w1 ho hg => by
    rw [made_free] at ho
    have hb1 : Below w.heap.size w w1 := (Below.refl _ _).grown hg (Nat.le_refl _) (fun k e => by cases e)
    exact map_new (k := List.replicate n false) (by rw [List.length_replicate]; exact ho) hb1 (by rw [List.length_replicate]; exact hn1)
  have HF := Lib.hid hfin
  clear hfin
  rcases hway with ⟨h1, HI⟩ | ⟨h1, h2, HI⟩ | ⟨h1, h2, HI⟩
  all_goals
    go_enter Try.func8, Try.ntmps8
    go_wp2_with (refine wpList_make_full w rfl _ _ 27 rfl w.heap.size 4 i0 _ 1 Try.underlying27 hi0 hz0 hz1 .i64 .i64 _ _ n rfl rfl HI.out HI.out HB2.out HM1.out (Nat.le_refl _) ?_
                 intro w1 ho1 hg1
                 have HO1 := Lib.hid ho1
                 have HG1 := Lib.hid hg1
                 clear ho1 hg1)
    go_ret
    obtain ⟨own, h3, h4⟩ := HF.out w1 HO1.out HG1.out
    exact ⟨_, own, rfl, h3, h4⟩
theorem mclone_nil (w : World) : Calls Try.prog 10 #[.pointer none] w fun e w' => e = .returned (.pointer none) ∧ w = w' := by
  go_enter Try.func10, Try.ntmps10
  go_wp2
  go_ret
  exact ⟨rfl, rfl⟩
set_option maxRecDepth 100000 in
set_option maxHeartbeats 400000 in
theorem mclone_any {w : World} {B D : Nat} {k : List Bool} {own : Nat → Prop} (h : MapAt w B D k own) :
    Calls Try.prog 10 #[.pointer (some ⟨D, 0, none⟩)] w (NewM w k) := by
  obtain ⟨Pv, h⟩ := h
  obtain ⟨A, c, rfl, hc⟩ := h.slice
  have c0 := h.blk.cell (i := 0) rfl
  have hm := h.most
  have HC := Lib.hid (clone_any A k.length c k w rfl hm (Cs.of_own h.row))
  obtain ⟨n, hn⟩ : ∃ n, n = k.length := ⟨_, rfl⟩
  rw [← hn] at c0 HC
  have HM := Lib.hid hm
  clear h hn hc hm
  go_enter Try.func10, Try.ntmps10
  go_wp2_with (go_at_call 18; refine HC.out.mono ?_; rintro e w1 ⟨v, rfl, ho, hb⟩; obtain ⟨A1, c1, rfl, -⟩ := own_slice' ho; have HO := Lib.hid ho; have HB := Lib.hid hb; clear ho hb)
  go_ret
  obtain ⟨own, h1, h2⟩ := map_new (t := 45) HO.out HB.out HM.out
  exact ⟨_, own, rfl, h1, h2⟩
end Go.Proofs.Ytjphjlbbeammnaa
