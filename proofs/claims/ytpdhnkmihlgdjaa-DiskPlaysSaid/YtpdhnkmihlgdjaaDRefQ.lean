/- The document's disk: a write more for good. -/
import Derived.Test.YtpdhnkmihlgdjaaDRefP
import Derived.Maps.AppendAt
namespace Go.Proofs.Ytpdhnkmihlgdjaa
open Go.RowKit Me Rw Ds

theorem w_info : (Try.prog.info? 71).map (fun i => (i.zero, i.size, i.bytes)) = some (some (.agg #[.int .i64 0, .string { data := #[] }]), 2, 24) := by kernel_rfl
/-- What is known of each slot of the comparison. -/
def putG (H : Nat) (Am : Option Addr) (nm cm k g : Nat) (y x : WD) (q : Bool) : Gw.Fact := fun t v _ =>
  match t with
  | 2 => v = .pointer (some ⟨H, 0, none⟩)
  | 3 | 20 => v = .pointer (some ⟨H + 1, 0, none⟩)
  | 14 => v = .pointer (some ⟨H, 3, none⟩)
  | 15 => v = .slice Am nm cm
  | 6 | 16 => v = .int .i64 (k : Int)
  | 17 | 18 => v = .pointer (some ⟨g, k * 2, none⟩)
  | 19 => v = .int .i64 (y.i : Int)
  | 21 => v = .int .i64 (x.i : Int)
  | 22 => v = .bool q
  | _ => True
/-- What stands behind some rounds. -/
def PutRel (w0 : World) (H : Nat) (x : WD) (l : List WD) (k : Nat) (v : Value) (wr : World) : Prop :=
  ∃ n, v.ownBlock ≠ none ∧ n ≤ k ∧ ((l.take k).filter fun y => decide (y.i ≠ x.i)).length = n ∧ wr.ownsRow (H + 3) 71 2 v n (Rw.rows wCells ((l.take k).filter fun y => decide (y.i ≠ x.i))) ∧ Below (H + 3) w0 wr
theorem PutRel.skip {w0 wr : World} {H k : Nat} {x y : WD} {l : List WD} {v : Value} (h : PutRel w0 H x l k v wr) (hy : l[k]? = some y) (hq : y.i = x.i) {w' : World} (hb : Below wr.heap.size wr w') (hH : H + 3 ≤ wr.heap.size) : PutRel w0 H x l (k + 1) v w' := by
  obtain ⟨n, h1, h2, h3, h4, h5⟩ := h
  have e : (l.take (k + 1)).filter (fun y => decide (y.i ≠ x.i)) = (l.take k).filter fun y => decide (y.i ≠ x.i) := by
    rw [List.take_add_one, hy, List.filter_append]
    simp [hq]
  rw [PutRel, e]
  exact ⟨n, h1, by omega, h3, own_below' h4 hb, h5.trans (hb.mono hH)⟩
theorem put_step {l : List WD} {k : Nat} {x y : WD} (hy : l[k]? = some y) (hq : y.i ≠ x.i) : (l.take (k + 1)).filter (fun y => decide (y.i ≠ x.i)) = ((l.take k).filter fun y => decide (y.i ≠ x.i)) ++ [y] := by
  rw [List.take_add_one, hy, List.filter_append]
  simp [hq]
set_option maxRecDepth 100000 in
set_option maxHeartbeats 2000000 in
theorem put_any (cn : Int) (of : Bool) (f : Int) (Am : Option Addr) (nm cm : Nat) (Aw : Option Addr) (nw cw : Nat) (made : List WD) (x : WD) (own : Nat → Prop) (w : World) (hl : made.length = nm) (hn : nm ≤ 1073741824) (hc : nm ≤ cm) (h : Cy w own Am made) (hown : ∀ k, own k → k < w.heap.size) :
    Calls Try.prog 34 #[.agg #[.int .i64 cn, .bool of, .int .i64 f, .slice Am nm cm, .slice Aw nw cw], .agg #[.int .i64 (x.i : Int), sv x.b]] w fun e w' =>
      ∃ A' n' c', e = .returned (.agg #[.int .i64 cn, .bool of, .int .i64 f, .slice A' n' c', .slice Aw nw cw]) ∧ (put made x).length = n' ∧ n' ≤ nm + 1 ∧ n' ≤ c' ∧ Cy w' own A' (put made x) ∧ Below w.heap.size w w' := by
  obtain ⟨i0, hi0, hz0, hz1, hz2⟩ := info_parts w_info
  obtain ⟨H, hH⟩ : ∃ H, w.heap.size = H := ⟨_, rfl⟩
  obtain ⟨W3, hW3⟩ : ∃ W3, ((w.alloc (.cells #[.int .i64 cn, .bool of, .int .i64 f, .slice Am nm cm, .slice Aw nw cw] 30)).alloc (.cells #[.int .i64 (x.i : Int), sv x.b] 71)).alloc (.cells #[.int .i64 0, .bool false, .int .i64 0, .slice none 0 0, .slice none 0 0] 30) = W3 := ⟨_, rfl⟩
  have hsz : W3.heap.size = H + 3 := by rw [← hW3, ← hH]; simp
  have hB0 : Blk W3 H [.int .i64 cn, .bool of, .int .i64 f, .slice Am nm cm, .slice Aw nw cw] := by
    rw [← hW3, ← hH]; exact ((Blk.new w _ _).alloc _).alloc _
  have hB1 : Blk W3 (H + 1) [.int .i64 (x.i : Int), sv x.b] := by
    rw [← hW3, ← hH]; exact (Blk.new' _ [.int .i64 (x.i : Int), sv x.b] 71 (H := w.heap.size + 1) (by simp)).alloc _
  have hB2 : Blk W3 (H + 1 + 1) [.int .i64 0, .bool false, .int .i64 0, .slice none 0 0, .slice none 0 0] := by
    rw [← hW3, ← hH]; exact Blk.new' _ [.int .i64 0, .bool false, .int .i64 0, .slice none 0 0, .slice none 0 0] 30 (H := w.heap.size + 1 + 1) (by simp)
  have hb3 : Below w.heap.size w W3 := by
    rw [← hW3]; exact (((Below.refl _ w).alloc (Nat.le_refl _) _).alloc (by simp) _).alloc (by simp; omega) _
  have HA := Lib.hid (h.past hb3)
  have HL := Lib.hid hl
  have HOwn := Lib.hid hown
  have k3 : W3.cell? ⟨H, 3, none⟩ = some (.slice Am nm cm) := hB0.cell rfl
  rw [hH] at hb3 hown
  have HF := Lib.hid (And.intro hB0 (And.intro hB1 (And.intro hB2 hb3)))
  have HREL := Lib.hid (show PutRel W3 H x made 0 (.slice (some ⟨H + 3, 0, none⟩) 0 0) (W3.alloc (.cells #[] 71)) from
    ⟨0, by simp [Value.ownBlock], Nat.le_refl _, rfl, by
      have := World.ownsRow_lit (base := H + 3) (size := 2) (e := 71) W3 #[] 0 (by omega) (by unfold maxLen; omega) rfl
      rw [hsz] at this
      exact this, (Below.refl _ _).alloc (by omega) _⟩)
  clear h hl hB0 hB1 hB2 hb3 hown
  go_enter Try.func34, Try.ntmps34
  go_wp2
  clear hW3 k3
  go_loopw [5, 11] (fun v iv wr => ∃ k : Nat, k ≤ nm ∧ iv = .int .i64 k ∧ Hid (PutRel W3 H x made k v wr)) (fun _ iv _ => nm - (intOf iv).toNat)
  case atStart => exact ⟨0, Nat.zero_le _, rfl, HREL⟩
  case round =>
    obtain ⟨k, hk, rfl, HR⟩ := hrel
    have hb := HR.out
    obtain ⟨n, hob, hnk, hfl, how, hbw⟩ := hb
    have HO := Lib.hid how
    have HB := Lib.hid hbw
    have HFL := Lib.hid hfl
    have hws : H + 3 ≤ wr.heap.size := by have := hbw.size; omega
    clear how hbw hob hfl
    by_cases hlt : k < nm
    · have hlt' : k < made.length := by rw [HL.out]; exact hlt
      obtain ⟨y, hy⟩ : ∃ y, made[k]? = some y := ⟨_, List.getElem?_eq_getElem hlt'⟩
      obtain ⟨g, rfl, hg, -, c0, c1⟩ := HA.out.at hy
      rw [hsz] at hg
      have HG := Lib.hid (And.intro c0 c1)
      have HY := Lib.hid hy
      have q0 : (k : Int) < (nm : Int) := by omega
      obtain ⟨q, hq⟩ : ∃ q, q = decide (y.i ≠ x.i) := ⟨_, rfl⟩
      have e1 : ((y.i : Int) != (x.i : Int)) = q := by
        rw [hq]
        by_cases e : y.i = x.i
        · rw [e]; simp
        · rw [decide_eq_true e, bne_iff_ne]; omega
      have HQ := Lib.hid hq
      clear hlt' hy c0 c1 hq HREL
      go_wp2_with fail
      refine Gw.wp_region_grow (putG H (some ⟨g, 0, none⟩) nm cm k g y x q) [14, 15, 16, 17, 18, 19, 20, 21, 22] [([2], none), ([14], none), ([6], none), ([15, 16], none), ([17], none), ([18], none), ([3], none), ([20], none), ([19, 21], none)] 38 (by kernel_rfl) (by kernel_rfl) rfl ?h0 ?hreq ?hend
      case h0 =>
        intro t W hnd _
        unfold putG
        split <;> first | rfl | trivial | exact absurd (by simp) hnd
      case hreq =>
        refine ⟨?_, ?_, ?_, ?_, ?_, ?_, ?_, ?_, ?_, trivial⟩
        all_goals
          intro ac W hg' hk'
          have hbW := HB.out.trans (Below.mono (show Below wr.heap.size wr W from hg') hws)
          have k3 : W.cell? ⟨H, 3, none⟩ = some (.slice (some ⟨g, 0, none⟩) nm cm) := (hbW.cell (p := ⟨H, 3, none⟩) (by show H < H + 3; omega)).trans (HF.out.1.cell rfl)
          have x0 : W.cell? ⟨H + 1, 0, none⟩ = some (.int .i64 (x.i : Int)) := (hbW.cell (p := ⟨H + 1, 0, none⟩) (by show H + 1 < H + 3; omega)).trans (HF.out.2.1.cell rfl)
          have y0 : W.cell? ⟨g, k * 2, none⟩ = some (.int .i64 (y.i : Int)) := (hbW.cell (p := ⟨g, k * 2, none⟩) hg).trans HG.out.1
          simp only [Gw.Knows, putG] at hk'
          try (simp [go_sem, Gw.OpReq, Gw.Ok, Gw.Post, Gw.Holds, putG, Gw.Grows.refl, hk', k3, x0, y0, hlt, e1]; done)
      case hend =>
        intro x' w' hg' hx
        have h22 : x' 22 = .bool q := (hx 22 (by simp)).now
        have hbg : Below wr.heap.size wr w' := hg'
        have hsw := hbg.size
        have HBG := Lib.hid hbg
        have HB2 := Lib.hid (HB.out.trans (hbg.mono hws))
        clear hx hg' hbg
        simp only [Gw.putAll, Act.put, List.setIfInBounds_toArray, List.set_cons_zero, List.set_cons_succ]
        rw [h22]
        cases q with
        | false =>
          have hyx : y.i = x.i := by simpa using HQ.out
          have HN := Lib.hid (HR.out.skip HY.out hyx HBG.out hws)
          go_wp2
          go_roundw
          case rel => exact ⟨k + 1, by omega, by go_num, HN⟩
          case measure => simp [intOf]; omega
        | true =>
          have hyx : y.i ≠ x.i := by simpa using HQ.out
          have HO2 := Lib.hid (own_below' HO.out HBG.out)
          have k3 : w'.cell? ⟨H, 3, none⟩ = some (.slice (some ⟨g, 0, none⟩) nm cm) := (HB2.out.cell (p := ⟨H, 3, none⟩) (by show H < H + 3; omega)).trans (HF.out.1.cell rfl)
          have y0 : w'.cell? ⟨g, k * 2, none⟩ = some (.int .i64 (y.i : Int)) := (HB2.out.cell (p := ⟨g, k * 2, none⟩) hg).trans HG.out.1
          have y1 : w'.cell? ⟨g, k * 2 + 1, none⟩ = some (sv y.b) := (HB2.out.cell (p := ⟨g, k * 2 + 1, none⟩) hg).trans HG.out.2
          have HST := Lib.hid (put_step HY.out hyx)
          have hnm : n + 1 ≤ maxLen := by unfold maxLen; omega
          have hnb : (n + 1) * 24 ≤ 140737488355328 := by omega
          clear hyx
          go_wp2_with (at_builtin
                       refine wpList_append_own_at (w := w'.alloc (.cells #[.int .i64 (y.i : Int), sv y.b] 71)) rfl (.tmp 23) (.tmp 29) 28 rfl (H + 3) 71 i0 _ 2 24 Try.underlying28 hi0 hz0 hz1 hz2 rfl (by decide) u5 n _ rfl (HO2.out.alloc _) ⟨w'.heap.size, 0, none⟩ 1 1 (wCells y) rfl rfl (two_lit rfl) (wCells_one y) hnm hnb (by simp; omega) ?_
                       intro v5 w5 hown5 hg5 _ hat5)
          have HN := Lib.hid (show PutRel W3 H x made (k + 1) v5 w5 by
            obtain ⟨g5, c5, hv5, -, -⟩ := hown5.form (by omega)
            refine ⟨n + 1, by rw [hv5]; simp [Value.ownBlock], by omega, ?_, ?_, (HB2.out.alloc (Nat.le_trans hws hsw) _).grown hg5 (by simp; omega) (fun j hj => (HO2.out.lt j hj).1)⟩
            · rw [HST.out, List.length_append, HFL.out]; rfl
            · rw [HST.out, rows_snoc]; exact hown5)
          exact ⟨⟨k + 1, by omega, by go_num, HN⟩, by simp [intOf]; omega⟩
    · have hkn : k = nm := by omega
      subst hkn
      have hft : (made.take k).filter (fun y => decide (y.i ≠ x.i)) = made.filter fun y => decide (y.i ≠ x.i) := by rw [List.take_of_length_le (by rw [HL.out]; omega)]
      have ho := HO.out
      have hfl := HFL.out
      rw [hft] at ho hfl
      have HO2 := Lib.hid ho
      have HFL2 := Lib.hid hfl
      have x0 : wr.cell? ⟨H + 1, 0, none⟩ = some (.int .i64 (x.i : Int)) := (HB.out.cell (p := ⟨H + 1, 0, none⟩) (by show H + 1 < H + 3; omega)).trans (HF.out.2.1.cell rfl)
      have x1 : wr.cell? ⟨H + 1, 1, none⟩ = some (sv x.b) := (HB.out.cell (p := ⟨H + 1, 1, none⟩) (by show H + 1 < H + 3; omega)).trans (HF.out.2.1.cell rfl)
      have hnm : n + 1 ≤ maxLen := by unfold maxLen; omega
      have hnb : (n + 1) * 24 ≤ 140737488355328 := by omega
      clear ho hfl hft HREL
      go_wp2_with (at_builtin
                   refine wpList_append_own_at (w := wr.alloc (.cells #[.int .i64 (x.i : Int), sv x.b] 71)) rfl (.tmp 32) (.tmp 34) 28 rfl (H + 3) 71 i0 _ 2 24 Try.underlying28 hi0 hz0 hz1 hz2 rfl (by decide) u5 n _ rfl (HO2.out.alloc _) ⟨wr.heap.size, 0, none⟩ 1 1 (wCells x) rfl rfl (two_lit rfl) (wCells_one x) hnm hnb (by simp; omega) ?_
                   intro v5 w5 hown5 hg5 _ hat5
                   obtain ⟨A5, c5, rfl, hc5⟩ := own_slice' hown5
                   have hb5 := (HB.out.alloc hws (.cells #[.int .i64 (x.i : Int), sv x.b] 71)).grown hg5 (by simp; omega) (fun j hj => (HO2.out.lt j hj).1)
                   have b0 := HF.out.1.keep (hb5.block H (by omega))
                   have b2 := HF.out.2.2.1.keep (hb5.block (H + 1 + 1) (by omega))
                   obtain ⟨p0, p1, p2, p3, p4⟩ := b0.five
                   obtain ⟨f0, f1, f2, f3, f4⟩ := b0.five_free
                   obtain ⟨r0, r1, r2, r3, r4⟩ := b2.five
                   obtain ⟨s0, s1, s2, s3, s4⟩ := b2.five_free
                   have HB5 := Lib.hid hb5
                   have HO5 := Lib.hid hown5
                   have HB2' := Lib.hid b2
                   clear hat5 hg5 hown5 hb5 b0 b2)
      have hbF := (HB2'.out.other (p := ⟨H, 3, none⟩) (by show H ≠ H + 1 + 1; omega) (.slice A5 (n + 1) c5)).set5 (.int .i64 cn) (.bool of) (.int .i64 f) (.slice A5 (n + 1) c5) (.slice Aw nw cw)
      have hoF : Out (fun j => j = H ∨ j = H + 1 + 1) w5 ((((((w5.setCell ⟨H, 3, none⟩ (.slice A5 (n + 1) c5)).setCell ⟨H + 1 + 1, 0, none⟩ (.int .i64 cn)).setCell ⟨H + 1 + 1, 1, none⟩ (.bool of)).setCell ⟨H + 1 + 1, 2, none⟩ (.int .i64 f)).setCell ⟨H + 1 + 1, 3, none⟩ (.slice A5 (n + 1) c5)).setCell ⟨H + 1 + 1, 4, none⟩ (.slice Aw nw cw)) :=
        ((((((Out.refl (fun j => j = H ∨ j = H + 1 + 1) w5).setCell (p := ⟨H, 3, none⟩) (.inl (.inl rfl)) _).setCell (p := ⟨H + 1 + 1, 0, none⟩) (.inl (.inr rfl)) _).setCell (p := ⟨H + 1 + 1, 1, none⟩) (.inl (.inr rfl)) _).setCell (p := ⟨H + 1 + 1, 2, none⟩) (.inl (.inr rfl)) _).setCell (p := ⟨H + 1 + 1, 3, none⟩) (.inl (.inr rfl)) _).setCell (p := ⟨H + 1 + 1, 4, none⟩) (.inl (.inr rfl)) _
      clear r0 r1 r2 r3 r4
      obtain ⟨r0, r1, r2, r3, r4⟩ := hbF.five
      refine bodyPost_ret (v := .agg #[.int .i64 cn, .bool of, .int .i64 f, .slice A5 (n + 1) c5, .slice Aw nw cw]) (by simp [results, Try.results34, go_sem, r0, r1, r2, r3, r4]) rfl ?_
      have hw5 := HB5.out.size
      refine ⟨A5, n + 1, c5, rfl, by unfold put; rw [List.length_append, HFL2.out]; rfl, by omega, hc5, ?_, ?_⟩
      · refine Cy.of_own (base := H + 3) (n := n + 1) (c := c5) (e := 71) ?_ (fun j hj ho => by have := HOwn.out j ho; omega)
        have := own_out HO5.out hoF (fun j hj e => by have := (HO5.out.lt j hj).1; omega)
        unfold put
        rw [rows_snoc]
        exact this
      · rw [hH]
        exact HF.out.2.2.2.trans ((HB5.out.mono (by omega)).trans (hoF.below (fun j _ hj => by omega) (by omega)))
end Go.Proofs.Ytpdhnkmihlgdjaa
