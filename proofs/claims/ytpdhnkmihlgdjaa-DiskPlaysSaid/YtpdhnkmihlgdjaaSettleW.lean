/- A disk's pending writes are settled: the walk. -/
import Derived.Test.YtpdhnkmihlgdjaaSettle
namespace Go.Proofs.Ytpdhnkmihlgdjaa
open Go.RowKit Me Rw Ds

/-- What is known of each slot of the region that copies. -/
def setG (D g H i k s : Nat) (n : Nat) (K T : Nat) : Gw.Fact := fun t v _ =>
  match t with
  | 0 | 18 | 19 | 20 => v = .pointer (some ⟨D, 0, none⟩)
  | 7 | 22 => v = .pointer (some ⟨H, 0, none⟩)
  | 6 | 27 => v = .int .i64 (k : Int)
  | 1 | 28 => v = .int .u64 (K : Int)
  | 2 | 29 => v = .int .u64 (T : Int)
  | 21 => v = .slice (some ⟨g, 0, none⟩) n n
  | 23 => v = .int .i64 (i : Int)
  | 24 => v = .pointer (some ⟨g, i * 128, none⟩)
  | 25 => v = .slice (some ⟨g, i * 128, none⟩) 128 128
  | 26 => v = .pointer (some ⟨H, 1, none⟩)
  | 30 => v = .int .i64 (s : Int)
  | 31 => v = .slice (some ⟨H, 1, none⟩) s 128
  | _ => True
theorem surv_le (K T k : Nat) : surv K T k ≤ 128 := by
  unfold surv
  split
  · omega
  · split <;> omega
set_option maxRecDepth 100000 in
set_option maxHeartbeats 2000000 in
theorem settle_any {w : World} {B D : Nat} {S : Dsk} {own : Nat → Prop} (h : DiskAt w B D S own) (K T : Nat) (hK : K < 18446744073709551616) (hT : T < 18446744073709551616) (hp : S.pend.length < 4611686018427387904) :
    Calls Try.prog 32 #[.pointer (some ⟨D, 0, none⟩), .int .u64 (K : Int), .int .u64 (T : Int)] w fun e w' => e = .returned (.tuple #[]) ∧ DPost w B D { S with stored := Ds.settle K T 0 S.pend S.stored, pend := [] } own w' := by
  obtain ⟨g, Pv, h⟩ := h
  obtain ⟨A, c, rfl, hc⟩ := own_slice' h.pend
  obtain ⟨c0, c1, c2, c3⟩ := h.blk.four
  obtain ⟨n, hn⟩ : ∃ n, n = S.pend.length := ⟨_, rfl⟩
  rw [← hn] at hp hc c1
  have HL := Lib.hid h
  have HN := Lib.hid hn
  have HO := Lib.hid (Out.refl own w)
  have hz : ∀ w, (zeroValue 69).run Try.prog w = .ok (.agg zeroW) w := (zero_of_info zeroW_info).1
  obtain ⟨R, hR⟩ : ∃ R, R = Ds.settle K T 0 S.pend S.stored := ⟨_, rfl⟩
  rw [← hR]
  have HR := Lib.hid hR
  clear h hn hR
  go_enter Try.func32, Try.ntmps32
  go_wp2
  go_loopw [13] (fun i wr => ∃ k : Nat, k ≤ n ∧ i = .int .i64 k ∧ ∃ st, Hid (Ds.settle K T k (S.pend.drop k) st = R) ∧ Hid (Laid wr B D g (.slice A S.pend.length c) { S with stored := st } own) ∧ Hid (Out own w wr)) (fun i _ => n - (intOf i).toNat)
  case atStart => exact ⟨0, Nat.zero_le _, rfl, S.stored, HR.out.symm, HL, HO⟩
  case round =>
    obtain ⟨k, hk, rfl, st, HS, HLk, HOk⟩ := hrel
    by_cases hlt : k < n
    · have hlt' : k < S.pend.length := by rw [← HN.out]; exact hlt
      obtain ⟨x, hx⟩ : ∃ x, S.pend[k]? = some x := ⟨_, List.getElem?_eq_getElem hlt'⟩
      obtain ⟨q, c', hq, hown, -, hxb, hxi, hrange⟩ := HLk.out.pendAt (k := k) (x := x) hx
      injection hq with hA hq1 hq2
      subst hA hq2
      have hw129 : (wrCells x).length = 129 := wrCells_length hxb
      have hall : (wrCells x).toArray.all (·.oneCell') = true := all_oneCell_toArray (wrCells_one x)
      have HR129 := Lib.hid hrange
      have HB0 := Lib.hid (Blk.new wr zeroW.toList 69)
      have HTh := Lib.hid ((Blk.new wr zeroW.toList 69).there (o := 0) (n := (wrCells x).toArray.size) (by simp [hw129, zeroW]))
      have HSz := Lib.hid (show (Try.prog.info? 69).map (·.size) = some (wrCells x).length by rw [hw129]; exact wr_size)
      have HAl := Lib.hid hall
      have HX := Lib.hid hx
      have HXb := Lib.hid hxb
      have HXi := Lib.hid hxi
      have q0 : (k : Int) < (n : Int) := by omega
      clear hx hxb hxi hrange hall hw129 hlt' hown
      go_wp2_with (first
        | (refine wpList_load_mid rfl 69 _ rfl q (k * 129) rfl (wrCells x) _ (HR129.out) Try.underlying69 rfl HSz.out ?_)
        | (refine wpList_store_mid rfl 69 _ _ rfl wr.heap.size 0 (wrCells x).toArray rfl rfl HTh.out (by rw [HSz.out]; simp) HAl.out ?_))
      have hB4 : Blk ((wr.alloc (.cells zeroW 69)).setCells wr.heap.size 0 (wrCells x)) wr.heap.size (wrCells x) := by
        have := HB0.out.sets (o := 0) (vs := wrCells x) (by simp [zeroW, wrCells_length HXb.out])
        rwa [splice_whole _ _ (by simp [zeroW, wrCells_length HXb.out])] at this
      have hO4 : Out (fun _ => False) wr ((wr.alloc (.cells zeroW 69)).setCells wr.heap.size 0 (wrCells x)) :=
        Out.setCells _ _ _ ((Out.refl _ _).alloc _) (.inr (Nat.le_refl _))
      have hL4 := HLk.out.out hO4 (fun _ _ h => h)
      have hO4w : Out own w ((wr.alloc (.cells zeroW 69)).setCells wr.heap.size 0 (wrCells x)) := HOk.out.trans' hO4 (fun _ h => h.elim)
      obtain ⟨H, hH⟩ : ∃ H, wr.heap.size = H := ⟨_, rfl⟩
      rw [hH] at hB4 hL4 hO4w ⊢
      clear hO4 HTh HB0 HR129
      generalize (wr.alloc (.cells zeroW 69)).setCells H 0 (wrCells x) = w4 at *
      obtain ⟨s, hs⟩ : ∃ s, s = surv K T k := ⟨_, rfl⟩
      have hs128 : s ≤ 128 := by rw [hs]; exact surv_le K T k
      have hvs : (cellsOf (x.b.take s)).length = s := by rw [cellsOf_length, List.length_take, HXb.out]; omega
      have HS' := Lib.hid hs
      have hL5 := (hL4.out (out_drew (fun _ => False) w4) (fun _ _ h => h)).restored (k := x.i) (o := x.i * 128) (b := x.b.take s ++ (st.getD x.i []).drop s) (vs := x.b.take s) HXi.out (by
          have : (st.getD x.i []).length = 128 := by
            rw [List.getD_eq_getElem?_getD, List.getElem?_eq_getElem HXi.out]
            exact hL4.good.1 _ (List.getElem_mem _)
          rw [List.length_append, List.length_take, List.length_drop, HXb.out, this]; omega) (by
          have : (x.b.take s).length = s := by rw [List.length_take, HXb.out]; omega
          rw [this]) rfl
      have HSURV := Lib.hid (surv_any k K T (by omega) hK hT w4.drew)
      rw [← hs] at HSURV
      have hsn : (s : Int) ≤ 128 := by omega
      have hin : (x.i : Int) < (st.length : Int) := by have := HXi.out; omega
      obtain ⟨b0, -, -, -⟩ := hL4.blk.four
      have e0 : w4.drew.cell? ⟨D, 0, none⟩ = some (.slice (some ⟨g, 0, none⟩) st.length st.length) := b0
      have e1 : w4.drew.cell? ⟨H, 0, none⟩ = some (.int .i64 (x.i : Int)) := hB4.cell (i := 0) rfl
      have hcopy : (Builtin.copy_ #[38, 38] 3 #[.slice (some ⟨g, x.i * 128, none⟩) 128 128, .slice (some ⟨H, 1, none⟩) s 128]).run Try.prog w4.drew = .ok (goInt s) (w4.drew.setCells g (x.i * 128) (cellsOf (x.b.take s))) := by
        have h1 := run_copy_cells (P := Try.prog) w4.drew 38 38 3 5 g (x.i * 128) 128 128 ⟨H, 1, none⟩ s 128 (cellsOf (x.b.take s)) Try.underlying38 byte_size (by rw [hvs]; exact (Nat.min_eq_left hs128).symm)
          (fun j v hv => by
            rw [Addr.add_mid]
            refine hB4.drew.cell ?_
            rw [Nat.add_comm 1 j]
            show (cellsOf x.b)[j]? = some v
            have hj := (List.getElem?_eq_some_iff.1 hv).1
            rw [hvs] at hj
            simp only [cellsOf, List.getElem?_map, List.getElem?_take, if_pos hj] at hv ⊢
            exact hv)
          (fun j hj => (hL4.rows.drew.there (o := x.i * 128) (n := s) (by
            rw [rows_length (s := 128) fun y hy => by rw [cellsOf_length]; exact hL4.good.1 y hy]
            show x.i * 128 + s ≤ st.length * 128
            have := HXi.out
            omega) j (by omega)).1)
          (fun j hj => hL4.rows.drew.frozen _) (cellsOf_one _)
        rw [hvs] at h1
        exact h1
      have HCP := Lib.hid hcopy
      have HL5 := Lib.hid hL5
      have HOw := Lib.hid hO4w
      clear hs hvs hL5 hL4 hB4 hO4w hcopy b0 hs128
      refine Gw.wp_region_phase (fun _ _ => True) (fun _ => trivial) (fun _ _ _ _ _ => trivial) (fun p W => if p = 0 then W = w4.drew else W = w4.drew.setCells g (x.i * 128) (cellsOf (x.b.take s))) (setG D g H x.i k s st.length K T) [14] [18, 19, 20, 21, 22, 23, 24, 25, 26, 27, 28, 29, 30, 31, 32] [([0], none, [0], false), ([18], none, [0], false), ([19], none, [0], false), ([20], none, [0], false), ([7], none, [0], false), ([22], none, [0], false), ([21, 23], none, [0], false), ([24], none, [0], false), ([7], none, [0], false), ([6], none, [0], false), ([1], none, [0], false), ([2], none, [0], false), ([27, 28, 29], none, [0], false), ([26, 30], none, [0], false), ([25, 31], none, [0], true)] 37 1 (by kernel_rfl) (by kernel_rfl) rfl trivial (by simp) ?h0 ?hreq ?hend
      case h0 =>
        intro t W hnd _
        unfold setG
        split <;> first | rfl | trivial | exact absurd (by simp) hnd
      case hreq =>
        refine ⟨⟨?_, trivial⟩, ⟨?_, trivial⟩, ⟨?_, trivial⟩, ⟨?_, trivial⟩, ⟨?_, trivial⟩, ⟨?_, trivial⟩, ⟨?_, trivial⟩, ⟨?_, trivial⟩, ⟨?_, trivial⟩, ⟨?_, trivial⟩, ⟨?_, trivial⟩, ⟨?_, trivial⟩, ⟨?_, trivial⟩, ⟨?_, trivial⟩, ⟨?_, trivial⟩, trivial⟩
        all_goals
          intro ac W _ hI hk
          rw [if_pos rfl] at hI
          subst hI
          simp only [Gw.Knows, setG] at hk
          try (simp [go_sem, Gw.POpReq, Gw.OkP, Gw.PPost, Gw.HoldsR, setG, hk, e0, e1, hin, hsn]; done)
        · simp [go_sem, Gw.POpReq, Gw.OkP, Gw.PPost, Gw.HoldsR, setG, hk]
          refine HSURV.out.mono ?_
          rintro e w' ⟨rfl, rfl⟩
          exact ⟨rfl, rfl⟩
        · simp [go_sem, Gw.POpReq, Gw.OkP, Gw.PPost, Gw.HoldsR, setG, hk, HCP.out]
      case hend =>
        intro x' w' _ hI hx
        rw [if_neg (by simp)] at hI
        subst hI
        clear hx
        simp only [Gw.putAll, Act.put, List.setIfInBounds_toArray, List.set_cons_zero, List.set_cons_succ]
        go_wp2
        go_roundw
        case rel =>
          refine ⟨k + 1, by omega, by go_num, st.set x.i (x.b.take s ++ (st.getD x.i []).drop s), ?_, Lib.hid HL5.out.1, Lib.hid (HOw.out.trans ((out_drew _ _).trans HL5.out.2))⟩
          refine Lib.hid ?_
          obtain ⟨hkl, hxx⟩ := List.getElem?_eq_some_iff.1 HX.out
          rw [← HS.out, HS'.out, List.drop_eq_getElem_cons hkl, hxx]
          rfl
        case measure => simp [intOf]; omega
    · have hkn : k = n := by omega
      have HE := Lib.hid (show st = R by rw [← HS.out, hkn, HN.out, List.drop_length]; rfl)
      obtain ⟨c0', c1', c2', c3'⟩ := HLk.out.blk.four
      obtain ⟨f0', f1', f2', f3'⟩ := HLk.out.blk.four_free
      go_wp2
      go_end0
      have hl := HLk.out
      have hout : Out (fun j => j = D) wr (wr.setCell ⟨D, 1, none⟩ (.slice none 0 0)) := (Out.refl (fun j => j = D) _).setCell (p := ⟨D, 1, none⟩) (.inl rfl) _
      refine ⟨rfl, fun j => j = D ∨ j = g, ⟨g, .slice none 0 0, ?_⟩, HOk.out.trans (hout.more fun j _ e => by rw [e]; exact (hl.own _).2 (.inl rfl)), fun j hj => .inl ((hl.own _).2 (hj.elim .inl fun h => .inr (.inl h)))⟩
      have e := HE.out
      subst e
      refine ⟨hl.blk.set 1 _, (hl.setOther 1 _).1, World.ownsRow_nil _ _ _ _, hl.dg, by simp [Value.ownBlock], by simp [Value.ownBlock], hl.ld, hl.lg, fun j => by simp [Value.ownBlock], ⟨hl.good.1, fun y hy => (by cases hy), hl.good.2.2⟩⟩
end Go.Proofs.Ytpdhnkmihlgdjaa
