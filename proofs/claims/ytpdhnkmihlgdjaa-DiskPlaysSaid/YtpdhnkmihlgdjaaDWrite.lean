/- A block is written to a disk: a pending write more. -/
import Derived.Test.YtpdhnkmihlgdjaaSpoil
import Derived.Test.YtpdhnkmihlgdjaaOps
namespace Go.Proofs.Ytpdhnkmihlgdjaa
open Go.RowKit Me Rw Ds

theorem write_info : (Try.prog.info? 69).map (fun i => (i.zero, i.size, i.bytes)) = some (some (.agg zeroW), 129, 136) := by kernel_rfl
/-- A write: the disk behind it, the error. -/
def writeD (S : Dsk) (i : Int) (l : List UInt8) : Dsk × Int :=
  if S.on then (if hasB S.stored.length i then (if l.length = 128 then (if (power S).on then ({ power S with pend := (power S).pend ++ [⟨i.toNat, l⟩] }, 0) else (power S, 6)) else (S, 3)) else (S, 9)) else (S, 6)
section
variable {w w' : World} {B D g : Nat} {Pv : Value} {S : Dsk} {own : Nat → Prop}
theorem Laid.push (h : Laid w B D g Pv S own) {x : WD} (hx : x.b.length = 128) (hi : x.i < S.stored.length) (hn : S.pend.length + 1 ≤ 1073741824) :
    ∃ v' w3, (Builtin.append_ #[54, 54] 54 #[Pv, .slice (some ⟨w.heap.size, 0, none⟩) 1 1]).run Try.prog (w.alloc (.cells (wrCells x).toArray 69)) = .ok v' w3 ∧
      w3.cell? ⟨D, 1, none⟩ = some Pv ∧ w3.frozen? ⟨D, 1, none⟩ = false ∧ (∃ A n c, v' = .slice A n c) ∧
      ∃ own', Laid (w3.setCell ⟨D, 1, none⟩ v') B D g v' { S with pend := S.pend ++ [x] } own' ∧ Out own w (w3.setCell ⟨D, 1, none⟩ v') ∧ ∀ k, own' k → own k ∨ w.heap.size ≤ k := by
  obtain ⟨i0, hi0, hz0, hz1, hz2⟩ := info_parts write_info
  have hA := h.out (T := fun _ => False) (w' := w.alloc (.cells (wrCells x).toArray 69)) ((Out.refl _ _).alloc _) (fun _ _ h => h)
  have hsz : (w.alloc (.cells (wrCells x).toArray 69)).heap.size = w.heap.size + 1 := by simp
  have hnew := Blk.new w (wrCells x) 69
  have hDlt := h.blk.lt
  obtain ⟨v', w3, hrun, hown, hg, -, hat⟩ := run_append_own_at (P := Try.prog) (w.alloc (.cells (wrCells x).toArray 69)) B 54 54 69 i0 _ 129 136 Try.underlying54 hi0 hz0 hz1 hz2 (by simp [Value.cells, zeroW]) (by omega) Pv S.pend.length _ hA.pend ⟨w.heap.size, 0, none⟩ 1 1 (wrCells x)
    (by rw [wrCells_length hx]) (fun j u hu => by rw [Addr.add_mid, Nat.zero_add]; exact hnew.cell hu) (wrCells_one x) (by unfold maxLen; omega) (by omega) (by have := h.ld; omega)
  have hb3 := hA.blk.grown hg h.pd
  have hr3 := hA.rows.grown hg h.pg
  have hvD : v'.ownBlock ≠ some D := by
    rcases hat with e | e
    · rw [e]; exact h.pd
    · rw [e, hsz]; intro e; injection e with e; omega
  have hvg : v'.ownBlock ≠ some g := by
    have := h.rows.lt
    rcases hat with e | e
    · rw [e]; exact h.pg
    · rw [e, hsz]; intro e; injection e with e; omega
  have hD : own D := (h.own _).2 (.inl rfl)
  have hout : Out own w w3 := ((Out.refl own w).alloc _).grown hg (fun k hk => .inl ((h.own _).2 (.inr (.inr hk))))
  have hset : Out (fun k => k = D) w3 (w3.setCell ⟨D, 1, none⟩ v') := (Out.refl (fun k => k = D) w3).setCell (p := ⟨D, 1, none⟩) (.inl rfl) v'
  obtain ⟨A', c', hv', -⟩ := own_slice' hown
  refine ⟨v', w3, hrun, hb3.cell rfl, hb3.frozen _, ⟨A', _, c', hv'⟩, fun k => k = D ∨ k = g ∨ v'.ownBlock = some k, ⟨?_, ?_, ?_, h.dg, hvD, hvg, h.ld, h.lg, fun k => Iff.rfl, ⟨h.good.1, ?_, h.good.2.2⟩⟩, hout.setCell (p := ⟨D, 1, none⟩) (.inl hD) v', ?_⟩
  · exact hb3.set 1 v'
  · exact hr3.other (p := ⟨D, 1, none⟩) h.dg v'
  · have := own_out hown hset fun k hk e => hvD (by rw [hk, e])
    rw [show (S.pend ++ [x]).length = S.pend.length + 1 by simp, rows_snoc]
    exact this
  · intro y hy
    rcases List.mem_append.1 hy with hy | hy
    · exact h.good.2.1 y hy
    · simp at hy; subst hy; exact ⟨hx, hi⟩
  · rintro k (rfl | rfl | hk)
    · exact .inl hD
    · exact .inl ((h.own _).2 (.inr (.inl rfl)))
    · rcases hat with e | e
      · exact .inl ((h.own _).2 (.inr (.inr (by rw [← e]; exact hk))))
      · rw [e, hsz] at hk; injection hk with hk; exact .inr (by omega)
/-- What is known of each slot of the region that writes. -/
def wrG (D k b o c H : Nat) (l : List UInt8) (Pv v' : Value) : Gw.Fact := fun t v _ =>
  match t with
  | 0 | 24 | 25 | 26 | 36 => v = .pointer (some ⟨D, 0, none⟩)
  | 27 | 37 => v = .pointer (some ⟨D, 1, none⟩)
  | 1 | 29 => v = .int .i64 (k : Int)
  | 2 | 30 => v = .slice (some ⟨b, o, none⟩) 128 c
  | 28 => v = Pv
  | 31 => v = .pointer (some ⟨b, o, none⟩)
  | 32 => v = .agg (cellsOf l).toArray
  | 33 => v = .agg (wrCells ⟨k, l⟩).toArray
  | 34 => v = .slice (some ⟨H, 0, none⟩) 1 1
  | 35 => v = v'
  | _ => True
set_option maxRecDepth 100000 in
set_option maxHeartbeats 1000000 in
theorem write_any (h : DiskAt w B D S own) (i : Int) (A : Option Addr) (n c : Nat) (l : List UInt8) (hl : l.length = n) (hr : Cz w own A (cellsOf l)) (hA : ∀ a, A = some a → a.spot = none) (hp : S.pend.length + 1 ≤ 1073741824) :
    Calls Try.prog 16 #[.pointer (some ⟨D, 0, none⟩), .int .i64 i, .slice A n c] w fun e w' => e = .returned (.int .i64 (writeD S i l).2) ∧ DPost w B D (writeD S i l).1 own w' := by
  have HON := Lib.hid (on_any h)
  have HHAS := Lib.hid (has_any h i)
  have HPW := Lib.hid (powered_any h)
  have HD := Lib.hid h
  obtain ⟨R, hR⟩ : ∃ R, R = writeD S i l := ⟨_, rfl⟩
  rw [← hR]
  have HL := Lib.hid hl
  have HRd := Lib.hid hr
  clear hr h
  cases ho : S.on with
  | false =>
    rw [ho] at HON
    have HE := Lib.hid (show R = (S, 6) by rw [hR]; unfold writeD; rw [ho]; rfl)
    clear hR ho hl
    go_enter Try.func16, Try.ntmps16
    go_wp2_with (go_at_call 11; refine HON.out.mono ?_; rintro e w' ⟨rfl, rfl⟩)
    go_ret
    rw [HE.out]
    exact ⟨rfl, .same HD.out (Out.refl _ _)⟩
  | true =>
  rw [ho] at HON
  cases hi : hasB S.stored.length i with
  | false =>
    rw [hi] at HHAS
    have HE := Lib.hid (show R = (S, 9) by rw [hR]; unfold writeD; rw [ho, hi]; rfl)
    clear hR ho hl hi
    go_enter Try.func16, Try.ntmps16
    go_wp2_with (first
      | (go_at_call 11; refine HON.out.mono ?_; rintro e w' ⟨rfl, rfl⟩)
      | (go_at_call 27; refine HHAS.out.mono ?_; rintro e w' ⟨rfl, rfl⟩))
    go_ret
    rw [HE.out]
    exact ⟨rfl, .same HD.out (Out.refl _ _)⟩
  | true =>
  rw [hi] at HHAS
  by_cases h128 : n = 128
  · subst h128
    obtain ⟨P, hP⟩ : ∃ P, P = power S := ⟨_, rfl⟩
    rw [← hP] at HPW
    cases hq : P.on with
    | false =>
      rw [hq] at HPW
      have HE := Lib.hid (show R = (P, 6) by rw [hR]; unfold writeD; rw [ho, hi, hl, ← hP, hq]; rfl)
      clear hR ho hl hi hP hq
      go_enter Try.func16, Try.ntmps16
      go_wp2_with (first
        | (go_at_call 11; refine HON.out.mono ?_; rintro e w' ⟨rfl, rfl⟩)
        | (go_at_call 27; refine HHAS.out.mono ?_; rintro e w' ⟨rfl, rfl⟩)
        | (go_at_call 31; refine HPW.out.mono ?_; rintro e w1 ⟨rfl, hd⟩; have HD1 := Lib.hid hd; clear hd))
      go_ret
      rw [HE.out]
      exact ⟨rfl, HD1.out⟩
    | true =>
      rw [hq] at HPW
      obtain ⟨k, rfl, hk⟩ := hasB_true hi
      have HE := Lib.hid (show R = ({ P with pend := P.pend ++ [⟨k, l⟩] }, 0) by rw [hR]; unfold writeD; rw [ho, if_pos rfl, hi, if_pos rfl, hl, if_pos rfl, ← hP, if_pos hq]; rfl)
      have hPp : P.pend.length + 1 ≤ 1073741824 := by rw [hP, (power_pend S).1]; exact hp
      have hPk : k < P.stored.length := by rw [hP, (power_pend S).2]; exact hk
      have HQ := Lib.hid (And.intro hPp hPk)
      clear hR ho hi hP hq hPp hPk
      go_enter Try.func16, Try.ntmps16
      go_wp2_with (first
        | (go_at_call 11; refine HON.out.mono ?_; rintro e w' ⟨rfl, rfl⟩)
        | (go_at_call 27; refine HHAS.out.mono ?_; rintro e w' ⟨rfl, rfl⟩)
        | (go_at_call 31; refine HPW.out.mono ?_; rintro e w1 ⟨rfl, own1, ⟨g, Pv, hL1⟩, ho1, hn1⟩; have HL1 := Lib.hid hL1; have HO1 := Lib.hid (And.intro ho1 hn1); clear hL1 ho1 hn1)
        | fail)
      have hbd := HL1.out.out (T := fun _ => False) (out_drew _ _) (fun _ _ h => h)
      obtain ⟨v', w3, hrun, hc3, hf3, ⟨A3, n3, c3, hv3⟩, own', hL4, hO4, hn4⟩ := hbd.push (x := ⟨k, l⟩) hl HQ.out.2 HQ.out.1
      obtain ⟨-, b1, -, -⟩ := hbd.blk.four
      obtain ⟨-, b1', -, -⟩ := (hbd.out (T := fun _ => False) (w' := w1.drew.alloc (.cells (wrCells ⟨k, l⟩).toArray 69)) ((Out.refl _ _).alloc _) (fun _ _ h => h)).blk.four
      obtain ⟨⟨b, o, sp⟩, rfl, hbl, hbn, hbc⟩ := HRd.out (by rw [cellsOf_length, hl]; omega)
      obtain rfl : sp = none := hA _ rfl
      have hload : (loadVar 64 ⟨b, o, none⟩).run Try.prog w1.drew = .ok (.agg (cellsOf l).toArray) w1.drew :=
        run_loadVar_mid w1.drew b o 64 (cellsOf l) _ (fun j v hv => by
          have := hbc j v hv
          rw [Addr.add_mid] at this
          exact (HO1.out.1.cell (p := ⟨b, o + j, none⟩) hbl hbn).trans this) Try.underlying64 rfl (by rw [cellsOf_length, hl]; exact block_size)
      have harr : ∀ w, (Instr.arrayAt 64 (.slice (some ⟨b, o, none⟩) 128 c)).run Try.prog w = .ok (.pointer (some ⟨b, o, none⟩)) w := fun w => run_arrayAt w 64 _ 128 _ 128 c Try.underlying64 (by omega)
      have hstore : (storeVar 54 ⟨D, 1, none⟩ v').run Try.prog w3 = .ok () (w3.setCell ⟨D, 1, none⟩ v') := by
        subst hv3
        simp [go_sem, hc3, hf3]
      have hsl := run_slice_one w1.drew (wrCells ⟨k, l⟩) (wrCells_length hl)
      have hbu := built_write k l hl
      obtain ⟨wA, hwA⟩ : ∃ wA, wA = w1.drew.alloc (.cells (wrCells ⟨k, l⟩).toArray 69) := ⟨_, rfl⟩
      rw [← hwA] at b1' hsl hrun
      clear hwA
      have HLd := Lib.hid hload
      have HSt := Lib.hid hstore
      have HSl := Lib.hid hsl
      have HBu := Lib.hid hbu
      have HRun := Lib.hid hrun
      have HL4 := Lib.hid hL4
      have HO4 := Lib.hid (And.intro hO4 hn4)
      clear hload hstore hsl hbu hrun hL4 hO4 hn4 hbd hbc hbl hbn hc3 hf3 hv3 hl
      refine Gw.wp_region_phase (fun _ _ => True) (fun _ => trivial) (fun _ _ _ _ _ => trivial) (Gw.Ph [w1.drew, wA, w3, w3.setCell ⟨D, 1, none⟩ v']) (wrG D k b o c w1.heap.size l Pv v') [10, 11, 14] [24, 25, 26, 27, 28, 29, 30, 31, 32, 33, 34, 35, 36, 37] [([0], none, [0, 1, 2], false), ([0], none, [0, 1], false), ([25], none, [0, 1], false), ([26], none, [0, 1], false), ([27], none, [0, 1], false), ([1], none, [0], false), ([2], none, [0], false), ([30], none, [0], false), ([31], none, [0], false), ([29, 32], none, [0], false), ([33], none, [0], true), ([28, 34], none, [1], true), ([24], none, [2], false), ([36], none, [2], false), ([37, 35], none, [2], true)] 38 3 (by kernel_rfl) (by kernel_rfl) rfl trivial rfl ?h0 ?hreq ?hend
      case h0 =>
        intro t W hnd _
        unfold wrG
        split <;> first | rfl | trivial | exact absurd (by simp) hnd
      case hreq =>
        refine ⟨⟨?_, ?_, ?_, trivial⟩, ⟨?_, ?_, trivial⟩, ⟨?_, ?_, trivial⟩, ⟨?_, ?_, trivial⟩, ⟨?_, ?_, trivial⟩, ⟨?_, trivial⟩, ⟨?_, trivial⟩, ⟨?_, trivial⟩, ⟨?_, trivial⟩, ⟨?_, trivial⟩, ⟨?_, trivial⟩, ⟨?_, trivial⟩, ⟨?_, trivial⟩, ⟨?_, trivial⟩, ⟨?_, trivial⟩, trivial⟩
        all_goals
          intro ac W _ hI hk
          obtain rfl := Option.some.inj hI
          clear hI
          simp only [Gw.Knows, wrG] at hk
          try (simp [go_sem, Gw.POpReq, Gw.OkP, Gw.PPost, Gw.HoldsR, Gw.Ph, wrG, hk, b1, b1', harr]; done)
        · exact Gw.ok_load rfl ((Gw.eval_slot ac 31).trans hk.1) HLd.out ⟨trivial, rfl, fun _ _ => rfl⟩
        · exact Gw.ok_build rfl (by simp [Gw.eval_slot, hk]) HBu.out ⟨trivial, rfl, fun _ _ => rfl⟩
        · exact Gw.ok_buildSlice rfl (by simp [Gw.eval_slot, hk]) HSl.out ⟨trivial, rfl, fun _ _ => rfl⟩
        · exact Gw.ok_append rfl ((Gw.eval_slot ac 28).trans hk.1) ((Gw.eval_slot ac 34).trans hk.2.1) HRun.out ⟨trivial, rfl, fun _ _ => rfl⟩
        · exact Gw.ok_store rfl ((Gw.eval_slot ac 37).trans hk.1) ((Gw.eval_slot ac 35).trans hk.2.1) HSt.out ⟨trivial, rfl, trivial⟩
      case hend =>
        intro x' w' _ hI hx
        obtain rfl := Option.some.inj hI
        clear hx hI
        simp only [Gw.putAll, Act.put, List.setIfInBounds_toArray, List.set_cons_zero, List.set_cons_succ]
        go_wp2
        go_ret
        rw [HE.out]
        obtain ⟨hO4, hn4⟩ := HO4.out
        obtain ⟨ho1, hn1⟩ := HO1.out
        refine ⟨rfl, own', ⟨g, v', HL4.out⟩, ho1.trans' ((out_drew own1 _).trans hO4) hn1, fun j hj => ?_⟩
        rcases hn4 j hj with h | h
        · exact hn1 j h
        · exact .inr (Nat.le_trans ho1.size h)
  · have HE := Lib.hid (show R = (S, 3) by rw [hR]; unfold writeD; rw [ho, if_pos rfl, hi, if_pos rfl, if_neg (by omega)])
    have d1 : ((n : Int) != 128) = true := by rw [bne_iff_ne]; omega
    clear hR ho hl hi
    go_enter Try.func16, Try.ntmps16
    go_wp2_with (first
      | (go_at_call 11; refine HON.out.mono ?_; rintro e w' ⟨rfl, rfl⟩)
      | (go_at_call 27; refine HHAS.out.mono ?_; rintro e w' ⟨rfl, rfl⟩))
    go_ret
    rw [HE.out]
    exact ⟨rfl, .same HD.out (Out.refl _ _)⟩
set_option maxRecDepth 100000 in
theorem write_nil (w : World) (i : Int) (v : Value) : Calls Try.prog 16 #[.pointer none, .int .i64 i, v] w fun e w' => e = .returned (.int .i64 6) ∧ w = w' := by
  go_enter Try.func16, Try.ntmps16
  go_wp2_with (go_at_call 11; refine (on_nil _).mono ?_; rintro e w' ⟨rfl, rfl⟩)
  go_ret
  exact ⟨rfl, rfl⟩
end
end Go.Proofs.Ytpdhnkmihlgdjaa
