/- The document's disk is synced. -/
import Derived.Test.YtpdhnkmihlgdjaaDRefW
namespace Go.Proofs.Ytpdhnkmihlgdjaa
open Go.RowKit Me Rw Ds

/-- A sync of the document's. -/
def syncM (m : RefM) : RefM × Int :=
  if m.off then (m, 6)
  else if (deedR m.off m.fuse).2.2 = 0 then ({ m with off := (deedR m.off m.fuse).1, fuse := (deedR m.off m.fuse).2.1, made := syncR m.wait m.made, wait := [] }, 0)
  else ({ m with off := (deedR m.off m.fuse).1, fuse := (deedR m.off m.fuse).2.1 }, (deedR m.off m.fuse).2.2)
/-- What a loop over the pending writes knows: the box of the disk, the answer's block, what is made. -/
structure MadeAt (w0 wr : World) (H : Nat) (own : Nat → Prop) (c0 c1 c2 c4 : Value) (made : List WD) (nm k : Nat) : Prop where
  box : ∃ A n c, Blk wr H [c0, c1, c2, .slice A n c, c4] ∧ made.length = n ∧ n ≤ nm + k ∧ n ≤ c ∧ Cy wr own A made
  res : Blk wr (H + 1) [.int .i64 0, .bool false, .int .i64 0, .slice none 0 0, .slice none 0 0]
  below : Below H w0 wr
/-- What is known of each slot of the region that puts one more. -/
def synG (H : Nat) (own : Nat → Prop) (c0 c1 c2 : Value) (A : Option Addr) (n c : Nat) (Aw : Option Addr) (nw cw k g : Nat) (made : List WD) (x : WD) : Gw.Fact := fun t v w =>
  match t with
  | 1 => v = .pointer (some ⟨H, 0, none⟩)
  | 24 => v = .agg #[c0, c1, c2, .slice A n c, .slice Aw nw cw]
  | 25 => v = .pointer (some ⟨H, 4, none⟩)
  | 26 => v = .slice Aw nw cw
  | 5 | 27 => v = .int .i64 (k : Int)
  | 28 => v = .pointer (some ⟨g, k * 2, none⟩)
  | 29 => v = .agg #[.int .i64 (x.i : Int), sv x.b]
  | 30 => ∃ A2 n2 c2', v = .agg #[c0, c1, c2, .slice A2 n2 c2', .slice Aw nw cw] ∧ (put made x).length = n2 ∧ n2 ≤ n + 1 ∧ n2 ≤ c2' ∧ Cy w own A2 (put made x)
  | _ => True
theorem hCyEnd {w : World} {H : Nat} {own own' : Nat → Prop} {A : Option Addr} {l : List WD} (h : Cy w own' A l) (ho : ∀ k, own' k ↔ (own k ∨ k = H ∨ k = H + 1)) (v : Value) : Cy (w.setCell ⟨H, 4, none⟩ v) own' A l :=
  h.out ((Out.refl own' w).setCell (p := ⟨H, 4, none⟩) (.inl ((ho H).2 (.inr (.inl rfl)))) v)
theorem synG_30 {H : Nat} {own : Nat → Prop} {c0 c1 c2 : Value} {A : Option Addr} {n c : Nat} {Aw : Option Addr} {nw cw k g : Nat} {made : List WD} {x : WD} {v : Value} {w : World} (h : Gw.Holds (synG H own c0 c1 c2 A n c Aw nw cw k g made x) 30 v w) :
    ∃ A2 n2 c2', v = .agg #[c0, c1, c2, .slice A2 n2 c2', .slice Aw nw cw] ∧ (put made x).length = n2 ∧ n2 ≤ n + 1 ∧ n2 ≤ c2' ∧ Cy w own A2 (put made x) := h.now
set_option maxRecDepth 100000 in
set_option maxHeartbeats 2000000 in
theorem rsync_any {own : Nat → Prop} {w : World} {m : RefM} {Am Aw : Option Addr} {nm cm nw cw : Nat} (h : RefAt w own m Am cm Aw cw) (hm : m.made.length = nm) (hw : m.wait.length = nw) (hnm : nm + nw ≤ 536870912) (hfu : -9223372036854775808 ≤ m.fuse ∧ m.fuse ≤ 9223372036854775807) (hown : ∀ k, own k → k < w.heap.size) :
    Calls Try.prog 24 #[.agg #[.int .i64 (m.count : Int), .bool m.off, .int .i64 m.fuse, .slice Am nm cm, .slice Aw nw cw]] w fun e w' =>
      ∃ v, e = .returned (.tuple #[v, .int .i64 (syncM m).2]) ∧ RVal w' own (syncM m).1 v ∧ Below w.heap.size w w' := by
  obtain ⟨H, hH⟩ : ∃ H, w.heap.size = H := ⟨_, rfl⟩
  obtain ⟨own', ho'⟩ : ∃ own' : Nat → Prop, own' = fun k => own k ∨ k = H ∨ k = H + 1 := ⟨_, rfl⟩
  have HO' := Lib.hid (show ∀ k, own' k ↔ (own k ∨ k = H ∨ k = H + 1) from fun k => by rw [ho'])
  clear ho'
  obtain ⟨R, hR⟩ : ∃ R, R = syncM m := ⟨_, rfl⟩
  rw [← hR]
  unfold syncM at hR
  obtain ⟨mc, hmc⟩ : ∃ mc, mc = m.count := ⟨_, rfl⟩
  obtain ⟨mo, hmo⟩ : ∃ mo, mo = m.off := ⟨_, rfl⟩
  obtain ⟨mf, hmf⟩ : ∃ mf, mf = m.fuse := ⟨_, rfl⟩
  obtain ⟨W2, hW2⟩ : ∃ W2, (w.alloc (.cells #[.int .i64 (mc : Int), .bool mo, .int .i64 mf, .slice Am nm cm, .slice Aw nw cw] 30)).alloc (.cells #[.int .i64 0, .bool false, .int .i64 0, .slice none 0 0, .slice none 0 0] 30) = W2 := ⟨_, rfl⟩
  have hsz : W2.heap.size = H + 2 := by rw [← hW2, ← hH]; simp
  have hB0 : Blk W2 H [.int .i64 (mc : Int), .bool mo, .int .i64 mf, .slice Am nm cm, .slice Aw nw cw] := by
    rw [← hW2, ← hH]; exact (Blk.new w _ _).alloc _
  have hB1 : Blk W2 (H + 1) [.int .i64 0, .bool false, .int .i64 0, .slice none 0 0, .slice none 0 0] := by
    rw [← hW2, ← hH]; exact Blk.new' _ [.int .i64 0, .bool false, .int .i64 0, .slice none 0 0, .slice none 0 0] 30 (H := w.heap.size + 1) (by simp)
  have hb2 : Below w.heap.size w W2 := by
    rw [← hW2]; exact ((Below.refl _ w).alloc (Nat.le_refl _) _).alloc (by simp) _
  have HH := Lib.hid h
  have HH' := Lib.hid (h.less (own' := own') (fun k hk ho => by rcases (HO'.out k).1 ho with h1 | h1 | h1 <;> first | exact h1 | omega))
  rw [hH] at hb2 hown
  rw [← hmc, ← hmo, ← hmf]
  rw [← hmf] at hfu
  have HDE := Lib.hid (deed_any (mc : Int) mo mf Am nm cm Aw nw cw)
  have HM := Lib.hid (And.intro hm hw)
  have HOwn := Lib.hid hown
  have HF := Lib.hid (And.intro hB0 (And.intro hB1 hb2))
  obtain ⟨k0, k1, k2, k3, k4⟩ := hB0.five
  have HMM := Lib.hid (And.intro hmc (And.intro hmo hmf))
  rw [← hmo, ← hmf] at hR
  have hd0 := d_one (mc : Int) mo mf Am nm cm Aw nw cw
  clear h hm hw hB0 hB1 hb2 hown hmc hmo hmf
  cases mo with
  | true =>
    have HE := Lib.hid (hR.trans (by rw [if_pos rfl]))
    clear hR HDE
    go_enter Try.func24, Try.ntmps24
    go_wp2_with (refine wpList_store_blk rfl 30 _ _ rfl (H + 1) _ #[.int .i64 (mc : Int), .bool true, .int .i64 mf, .slice Am nm cm, .slice Aw nw cw] rfl rfl HF.out.2.1 rfl d_size hd0 ?_
                 intro w6 hb6 ho6
                 have HK6 := Lib.hid (show Blk w6 (H + 1) [.int .i64 (mc : Int), .bool true, .int .i64 mf, .slice Am nm cm, .slice Aw nw cw] from hb6)
                 have HB6 := Lib.hid (HF.out.2.2.trans (ho6.below (B := H) (fun j _ hj => by omega) (by omega)))
                 clear hb6 ho6)
    obtain ⟨r0, r1, r2, r3, r4⟩ := HK6.out.five
    refine bodyPost_ret (v := .tuple #[.agg #[.int .i64 (mc : Int), .bool true, .int .i64 mf, .slice Am nm cm, .slice Aw nw cw], .int .i64 6]) (by simp [results, Try.results24, go_sem, r0, r1, r2, r3, r4]) rfl ?_
    have hbe := HB6.out
    rw [← hH] at hbe
    rw [HE.out]
    exact ⟨_, rfl, ⟨Am, nm, cm, Aw, nw, cw, by rw [HMM.out.1, ← HMM.out.2.1, HMM.out.2.2], HM.out.1, HM.out.2, HH.out.past hbe⟩, by first | exact hbe | exact HB6.out⟩
  | false =>
    have HR := Lib.hid (hR.trans (by rw [if_neg (by simp)]))
    clear hR
    go_enter Try.func24, Try.ntmps24
    go_wp2_with fail
    obtain ⟨of', f', x', hde⟩ : ∃ of' f' x', deedR false mf = (of', f', x') := ⟨_, _, _, rfl⟩
    have HDE2 := Lib.hid (HDE.out W2 hfu)
    rw [hde] at HDE2 HR
    clear hde HDE hd0
    refine HDE2.out.mono ?_
    rintro e w4 ⟨rfl, hb4⟩
    have HK0 := Lib.hid (HF.out.1.past hb4)
    have HK1 := Lib.hid (HF.out.2.1.past hb4)
    have hs4 := hb4.size
    have HB4 := Lib.hid (HF.out.2.2.trans (hb4.mono (by omega)))
    have hd1 := d_one (mc : Int) of' f' Am nm cm Aw nw cw
    clear hb4 k0 k1 k2 k3 k4 hW2
    by_cases hx1 : x' = 0
    · subst hx1
      have HE := Lib.hid (HR.out.trans (by rw [if_pos rfl]))
      clear HR
      go_wp2_with (first
        | (refine wpList_store_blk rfl 30 _ _ rfl H _ #[.int .i64 (mc : Int), .bool of', .int .i64 f', .slice Am nm cm, .slice Aw nw cw] rfl rfl HK0.out rfl d_size hd1 ?_
           intro w5 hb5 ho5
           obtain ⟨k0, k1, k2, k3, k4⟩ := (show Blk w5 H [.int .i64 (mc : Int), .bool of', .int .i64 f', .slice Am nm cm, .slice Aw nw cw] from hb5).five
           have HJ5 := Lib.hid (show Blk w5 H [.int .i64 (mc : Int), .bool of', .int .i64 f', .slice Am nm cm, .slice Aw nw cw] from hb5)
           have HK5 := Lib.hid (HK1.out.out ho5 (by omega))
           have HB5 := Lib.hid (HB4.out.trans (ho5.below (B := H) (fun j _ hj => by omega) (by omega)))
           have hs5 := ho5.size
           clear hb5 ho5)
        | fail)
      have HMA := Lib.hid (show MadeAt w w5 H own' (.int .i64 (mc : Int)) (.bool of') (.int .i64 f') (.slice Aw nw cw) m.made nm 0 from
        ⟨⟨Am, nm, cm, HJ5.out, HM.out.1, by omega, by have := HH.out.cm; rw [HM.out.1] at this; exact this, (HH'.out.past (show Below w.heap.size w w5 by rw [hH]; exact HB5.out)).made⟩, HK5.out, HB5.out⟩)
      have HBW := Lib.hid (show ∀ wr, Below H w wr → Cy wr own' Aw m.wait from fun wr hb => (HH'.out.past (show Below w.heap.size w wr by rw [hH]; exact hb)).wait)
      clear k0 k1 k2 k3 k4
      go_loopw [21] (fun iv wr => ∃ k : Nat, k ≤ nw ∧ iv = .int .i64 k ∧ Hid (∃ made, syncR (m.wait.drop k) made = syncR m.wait m.made ∧ MadeAt w wr H own' (.int .i64 (mc : Int)) (.bool of') (.int .i64 f') (.slice Aw nw cw) made nm k)) (fun iv _ => nw - (intOf iv).toNat)
      case atStart => exact ⟨0, Nat.zero_le _, rfl, Lib.hid ⟨m.made, rfl, HMA.out⟩⟩
      case round =>
        obtain ⟨k, hk, rfl, HRr⟩ := hrel
        obtain ⟨made, hmr, ⟨A, n, c, hbx, hln, hnk, hnc, hcy⟩, hres, hbel⟩ := HRr.out
        have HBx := Lib.hid hbx
        have HLn := Lib.hid hln
        have HCy := Lib.hid hcy
        have HRs := Lib.hid hres
        have HBe := Lib.hid hbel
        have HMr := Lib.hid hmr
        have hlr1 := hbx.lt
        have hlr2 := hres.lt
        clear hbx hln hcy hres hbel hmr HMA HRr
        by_cases hlt : k < nw
        · have hlt' : k < m.wait.length := by rw [HM.out.2]; exact hlt
          obtain ⟨x, hx⟩ : ∃ x, m.wait[k]? = some x := ⟨_, List.getElem?_eq_getElem hlt'⟩
          obtain ⟨g, rfl, hg, hng, c0, c1⟩ := (HBW.out wr HBe.out).at hx
          have HG := Lib.hid (And.intro c0 c1)
          have HX := Lib.hid hx
          have q0 : (k : Int) < (nw : Int) := by omega
          clear hlt' hx c0 c1
          go_wp2_with fail
          refine wp_region_tl 7 (synG H own' (.int .i64 (mc : Int)) (.bool of') (.int .i64 f') A n c (some ⟨g, 0, none⟩) nw cw k g made x) [24, 25, 26, 27, 28, 29, 30] [([1], none), ([1], none), ([25], none), ([5], none), ([26, 27], none), ([28], none), ([24, 29], none)] 35 (by kernel_rfl) (by kernel_rfl) rfl ?h0 ?hreq rfl ?hend
          case h0 =>
            intro t W hnd _
            unfold synG
            split <;> first | rfl | trivial | exact absurd (by simp) hnd
          case hreq =>
            refine ⟨?_, ?_, ?_, ?_, ?_, ?_, ?_, trivial⟩
            all_goals
              intro ac W hg' hk'
              have hbW : Below wr.heap.size wr W := hg'
              obtain ⟨k0, k1, k2, k3, k4⟩ := (HBx.out.past hbW).five
              have y0 : W.cell? ⟨g, k * 2, none⟩ = some (.int .i64 (x.i : Int)) := (hbW.cell (p := ⟨g, k * 2, none⟩) hg).trans HG.out.1
              have y1 : W.cell? ⟨g, k * 2 + 1, none⟩ = some (sv x.b) := (hbW.cell (p := ⟨g, k * 2 + 1, none⟩) hg).trans HG.out.2
              simp only [Gw.Knows, synG] at hk'
              try (simp [go_sem, Gw.OpReq, Gw.Ok, Gw.Post, Gw.Holds, synG, Gw.Grows.refl, hk', k0, k1, k2, k3, k4, y0, y1, hlt]; done)
            · simp [go_sem, Gw.OpReq, Gw.Ok, Gw.Post, Gw.Holds, synG, Gw.Grows.refl, hk']
              refine (put_any (mc : Int) of' f' A n c (some ⟨g, 0, none⟩) nw cw made x own' W HLn.out (by omega) hnc (HCy.out.past hbW) (fun j hj => by
                have := hbW.size
                rcases (HO'.out j).1 hj with h1 | h1 | h1
                · have := HOwn.out j h1; omega
                · omega
                · omega)).mono ?_
              rintro e w7 ⟨A2, n2, c2', rfl, h1, h2, h3, h4, h5⟩
              exact ⟨_, rfl, h5, fun W2 hW2 => ⟨A2, n2, c2', rfl, h1, h2, h3, h4.past hW2⟩⟩
          case hend =>
            intro x' w6 hg' hx'
            obtain ⟨A2, n2, c2', h30, e1, e2, e3, e4⟩ := synG_30 (hx' 30 (by simp))
            have hb6 : Below wr.heap.size wr w6 := hg'
            simp only [Gw.putAll, Act.put, List.setIfInBounds_toArray, List.set_cons_zero, List.set_cons_succ]
            rw [h30]
            refine tl_store 30 _ _ rfl H _ #[.int .i64 (mc : Int), .bool of', .int .i64 f', .slice A2 n2 c2', .slice (some ⟨g, 0, none⟩) nw cw] rfl rfl (HBx.out.past hb6) rfl d_size (d_one _ _ _ _ _ _ _ _ _) ?_
            intro w7 hb7 ho7
            have HN := Lib.hid (show ∃ made', syncR (m.wait.drop (k + 1)) made' = syncR m.wait m.made ∧ MadeAt w w7 H own' (.int .i64 (mc : Int)) (.bool of') (.int .i64 f') (.slice (some ⟨g, 0, none⟩) nw cw) made' nm (k + 1) from
              ⟨put made x, by
                obtain ⟨hkl, hxx⟩ := List.getElem?_eq_some_iff.1 HX.out
                rw [← HMr.out, List.drop_eq_getElem_cons hkl, hxx]
                rfl, ⟨A2, n2, c2', hb7, e1, by omega, e3, e4.out (ho7.more fun j _ e => (HO'.out j).2 (.inr (.inl e)))⟩, (HRs.out.past hb6).out ho7 (by omega),
                HBe.out.trans ((hb6.mono (by omega)).trans (ho7.below (B := H) (fun j _ hj => by omega) (by have := hb6.size; omega)))⟩)
            clear hx' hg' hb6 hb7 ho7 e1 e2 e3 e4 h30
            refine tl_nil ?_
            simp only [Act.put]
            go_wp2
            go_roundw
            case rel => exact ⟨k + 1, by omega, by go_num, HN⟩
            case measure => simp [intOf]; omega
        · have hkn : k = nw := by omega
          subst hkn
          have hmade : made = syncR m.wait m.made := by rw [← HMr.out, List.drop_of_length_le (by rw [HM.out.2]; omega)]; rfl
          obtain ⟨wA, hwA⟩ : ∃ wA, wr.alloc (.cells #[] 71) = wA := ⟨_, rfl⟩
          have hbA : Below wr.heap.size wr wA := by rw [← hwA]; exact (Below.refl _ _).alloc (Nat.le_refl _) _
          obtain ⟨k0, k1, k2, k3, k4⟩ := (HBx.out.past hbA).five
          obtain ⟨g0, g1, g2, g3, g4⟩ := (HBx.out.past hbA).five_free
          have HKA := Lib.hid ((HRs.out.past hbA).other (p := ⟨H, 4, none⟩) (by show H ≠ H + 1; omega) (.slice (some ⟨wr.heap.size, 0, none⟩) 0 0))
          have HBA := Lib.hid ((HBe.out.trans (hbA.mono (by omega))).setCell (p := ⟨H, 4, none⟩) (Nat.le_refl H) (.slice (some ⟨wr.heap.size, 0, none⟩) 0 0))
          have HCA := Lib.hid (hCyEnd (HCy.out.past hbA) (HO'.out) (.slice (some ⟨wr.heap.size, 0, none⟩) 0 0))
          have HMD := Lib.hid hmade
          have hsA := hbA.size
          clear hbA hmade
          go_wp2_with (refine wpList_store_blk rfl 30 _ _ rfl (H + 1) _ #[.int .i64 (mc : Int), .bool of', .int .i64 f', .slice A n c, .slice (some ⟨wr.heap.size, 0, none⟩) 0 0] rfl rfl HKA.out rfl d_size (d_one (mc : Int) of' f' A n c (some ⟨wr.heap.size, 0, none⟩) 0 0) ?_
                       intro w8 hb8 ho8
                       have HK8 := Lib.hid (show Blk w8 (H + 1) [.int .i64 (mc : Int), .bool of', .int .i64 f', .slice A n c, .slice (some ⟨wr.heap.size, 0, none⟩) 0 0] from hb8)
                       have HB8 := Lib.hid (HBA.out.trans (ho8.below (B := H) (fun j _ hj => by omega) (by have := HBA.out.size; omega)))
                       have HC8 := Lib.hid (HCA.out.out (ho8.more fun j _ e => (HO'.out j).2 (.inr (.inr e))))
                       clear hb8 ho8)
          obtain ⟨r0, r1, r2, r3, r4⟩ := HK8.out.five
          refine bodyPost_ret (v := .tuple #[.agg #[.int .i64 (mc : Int), .bool of', .int .i64 f', .slice A n c, .slice (some ⟨wr.heap.size, 0, none⟩) 0 0], .int .i64 0]) (by simp [results, Try.results24, go_sem, r0, r1, r2, r3, r4]) rfl ?_
          have hbe := HB8.out
          rw [← hH] at hbe
          rw [HE.out]
          refine ⟨_, rfl, ⟨A, n, c, some ⟨wr.heap.size, 0, none⟩, 0, 0, by rw [HMM.out.1], by rw [← HMD.out]; exact HLn.out, rfl, ⟨by rw [← HMD.out]; exact HC8.out.less (fun j _ hj => (HO'.out j).2 (.inl hj)), Cy.empty, by rw [← HMD.out, HLn.out]; exact hnc, Nat.le_refl _⟩⟩, by first | exact hbe | exact HB8.out⟩
    · have d1 : (x' != 0) = true := by rw [bne_iff_ne]; exact hx1
      have HE := Lib.hid (HR.out.trans (by rw [if_neg hx1]))
      clear HR hx1
      go_wp2_with (first
        | (refine wpList_store_blk rfl 30 _ _ rfl H _ #[.int .i64 (mc : Int), .bool of', .int .i64 f', .slice Am nm cm, .slice Aw nw cw] rfl rfl HK0.out rfl d_size hd1 ?_
           intro w5 hb5 ho5
           obtain ⟨k0, k1, k2, k3, k4⟩ := (show Blk w5 H [.int .i64 (mc : Int), .bool of', .int .i64 f', .slice Am nm cm, .slice Aw nw cw] from hb5).five
           have HK5 := Lib.hid (HK1.out.out ho5 (by omega))
           have HB5 := Lib.hid (HB4.out.trans (ho5.below (B := H) (fun j _ hj => by omega) (by omega)))
           have hs5 := ho5.size
           clear hb5 ho5)
        | (refine wpList_store_blk rfl 30 _ _ rfl (H + 1) _ #[.int .i64 (mc : Int), .bool of', .int .i64 f', .slice Am nm cm, .slice Aw nw cw] rfl rfl HK5.out rfl d_size hd1 ?_
           intro w6 hb6 ho6
           have HK6 := Lib.hid (show Blk w6 (H + 1) [.int .i64 (mc : Int), .bool of', .int .i64 f', .slice Am nm cm, .slice Aw nw cw] from hb6)
           have HB6 := Lib.hid (HB5.out.trans (ho6.below (B := H) (fun j _ hj => by omega) (by omega)))
           clear hb6 ho6))
      obtain ⟨r0, r1, r2, r3, r4⟩ := HK6.out.five
      refine bodyPost_ret (v := .tuple #[.agg #[.int .i64 (mc : Int), .bool of', .int .i64 f', .slice Am nm cm, .slice Aw nw cw], .int .i64 x']) (by simp [results, Try.results24, go_sem, r0, r1, r2, r3, r4]) rfl ?_
      have hbe := HB6.out
      rw [← hH] at hbe
      rw [HE.out]
      have := HH.out.past hbe
      exact ⟨_, rfl, ⟨Am, nm, cm, Aw, nw, cw, by rw [HMM.out.1], HM.out.1, HM.out.2, ⟨this.made, this.wait, this.cm, this.cw⟩⟩, by first | exact hbe | exact HB6.out⟩
end Go.Proofs.Ytpdhnkmihlgdjaa
