/- The document's disk is written. -/
import Derived.Test.YtpdhnkmihlgdjaaDRefQ
import Derived.Test.YtpdhnkmihlgdjaaAppRow
import Derived.Test.YtpdhnkmihlgdjaaStore
namespace Go.Proofs.Ytpdhnkmihlgdjaa
open Go.RowKit Me Rw Ds

/-- The document's disk as a value. -/
def RVal (w : World) (own : Nat → Prop) (m : RefM) (v : Value) : Prop :=
  ∃ Am nm cm Aw nw cw, v = .agg #[.int .i64 (m.count : Int), .bool m.off, .int .i64 m.fuse, .slice Am nm cm, .slice Aw nw cw] ∧ m.made.length = nm ∧ m.wait.length = nw ∧ RefAt w own m Am cm Aw cw
theorem RVal.out {w w' : World} {own : Nat → Prop} {m : RefM} {v : Value} (h : RVal w own m v) (ho : Out own w w') : RVal w' own m v := by
  obtain ⟨Am, nm, cm, Aw, nw, cw, h1, h2, h3, h4⟩ := h
  exact ⟨Am, nm, cm, Aw, nw, cw, h1, h2, h3, h4.out ho⟩
theorem RVal.past {w w' : World} {own : Nat → Prop} {m : RefM} {v : Value} (h : RVal w own m v) (hb : Below w.heap.size w w') : RVal w' own m v := h.out (.of_below hb)
theorem RVal.less {w : World} {own own' : Nat → Prop} {m : RefM} {v : Value} (h : RVal w own m v) (hs : ∀ k, k < w.heap.size → own' k → own k) : RVal w own' m v := by
  obtain ⟨Am, nm, cm, Aw, nw, cw, h1, h2, h3, h4⟩ := h
  exact ⟨Am, nm, cm, Aw, nw, cw, h1, h2, h3, h4.less hs⟩
theorem d_size : (Try.prog.info? 30).map (·.size) = some 5 := by kernel_rfl
theorem d_one (n : Int) (o : Bool) (f : Int) (A : Option Addr) (a b : Nat) (A' : Option Addr) (a' b' : Nat) : (#[.int .i64 n, .bool o, .int .i64 f, .slice A a b, .slice A' a' b'] : Array Value).all (·.oneCell') = true := by simp [Value.oneCell']
/-- A write of the document's: the disk behind it, the error. -/
def writeR (m : RefM) (i : Int) (l : List UInt8) : RefM × Int :=
  if readER m i = 0 then
    if l.length = 128 then
      if (deedR m.off m.fuse).2.2 = 0 then ({ m with off := (deedR m.off m.fuse).1, fuse := (deedR m.off m.fuse).2.1, wait := m.wait ++ [⟨i.toNat, l⟩] }, 0)
      else ({ m with off := (deedR m.off m.fuse).1, fuse := (deedR m.off m.fuse).2.1 }, (deedR m.off m.fuse).2.2)
    else (m, 3)
  else (m, readER m i)
theorem out_set5 (w : World) (b : Nat) (v0 v1 v2 v3 v4 : Value) : Out (fun k => k = b) w (((((w.setCell ⟨b, 0, none⟩ v0).setCell ⟨b, 1, none⟩ v1).setCell ⟨b, 2, none⟩ v2).setCell ⟨b, 3, none⟩ v3).setCell ⟨b, 4, none⟩ v4) :=
  (((((Out.refl (fun k => k = b) w).setCell (p := ⟨b, 0, none⟩) (.inl rfl) _).setCell (p := ⟨b, 1, none⟩) (.inl rfl) _).setCell (p := ⟨b, 2, none⟩) (.inl rfl) _).setCell (p := ⟨b, 3, none⟩) (.inl rfl) _).setCell (p := ⟨b, 4, none⟩) (.inl rfl) _
theorem own_lit (w : World) {e : TypeId} : (w.alloc (.cells #[] e)).ownsRow w.heap.size e 2 (.slice (some ⟨w.heap.size, 0, none⟩) 0 0) 0 [] :=
  World.ownsRow_lit (base := w.heap.size) (size := 2) (e := e) w #[] 0 (Nat.le_refl _) (by unfold maxLen; omega) rfl
theorem cy_src {w : World} {own : Nat → Prop} {A : Option Addr} {l : List WD} (h : Cy w own A l) : 0 < (Rw.rows wCells l).length → ∃ a, A = some a ∧ ∀ j u, (Rw.rows wCells l)[j]? = some u → w.cell? (a.add j) = some u := fun hn => by
  rw [wRows_length] at hn
  obtain ⟨g, e, -, -, hc⟩ := h (by omega)
  exact ⟨_, e, fun j u hu => by rw [Addr.add_mid, Nat.zero_add]; exact hc j u hu⟩
theorem below_row {w w' : World} {o : Obj} {base n size : Nat} {e : TypeId} {v : Value} {xs : List Value} (h : (w.alloc o).ownsRow base e size v n xs) (hB : w.heap.size ≤ base) (hg : (w.alloc o).grownBy w' v.ownBlock) : Below w.heap.size w w' :=
  ((Below.refl _ w).alloc (Nat.le_refl _) o).grown hg (by simp) (fun k hk => Nat.le_trans hB (h.lt k hk).1)
theorem readER_zero {m : RefM} {i : Int} (h : readER m i = 0) : ∃ k : Nat, i = (k : Int) ∧ k < m.count := by
  unfold readER at h
  split at h
  · omega
  · split at h
    · rename_i hb
      exact hasB_true hb
    · omega
/-- A row copied, and one more behind it. -/
theorem wait_append {w5 : World} {own : Nat → Prop} {Aw : Option Addr} {nw cw : Nat} {l : List WD} {x : WD} (hl : l.length = nw) (hn : nw ≤ 1073741824) (h : Cy w5 own Aw l) :
    ∃ v6 w6 A7 c7 w7, (Builtin.append_ #[28, 28] 28 #[.slice (some ⟨w5.heap.size, 0, none⟩) 0 0, .slice Aw nw cw]).run Try.prog (w5.alloc (.cells #[] 71)) = .ok v6 w6 ∧
      (Builtin.append_ #[28, 28] 28 #[v6, .slice (some ⟨w6.heap.size, 0, none⟩) 1 1]).run Try.prog (w6.alloc (.cells #[.int .i64 (x.i : Int), sv x.b] 71)) = .ok (.slice A7 (nw + 1) c7) w7 ∧ nw + 1 ≤ c7 ∧
      w7.ownsRow w5.heap.size 71 2 (.slice A7 (nw + 1) c7) (nw + 1) (Rw.rows wCells (l ++ [x])) ∧ Below w5.heap.size w5 w6 ∧ Below w5.heap.size w5 w7 := by
  obtain ⟨i0, hi0, hz0, hz1, hz2⟩ := info_parts w_info
  have hE := own_lit w5 (e := 71)
  obtain ⟨v6, w6, hr6, ho6, hg6, -⟩ := run_append_row (P := Try.prog) (w5.alloc (.cells #[] 71)) w5.heap.size 28 28 71 i0 _ 2 24 Try.underlying28 hi0 hz0 hz1 hz2 rfl (by decide) (.slice (some ⟨w5.heap.size, 0, none⟩) 0 0) 0 [] hE Aw nw cw (Rw.rows wCells l)
    (by rw [wRows_length, hl]) (cy_src (h.past ((Below.refl _ _).alloc (Nat.le_refl _) _))) (wRows_one l) (by unfold maxLen; omega) (by omega) (by simp)
  have hb6 := below_row hE (Nat.le_refl _) hg6
  rw [Nat.zero_add, List.nil_append] at ho6
  obtain ⟨v7, w7, hr7, ho7, hg7, -⟩ := run_append_row (P := Try.prog) (w6.alloc (.cells #[.int .i64 (x.i : Int), sv x.b] 71)) w5.heap.size 28 28 71 i0 _ 2 24 Try.underlying28 hi0 hz0 hz1 hz2 rfl (by decide) v6 nw _ (ho6.alloc _) (some ⟨w6.heap.size, 0, none⟩) 1 1 (wCells x)
    rfl (fun _ => ⟨_, rfl, two_lit rfl⟩) (wCells_one x) (by unfold maxLen; omega) (by omega) (by simp; have := hb6.size; omega)
  obtain ⟨A7, c7, rfl, hc7⟩ := own_slice' ho7
  rw [← rows_snoc] at ho7
  exact ⟨v6, w6, A7, c7, w7, hr6, hr7, hc7, ho7, hb6, hb6.trans (((Below.refl _ w6).alloc hb6.size _).grown hg7 (by simp; have := hb6.size; omega) (fun k hk => (ho6.lt k hk).1))⟩
set_option maxRecDepth 100000 in
set_option maxHeartbeats 2000000 in
theorem rwrite_any {own : Nat → Prop} {w : World} {m : RefM} {Am Aw : Option Addr} {nm cm nw cw : Nat} (h : RefAt w own m Am cm Aw cw) (hm : m.made.length = nm) (hw : m.wait.length = nw) (hnm : nm ≤ 1073741824) (hnw : nw ≤ 1073741824) (hfu : -9223372036854775808 ≤ m.fuse ∧ m.fuse ≤ 9223372036854775807) (hown : ∀ k, own k → k < w.heap.size) (i : Int) (l : List UInt8) :
    Calls Try.prog 23 #[.agg #[.int .i64 (m.count : Int), .bool m.off, .int .i64 m.fuse, .slice Am nm cm, .slice Aw nw cw], .int .i64 i, sv l] w fun e w' =>
      ∃ v, e = .returned (.tuple #[v, .int .i64 (writeR m i l).2]) ∧ RVal w' own (writeR m i l).1 v ∧ Below w.heap.size w w' := by
  obtain ⟨i0, hi0, hz0, hz1, hz2⟩ := info_parts w_info
  obtain ⟨H, hH⟩ : ∃ H, w.heap.size = H := ⟨_, rfl⟩
  obtain ⟨R, hR⟩ : ∃ R, R = writeR m i l := ⟨_, rfl⟩
  rw [← hR]
  unfold writeR at hR
  obtain ⟨mc, hmc⟩ : ∃ mc, mc = m.count := ⟨_, rfl⟩
  obtain ⟨mo, hmo⟩ : ∃ mo, mo = m.off := ⟨_, rfl⟩
  obtain ⟨mf, hmf⟩ : ∃ mf, mf = m.fuse := ⟨_, rfl⟩
  obtain ⟨W2, hW2⟩ : ∃ W2, (w.alloc (.cells #[.int .i64 (mc : Int), .bool mo, .int .i64 mf, .slice Am nm cm, .slice Aw nw cw] 30)).alloc (.cells #[.int .i64 0, .bool false, .int .i64 0, .slice none 0 0, .slice none 0 0] 30) = W2 := ⟨_, rfl⟩
  have hsz : W2.heap.size = H + 2 := by rw [← hW2, ← hH]; simp
  have hB0 : Blk W2 H [.int .i64 (mc : Int), .bool mo, .int .i64 mf, .slice Am nm cm, .slice Aw nw cw] := by
    rw [← hW2, ← hH]; exact (Blk.new w _ _).alloc _
  have hB1 : Blk W2 (H + 1) [.int .i64 0, .bool false, .int .i64 0, .slice none 0 0, .slice none 0 0] := by
    rw [← hW2, ← hH]; exact Blk.new' _ [.int .i64 0, .bool false, .int .i64 0, .slice none 0 0, .slice none 0 0] 30 (H := w.heap.size + 1) (by simp)
  have hb2 : Below w.heap.size w W2 := by
    rw [← hW2]; exact ((Below.refl _ w).alloc (Nat.le_refl _) _).alloc (by simp) _
  have hA := h.past hb2
  have HRd := rread_any hA hm hw (by omega) (by omega) i
  rw [hH] at hb2 hown
  rw [← hmc, ← hmo, ← hmf] at HRd ⊢
  rw [← hmf] at hfu
  have HRD := Lib.hid HRd
  have HDE := Lib.hid (deed_any (mc : Int) mo mf Am nm cm Aw nw cw)
  have HA := Lib.hid hA
  have HM := Lib.hid (And.intro hm hw)
  have HOwn := Lib.hid hown
  have HH := Lib.hid h
  have el : ∀ w, (Builtin.len_ #[9] 3 #[sv l]).run Try.prog w = .ok (.int .i64 (l.length : Int)) w := fun w => by simp [sv, go_sem]
  have HF := Lib.hid (And.intro hB0 (And.intro hB1 hb2))
  obtain ⟨k0, k1, k2, k3, k4⟩ := hB0.five
  have HMM := Lib.hid (And.intro hmc (And.intro hmo hmf))
  rw [← hmo, ← hmf] at hR
  obtain ⟨rx, hrx⟩ : ∃ rx, rx = readER m i := ⟨_, rfl⟩
  rw [← hrx] at hR HRD
  have hnat : rx = 0 → ∃ k : Nat, i = (k : Int) ∧ k < m.count := fun e => readER_zero (hrx.symm.trans e)
  have HNat := Lib.hid hnat
  clear hnat
  generalize readR m i = rr at *
  generalize readER m i = rxx at *
  clear h hm hw hA HRd hB0 hB1 hb2 hown hmc hmo hmf hrx
  go_enter Try.func23, Try.ntmps23
  go_wp2_with fail
  clear hW2 k0 k1 k2 k3 k4
  refine HRD.out.mono ?_
  rintro e w3 ⟨rfl, hb3⟩
  have hb3' := HF.out.2.2.trans (hb3.mono (by omega))
  have B0 := HF.out.1.past hb3
  have B1 := HF.out.2.1.past hb3
  obtain ⟨k0, k1, k2, k3, k4⟩ := B0.five
  obtain ⟨r0, r1, r2, r3, r4⟩ := B1.five
  obtain ⟨s0, s1, s2, s3, s4⟩ := B1.five_free
  have HB3 := Lib.hid (And.intro hb3' hb3)
  have HB0 := Lib.hid B0
  have HB1 := Lib.hid B1
  have HR := Lib.hid hR
  have hs3 : H + 2 ≤ w3.heap.size := by have := hb3.size; omega
  clear hb3 hb3' B0 B1 hR
  by_cases hx0 : rx = 0
  · subst hx0
    by_cases h128 : l.length = 128
    · obtain ⟨f0, f1, f2, f3, f4⟩ := HB0.out.five_free
      obtain ⟨of', f', x', hde⟩ : ∃ of' f' x', deedR mo mf = (of', f', x') := ⟨_, _, _, rfl⟩
      have HDE3 := Lib.hid (HDE.out w3 hfu)
      rw [hde] at HDE3 HR
      have HR2 := Lib.hid (HR.out.trans (by rw [if_pos rfl, if_pos h128]))
      clear hde HR HDE
      go_wp2_with fail
      refine HDE3.out.mono ?_
      rintro e w4 ⟨rfl, hb4⟩
      have B0 := HB0.out.past hb4
      have B1 := HB1.out.past hb4
      have hs4 := hb4.size
      clear k0 k1 k2 k3 k4 f0 f1 f2 f3 f4 r0 r1 r2 r3 r4 s0 s1 s2 s3 s4
      obtain ⟨k0, k1, k2, k3, k4⟩ := B0.five
      obtain ⟨f0, f1, f2, f3, f4⟩ := B0.five_free
      obtain ⟨r0, r1, r2, r3, r4⟩ := B1.five
      obtain ⟨s0, s1, s2, s3, s4⟩ := B1.five_free
      have HB4 := Lib.hid (HB3.out.1.trans (hb4.mono (by omega)))
      have HK0 := Lib.hid B0
      have HK1 := Lib.hid B1
      clear hb4 B0 B1
      by_cases hx1 : x' = 0
      · subst hx1
        have HE := Lib.hid (HR2.out.trans (by rw [if_pos rfl]))
        obtain ⟨k, rfl, hkc⟩ := HNat.out (by simp)
        rw [Int.toNat_natCast] at HE
        have hd1 := d_one (mc : Int) of' f' Am nm cm Aw nw cw
        have q1 : nw + 1 ≤ maxLen := by unfold maxLen; omega
        have q2 : (nw + 1) * 24 ≤ 140737488355328 := by omega
        have q3 : 0 + nw ≤ maxLen := by unfold maxLen; omega
        have q4 : (0 + nw) * 24 ≤ 140737488355328 := by omega
        clear HR2 HNat k0 k1 k2 k3 k4 f0 f1 f2 f3 f4 r0 r1 r2 r3 r4 s0 s1 s2 s3 s4
        go_wp2_with (first
          | (refine wpList_store_blk rfl 30 _ _ rfl H _ #[.int .i64 (mc : Int), .bool of', .int .i64 f', .slice Am nm cm, .slice Aw nw cw] rfl rfl HK0.out rfl d_size hd1 ?_
             intro w5 hb5 ho5
             have HJ5 := Lib.hid (show Blk w5 H [.int .i64 (mc : Int), .bool of', .int .i64 f', .slice Am nm cm, .slice Aw nw cw] from hb5)
             have HK5 := Lib.hid (HK1.out.out ho5 (by omega))
             have HB5 := Lib.hid (HB4.out.trans (ho5.below (B := H) (fun j _ hj => by omega) (by omega)))
             have hs5 := ho5.size
             have HE5 := Lib.hid (own_lit w5 (e := 71))
             obtain ⟨-, -, -, -, j4⟩ := (HJ5.out.alloc (.cells #[] 71)).five
             obtain ⟨v6, w6, A7, c7, w7, hrun6, hrun7, hc7, hown7, hb56, hb57⟩ := wait_append (cw := cw) (x := ⟨k, l⟩) (HM.out.2) (by omega) ((HH.out.past (show Below w.heap.size w w5 by rw [hH]; exact HB5.out)).wait)
             obtain ⟨k0, k1, k2, k3, k4⟩ := (HJ5.out.past hb57).five
             obtain ⟨g0, g1, g2, g3, g4⟩ := (HJ5.out.past hb57).five_free
             have HK7 := Lib.hid ((HK5.out.past hb57).other (p := ⟨H, 4, none⟩) (by show H ≠ H + 1; omega) (.slice A7 (nw + 1) c7))
             have HB7 := Lib.hid ((HB5.out.trans (hb57.mono (by omega))).setCell (p := ⟨H, 4, none⟩) (Nat.le_refl H) (.slice A7 (nw + 1) c7))
             have HO7 := Lib.hid (And.intro hc7 (And.intro hown7 hb57))
             have HR6 := Lib.hid hrun6
             have HR7 := Lib.hid hrun7
             have hs7 := hb57.size
             clear hc7 hown7 hb56 hb57 hrun6 hrun7
             clear hb5 ho5)
          | (at_builtin
             refine wpList_append_run rfl _ _ 28 rfl _ _ _ rfl rfl HR6.out ?_)
          | (at_builtin
             refine wpList_append_run rfl _ _ 28 rfl _ _ _ rfl rfl HR7.out ?_)
          | (refine wpList_store_blk rfl 30 _ _ rfl (H + 1) _ #[.int .i64 (mc : Int), .bool of', .int .i64 f', .slice Am nm cm, .slice A7 (nw + 1) c7] rfl rfl HK7.out rfl d_size (d_one (mc : Int) of' f' Am nm cm A7 (nw + 1) c7) ?_
             intro w8 hb8 ho8
             have HK8 := Lib.hid (show Blk w8 (H + 1) [.int .i64 (mc : Int), .bool of', .int .i64 f', .slice Am nm cm, .slice A7 (nw + 1) c7] from hb8)
             have HB8 := Lib.hid (And.intro (HB7.out.trans (ho8.below (B := H) (fun j _ hj => by omega) (by have := HB7.out.size; omega))) ho8)
             clear hb8 ho8))
        obtain ⟨r0, r1, r2, r3, r4⟩ := HK8.out.five
        refine bodyPost_ret (v := .tuple #[.agg #[.int .i64 (mc : Int), .bool of', .int .i64 f', .slice Am nm cm, .slice A7 (nw + 1) c7], .int .i64 0]) (by simp [results, Try.results23, go_sem, r0, r1, r2, r3, r4]) rfl ?_
        obtain ⟨hbe, ho8⟩ := HB8.out
        obtain ⟨hc7, hown7, hb57⟩ := HO7.out
        rw [← hH] at hbe
        rw [HE.out]
        have := HH.out.past hbe
        refine ⟨_, rfl, ⟨Am, nm, cm, A7, nw + 1, c7, by rw [HMM.out.1], HM.out.1, by rw [List.length_append, HM.out.2]; rfl, ⟨this.made, ?_, this.cm, by rw [List.length_append, HM.out.2]; exact hc7⟩⟩, by first | exact hbe | exact HB8.out.1⟩
        refine Cy.of_own (base := w5.heap.size) (n := nw + 1) (c := c7) (e := 71) ?_ (fun j hj ho => by have := HOwn.out j ho; omega)
        have h8 : Out (fun k => k = H ∨ k = H + 1) w7 w8 := ((Out.refl (fun k => k = H ∨ k = H + 1) w7).setCell (p := ⟨H, 4, none⟩) (.inl (.inl rfl)) (.slice A7 (nw + 1) c7)).trans' ho8 (fun j hj => .inl (.inr hj))
        exact own_out hown7 h8 (fun j hj e => by have := (hown7.lt j hj).1; omega)
      · have d1 : (x' != 0) = true := by rw [bne_iff_ne]; exact hx1
        have HE := Lib.hid (HR2.out.trans (by rw [if_neg hx1]))
        have hd1 := d_one (mc : Int) of' f' Am nm cm Aw nw cw
        clear HR2 hx1 k0 k1 k2 k3 k4 f0 f1 f2 f3 f4 r0 r1 r2 r3 r4 s0 s1 s2 s3 s4
        go_wp2_with (first
          | (refine wpList_store_blk rfl 30 _ _ rfl H _ #[.int .i64 (mc : Int), .bool of', .int .i64 f', .slice Am nm cm, .slice Aw nw cw] rfl rfl HK0.out rfl d_size hd1 ?_
             intro w5 hb5 ho5
             obtain ⟨k0, k1, k2, k3, k4⟩ := (show Blk w5 H [.int .i64 (mc : Int), .bool of', .int .i64 f', .slice Am nm cm, .slice Aw nw cw] from hb5).five
             have HK5 := Lib.hid (HK1.out.out ho5 (by omega))
             have HB5 := Lib.hid (HB4.out.trans (ho5.below (B := H) (fun j _ hj => by omega) (by omega)))
             have hs5 := ho5.size
             clear hb5 ho5)
          | (refine wpList_store_blk rfl 30 _ _ rfl (H + 1) _ #[.int .i64 (mc : Int), .bool of', .int .i64 f', .slice Am nm cm, .slice Aw nw cw] rfl rfl HK5.out rfl d_size hd1 ?_
             intro w6 hb6 ho6
             have HK6 := Lib.hid (show Blk w6 (H + 1) [.int .i64 (mc : Int), .bool of', .int .i64 f', .slice Am nm cm, .slice Aw nw cw] from hb6)
             have HB6 := Lib.hid (HB5.out.trans (ho6.below (B := H) (fun j _ hj => by omega) (by omega)))
             clear hb6 ho6))
        obtain ⟨r0, r1, r2, r3, r4⟩ := HK6.out.five
        refine bodyPost_ret (v := .tuple #[.agg #[.int .i64 (mc : Int), .bool of', .int .i64 f', .slice Am nm cm, .slice Aw nw cw], .int .i64 x']) (by simp [results, Try.results23, go_sem, r0, r1, r2, r3, r4]) rfl ?_
        have hbe := HB6.out
        rw [← hH] at hbe
        rw [HE.out]
        refine ⟨_, rfl, ⟨Am, nm, cm, Aw, nw, cw, by rw [HMM.out.1], HM.out.1, HM.out.2, ?_⟩, hbe⟩
        have := HH.out.past hbe
        exact ⟨this.made, this.wait, this.cm, this.cw⟩
    · have d1 : ((l.length : Int) != 128) = true := by rw [bne_iff_ne]; omega
      have HE := Lib.hid (HR.out.trans (by rw [if_pos rfl, if_neg h128]))
      clear HR
      have hd1 := d_one (mc : Int) mo mf Am nm cm Aw nw cw
      clear r0 r1 r2 r3 r4 s0 s1 s2 s3 s4
      go_wp2_with (refine wpList_store_blk rfl 30 _ _ rfl (H + 1) _ #[.int .i64 (mc : Int), .bool mo, .int .i64 mf, .slice Am nm cm, .slice Aw nw cw] rfl rfl HB1.out rfl d_size hd1 ?_
                   intro w6 hb6 ho6
                   have HK6 := Lib.hid (show Blk w6 (H + 1) [.int .i64 (mc : Int), .bool mo, .int .i64 mf, .slice Am nm cm, .slice Aw nw cw] from hb6)
                   have HB6 := Lib.hid (HB3.out.1.trans (ho6.below (B := H) (fun j _ hj => by omega) (by omega)))
                   clear hb6 ho6)
      obtain ⟨r0, r1, r2, r3, r4⟩ := HK6.out.five
      refine bodyPost_ret (v := .tuple #[.agg #[.int .i64 (mc : Int), .bool mo, .int .i64 mf, .slice Am nm cm, .slice Aw nw cw], .int .i64 3]) (by simp [results, Try.results23, go_sem, r0, r1, r2, r3, r4]) rfl ?_
      have hbe := HB6.out
      rw [← hH] at hbe
      rw [HE.out]
      exact ⟨_, rfl, ⟨Am, nm, cm, Aw, nw, cw, by rw [HMM.out.1, HMM.out.2.1, HMM.out.2.2], HM.out.1, HM.out.2, HH.out.past hbe⟩, hbe⟩
  · have d1 : (rx != 0) = true := by rw [bne_iff_ne]; exact hx0
    have HE := Lib.hid (HR.out.trans (by rw [if_neg hx0]))
    clear HR hx0
    have hd1 := d_one (mc : Int) mo mf Am nm cm Aw nw cw
    clear r0 r1 r2 r3 r4 s0 s1 s2 s3 s4
    go_wp2_with (refine wpList_store_blk rfl 30 _ _ rfl (H + 1) _ #[.int .i64 (mc : Int), .bool mo, .int .i64 mf, .slice Am nm cm, .slice Aw nw cw] rfl rfl HB1.out rfl d_size hd1 ?_
                 intro w6 hb6 ho6
                 have HK6 := Lib.hid (show Blk w6 (H + 1) [.int .i64 (mc : Int), .bool mo, .int .i64 mf, .slice Am nm cm, .slice Aw nw cw] from hb6)
                 have HB6 := Lib.hid (HB3.out.1.trans (ho6.below (B := H) (fun j _ hj => by omega) (by omega)))
                 clear hb6 ho6)
    obtain ⟨r0, r1, r2, r3, r4⟩ := HK6.out.five
    refine bodyPost_ret (v := .tuple #[.agg #[.int .i64 (mc : Int), .bool mo, .int .i64 mf, .slice Am nm cm, .slice Aw nw cw], .int .i64 rx]) (by simp [results, Try.results23, go_sem, r0, r1, r2, r3, r4]) rfl ?_
    have hbe := HB6.out
    rw [← hH] at hbe
    rw [HE.out]
    exact ⟨_, rfl, ⟨Am, nm, cm, Aw, nw, cw, by rw [HMM.out.1, HMM.out.2.1, HMM.out.2.2], HM.out.1, HM.out.2, HH.out.past hbe⟩, hbe⟩
end Go.Proofs.Ytpdhnkmihlgdjaa
