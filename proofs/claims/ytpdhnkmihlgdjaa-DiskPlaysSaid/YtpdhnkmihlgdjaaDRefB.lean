/- The document's disk comes back. -/
import Derived.Test.YtpdhnkmihlgdjaaDRefS
namespace Go.Proofs.Ytpdhnkmihlgdjaa
open Go.RowKit Me Rw Ds

/-- The document's disk behind a fall. -/
def backM (K T : Nat) (m : RefM) : RefM := { m with off := false, fuse := -1, made := backR K T 0 m.wait m.made, wait := [] }
/-- A write of which the first half survives. -/
def halfW (made : List WD) (x : WD) : WD := ⟨x.i, x.b.take 64 ++ (lastW made x.i zero128).drop 64⟩
theorem backR_keep {K T k : Nat} {x : WD} {l made : List WD} (h : K.testBit (k % 64) = true) : backR K T k (x :: l) made = backR K T (k + 1) l (put made x) := by
  rw [backR, if_pos h]
theorem backR_half {K T k : Nat} {x : WD} {l made : List WD} (h : K.testBit (k % 64) = false) (h2 : T.testBit (k % 64) = true) : backR K T k (x :: l) made = backR K T (k + 1) l (put made (halfW made x)) := by
  rw [backR, if_neg (by rw [h]; simp), if_pos h2]; rfl
theorem backR_none {K T k : Nat} {x : WD} {l made : List WD} (h : K.testBit (k % 64) = false) (h2 : T.testBit (k % 64) = false) : backR K T k (x :: l) made = backR K T (k + 1) l made := by
  rw [backR, if_neg (by rw [h]; simp), if_neg (by rw [h2]; simp)]
theorem ba_extract (a : Array UInt8) (i j : Nat) : (⟨a⟩ : ByteArray).extract i j = ⟨a.extract i j⟩ := ByteArray.ext (by simp [ByteArray.data_extract])
theorem ba_append (a b : Array UInt8) : (⟨a⟩ : ByteArray) ++ ⟨b⟩ = ⟨a ++ b⟩ := ByteArray.ext (by simp [ByteArray.data_append])
/-- What is known of each slot of the region that puts a half. -/
def bkG (H Hx : Nat) (own : Nat → Prop) (c0 c1 c2 : Value) (A : Option Addr) (n c : Nat) (Aw : Option Addr) (nw cw : Nat) (made : List WD) (x : WD) (gd : List UInt8) : Gw.Fact := fun t v w =>
  match t with
  | 3 => v = .pointer (some ⟨H, 0, none⟩)
  | 8 | 30 | 36 => v = .pointer (some ⟨Hx, 0, none⟩)
  | 29 | 35 => v = .agg #[c0, c1, c2, .slice A n c, .slice Aw nw cw]
  | 31 | 37 => v = .int .i64 (x.i : Int)
  | 32 => v = .pointer (some ⟨Hx, 1, none⟩)
  | 33 => v = sv x.b
  | 34 => v = sv (x.b.take 64)
  | 38 => v = sv gd
  | 39 => v = sv (gd.drop 64)
  | 40 => v = sv (x.b.take 64 ++ gd.drop 64)
  | 41 => v = .agg #[.int .i64 (x.i : Int), sv (x.b.take 64 ++ gd.drop 64)]
  | 42 => ∃ A2 n2 c2', v = .agg #[c0, c1, c2, .slice A2 n2 c2', .slice Aw nw cw] ∧ (put made ⟨x.i, x.b.take 64 ++ gd.drop 64⟩).length = n2 ∧ n2 ≤ n + 1 ∧ n2 ≤ c2' ∧ Cy w own A2 (put made ⟨x.i, x.b.take 64 ++ gd.drop 64⟩)
  | _ => True
theorem bkG_42 {H Hx : Nat} {own : Nat → Prop} {c0 c1 c2 : Value} {A : Option Addr} {n c : Nat} {Aw : Option Addr} {nw cw : Nat} {made : List WD} {x : WD} {gd : List UInt8} {v : Value} {w : World} (h : Gw.Holds (bkG H Hx own c0 c1 c2 A n c Aw nw cw made x gd) 42 v w) :
    ∃ A2 n2 c2', v = .agg #[c0, c1, c2, .slice A2 n2 c2', .slice Aw nw cw] ∧ (put made ⟨x.i, x.b.take 64 ++ gd.drop 64⟩).length = n2 ∧ n2 ≤ n + 1 ∧ n2 ≤ c2' ∧ Cy w own A2 (put made ⟨x.i, x.b.take 64 ++ gd.drop 64⟩) := h.now
set_option maxRecDepth 100000 in
set_option maxHeartbeats 2000000 in
theorem rback_any {own : Nat → Prop} {w : World} {m : RefM} {Am Aw : Option Addr} {nm cm nw cw : Nat} (h : RefAt w own m Am cm Aw cw) (hm : m.made.length = nm) (hw : m.wait.length = nw) (hnm : nm + nw ≤ 536870912) (hown : ∀ k, own k → k < w.heap.size) (hm8 : ∀ x ∈ m.made, x.b.length = 128) (hw8 : ∀ x ∈ m.wait, x.b.length = 128) (K T : Nat) (hK : K < 18446744073709551616) (hT : T < 18446744073709551616) :
    Calls Try.prog 25 #[.agg #[.int .i64 (m.count : Int), .bool m.off, .int .i64 m.fuse, .slice Am nm cm, .slice Aw nw cw], .int .u64 (K : Int), .int .u64 (T : Int)] w fun e w' =>
      ∃ v, e = .returned v ∧ RVal w' own (backM K T m) v ∧ Below w.heap.size w w' := by
  obtain ⟨H, hH⟩ : ∃ H, w.heap.size = H := ⟨_, rfl⟩
  obtain ⟨own', ho'⟩ : ∃ own' : Nat → Prop, own' = fun k => own k ∨ k = H ∨ k = H + 1 := ⟨_, rfl⟩
  have HO' := Lib.hid (show ∀ k, own' k ↔ (own k ∨ k = H ∨ k = H + 1) from fun k => by rw [ho'])
  clear ho'
  obtain ⟨mc, hmc⟩ : ∃ mc, mc = m.count := ⟨_, rfl⟩
  obtain ⟨mo, hmo⟩ : ∃ mo, mo = m.off := ⟨_, rfl⟩
  obtain ⟨mf, hmf⟩ : ∃ mf, mf = m.fuse := ⟨_, rfl⟩
  obtain ⟨W2, hW2⟩ : ∃ W2, (w.alloc (.cells #[.int .i64 (mc : Int), .bool mo, .int .i64 mf, .slice Am nm cm, .slice Aw nw cw] 30)).alloc (.cells #[.int .i64 0, .bool false, .int .i64 0, .slice none 0 0, .slice none 0 0] 30) = W2 := ⟨_, rfl⟩
  have hsz : W2.heap.size = H + 2 := by rw [← hW2, ← hH]; simp
  have hB0 : Blk W2 H [.int .i64 (mc : Int), .bool mo, .int .i64 mf, .slice Am nm cm, .slice Aw nw cw] := by
    rw [← hW2, ← hH]; exact (Blk.new w _ _).alloc _
  have hB1 : Blk W2 (H + 1) [.int .i64 0, .bool false, .int .i64 0, .slice none 0 0, .slice none 0 0] := by
    rw [← hW2, ← hH]; exact Blk.new' _ [.int .i64 0, .bool false, .int .i64 0, .slice none 0 0, .slice none 0 0] 30 (H := w.heap.size + 1) (by simp)
  have hb2 : Below w.heap.size w W2 := by
    rw [← hW2]; exact ((Below.refl _ w).alloc (Nat.le_refl _) _).alloc (by simp) _
  have HH := Lib.hid h
  have HH' := Lib.hid (h.less (own' := own') (fun k hk ho => by rcases (HO'.out k).1 ho with h1 | h1 | h1 <;> first | exact h1 | omega))
  rw [hH] at hb2 hown
  rw [← hmc, ← hmo, ← hmf]
  have HM := Lib.hid (And.intro hm hw)
  have HOwn := Lib.hid hown
  have HF := Lib.hid (And.intro hB0 (And.intro hB1 hb2))
  obtain ⟨k0, k1, k2, k3, k4⟩ := hB0.five
  have HMM := Lib.hid (And.intro hmc (And.intro hmo hmf))
  have HM8 := Lib.hid hm8
  have HW8 := Lib.hid hw8
  clear hm8 hw8
  clear h hm hw hB0 hB1 hb2 hown hmc hmo hmf
  go_enter Try.func25, Try.ntmps25
  go_wp2
  have HMA := Lib.hid (show MadeAt w W2 H own' (.int .i64 (mc : Int)) (.bool mo) (.int .i64 mf) (.slice Aw nw cw) m.made nm 0 from
    ⟨⟨Am, nm, cm, HF.out.1, HM.out.1, by omega, by have := HH.out.cm; rw [HM.out.1] at this; exact this, (HH'.out.past (show Below w.heap.size w W2 by rw [hH]; exact HF.out.2.2)).made⟩, HF.out.2.1, HF.out.2.2⟩)
  have HBW := Lib.hid (show ∀ wr, Below H w wr → Cy wr own' Aw m.wait from fun wr hb => (HH'.out.past (show Below w.heap.size w wr by rw [hH]; exact hb)).wait)
  clear k0 k1 k2 k3 k4 hW2
  go_loopw [12] (fun iv wr => ∃ k : Nat, k ≤ nw ∧ iv = .int .i64 k ∧ Hid (∃ made, backR K T k (m.wait.drop k) made = backR K T 0 m.wait m.made ∧ (∀ y ∈ made, y.b.length = 128) ∧ MadeAt w wr H own' (.int .i64 (mc : Int)) (.bool mo) (.int .i64 mf) (.slice Aw nw cw) made nm k)) (fun iv _ => nw - (intOf iv).toNat)
  case atStart => exact ⟨0, Nat.zero_le _, rfl, Lib.hid ⟨m.made, rfl, HM8.out, HMA.out⟩⟩
  case round =>
    obtain ⟨k, hk, rfl, HRr⟩ := hrel
    obtain ⟨made, hmr, hm8, ⟨A, n, c, hbx, hln, hnk, hnc, hcy⟩, hres, hbel⟩ := HRr.out
    have HBx := Lib.hid hbx
    have HLn := Lib.hid hln
    have HCy := Lib.hid hcy
    have HRs := Lib.hid hres
    have HBe := Lib.hid hbel
    have HMr := Lib.hid hmr
    have H8 := Lib.hid hm8
    have hlr1 := hbx.lt
    have hlr2 := hres.lt
    clear hln hcy hres hbel hmr hm8 HMA HRr
    by_cases hlt : k < nw
    · have hlt' : k < m.wait.length := by rw [HM.out.2]; exact hlt
      obtain ⟨x, hx⟩ : ∃ x, m.wait[k]? = some x := ⟨_, List.getElem?_eq_getElem hlt'⟩
      obtain ⟨g, rfl, hg, hng, c0, c1⟩ := (HBW.out wr HBe.out).at hx
      obtain ⟨k0, k1, k2, k3, k4⟩ := hbx.five
      have HX := Lib.hid hx
      have hx8 : x.b.length = 128 := HW8.out x (List.mem_of_getElem? hx)
      have q0 : (k : Int) < (nw : Int) := by omega
      have HDR := Lib.hid (show m.wait.drop k = x :: m.wait.drop (k + 1) by
        obtain ⟨hkl, hxx⟩ := List.getElem?_eq_some_iff.1 hx
        rw [List.drop_eq_getElem_cons hkl, hxx])
      obtain ⟨Hx, hHx⟩ : ∃ Hx, wr.heap.size = Hx := ⟨_, rfl⟩
      obtain ⟨w4, hw4⟩ : ∃ w4, wr.alloc (.cells #[.int .i64 (x.i : Int), sv x.b] 71) = w4 := ⟨_, rfl⟩
      have hb4 : Below wr.heap.size wr w4 := by rw [← hw4]; exact (Below.refl _ _).alloc (Nat.le_refl _) _
      have hbx4 : Blk w4 Hx [.int .i64 (x.i : Int), sv x.b] := by rw [← hw4, ← hHx]; exact Blk.new wr [.int .i64 (x.i : Int), sv x.b] _
      have x0 : w4.cell? ⟨Hx, 0, none⟩ = some (.int .i64 (x.i : Int)) := hbx4.cell rfl
      have x1 : w4.cell? ⟨Hx, 1, none⟩ = some (sv x.b) := hbx4.cell rfl
      obtain ⟨p0, p1, p2, p3, p4⟩ := (hbx.past hb4).five
      have HB4 := Lib.hid hb4
      have HX4 := Lib.hid hbx4
      have hs4 := hb4.size
      have HBIT := Lib.hid (bit_any K k hK (by omega) w4)
      have HBT := Lib.hid (bit_any T k hT (by omega) w4)
      have hown4 : ∀ j, own' j → j < w4.heap.size := fun j hj => by
        rcases (HO'.out j).1 hj with h1 | h1 | h1
        · have := HOwn.out j h1; omega
        · omega
        · omega
      have HOW4 := Lib.hid hown4
      clear hlt' hx hb4 hbx4 hbx hown4
      cases hbk : K.testBit (k % 64) with
      | true =>
        rw [hbk] at HBIT
        have HBR := Lib.hid (backR_keep (T := T) (x := x) (l := m.wait.drop (k + 1)) (made := made) hbk)
        clear hbk
        go_wp2_with (first
          | (go_at_call 35; refine HBIT.out.mono ?_; rintro e w' ⟨rfl, rfl⟩)
          | (go_at_call 34
             refine (put_any (mc : Int) mo mf A n c (some ⟨g, 0, none⟩) nw cw made x own' w4 HLn.out (by omega) hnc (HCy.out.past HB4.out) HOW4.out).mono ?_
             rintro e w7 ⟨A2, n2, c2', rfl, h1, h2, h3, h4, h5⟩
             have HP7 := Lib.hid (And.intro h1 (And.intro h2 (And.intro h3 (And.intro h4 h5))))
             have HBx7 := Lib.hid ((HBx.out.past HB4.out).past h5)
             have HRs7 := Lib.hid ((HRs.out.past HB4.out).past h5)
             have HBe7 := Lib.hid (HBe.out.trans ((HB4.out.mono (by omega)).trans (h5.mono (by omega))))
             have hs7 := h5.size
             clear h1 h2 h3 h4 h5)
          | (refine wpList_store_blk rfl 30 _ _ rfl H _ #[.int .i64 (mc : Int), .bool mo, .int .i64 mf, .slice A2 n2 c2', .slice (some ⟨g, 0, none⟩) nw cw] rfl rfl HBx7.out rfl d_size (d_one (mc : Int) mo mf A2 n2 c2' (some ⟨g, 0, none⟩) nw cw) ?_
             intro w8 hb8 ho8
             have HN := Lib.hid (show ∃ made', backR K T (k + 1) (m.wait.drop (k + 1)) made' = backR K T 0 m.wait m.made ∧ (∀ y ∈ made', y.b.length = 128) ∧ MadeAt w w8 H own' (.int .i64 (mc : Int)) (.bool mo) (.int .i64 mf) (.slice (some ⟨g, 0, none⟩) nw cw) made' nm (k + 1) from
               ⟨put made x, by rw [← HBR.out, ← HDR.out]; exact HMr.out, put_all (p := fun y => y.b.length = 128) H8.out hx8, ⟨A2, n2, c2', hb8, HP7.out.1, by have := HP7.out.2.1; omega, HP7.out.2.2.1, HP7.out.2.2.2.1.out (ho8.more fun j _ e => (HO'.out j).2 (.inr (.inl e)))⟩, HRs7.out.out ho8 (by omega),
                 HBe7.out.trans (ho8.below (B := H) (fun j _ hj => by omega) (by omega))⟩)
             clear hb8 ho8))
        exact ⟨⟨k + 1, by omega, by go_num, HN⟩, by simp [intOf]; omega⟩
      | false =>
        rw [hbk] at HBIT
        cases hbt : T.testBit (k % 64) with
        | false =>
          rw [hbt] at HBT
          have HBR := Lib.hid (backR_none (x := x) (l := m.wait.drop (k + 1)) (made := made) hbk hbt)
          have HN := Lib.hid (show ∃ made', backR K T (k + 1) (m.wait.drop (k + 1)) made' = backR K T 0 m.wait m.made ∧ (∀ y ∈ made', y.b.length = 128) ∧ MadeAt w w4 H own' (.int .i64 (mc : Int)) (.bool mo) (.int .i64 mf) (.slice (some ⟨g, 0, none⟩) nw cw) made' nm (k + 1) from
            ⟨made, by rw [← HBR.out, ← HDR.out]; exact HMr.out, H8.out, ⟨A, n, c, HBx.out.past HB4.out, HLn.out, by omega, hnc, HCy.out.past HB4.out⟩, HRs.out.past HB4.out, HBe.out.trans (HB4.out.mono (by omega))⟩)
          clear hbk hbt
          go_wp2_with (go_at_call 35; first | (refine HBIT.out.mono ?_; clear HBIT; rintro e w' ⟨rfl, rfl⟩) | (refine HBT.out.mono ?_; rintro e w' ⟨rfl, rfl⟩))
          exact ⟨⟨k + 1, by omega, by go_num, HN⟩, by simp [intOf]; omega⟩
        | true =>
          rw [hbt] at HBT
          have HBR := Lib.hid (backR_half (x := x) (l := m.wait.drop (k + 1)) (made := made) hbk hbt)
          obtain ⟨gd, hgd⟩ : ∃ gd, gd = lastW made x.i zero128 := ⟨_, rfl⟩
          have hg8 : gd.length = 128 := by rw [hgd]; exact lastW_len H8.out zero128_length
          have HGD := Lib.hid hgd
          have t1 : x.b.toArray.extract 0 64 = (x.b.take 64).toArray := by simp
          have t2 : gd.toArray.extract 64 128 = (gd.drop 64).toArray := by simp; rw [List.take_of_length_le (by rw [List.length_drop]; omega)]
          clear hbk hbt hgd
          go_wp2_with (go_at_call 35; first | (refine HBIT.out.mono ?_; clear HBIT; rintro e w' ⟨rfl, rfl⟩) | (refine HBT.out.mono ?_; rintro e w' ⟨rfl, rfl⟩) | fail)
          refine wp_region_tl 14 (bkG H Hx own' (.int .i64 (mc : Int)) (.bool mo) (.int .i64 mf) A n c (some ⟨g, 0, none⟩) nw cw made x gd) [29, 30, 31, 32, 33, 34, 35, 36, 37, 38, 39, 40, 41, 42] [([3], none), ([8], none), ([30], none), ([8], none), ([32], none), ([33], none), ([3], none), ([8], none), ([36], none), ([35, 37], none), ([38], none), ([34, 39], none), ([31, 40], none), ([29, 41], none)] 49 (by kernel_rfl) (by kernel_rfl) rfl ?h0 ?hreq rfl ?hend
          case h0 =>
            intro t W hnd _
            unfold bkG
            split <;> first | rfl | trivial | exact absurd (by simp) hnd
          case hreq =>
            refine ⟨?_, ?_, ?_, ?_, ?_, ?_, ?_, ?_, ?_, ?_, ?_, ?_, ?_, ?_, trivial⟩
            all_goals
              intro ac W hg' hk'
              have hbW : Below w4.heap.size w4 W := hg'
              obtain ⟨k0, k1, k2, k3, k4⟩ := ((HBx.out.past HB4.out).past hbW).five
              have y0 : W.cell? ⟨Hx, 0, none⟩ = some (.int .i64 (x.i : Int)) := (HX4.out.past hbW).cell rfl
              have y1 : W.cell? ⟨Hx, 1, none⟩ = some (sv x.b) := (HX4.out.past hbW).cell rfl
              simp only [Gw.Knows, bkG] at hk'
              try (simp [go_sem, Gw.OpReq, Gw.Ok, Gw.Post, Gw.Holds, bkG, Gw.Grows.refl, hk', k0, k1, k2, k3, k4, y0, y1]; done)
            · simp [go_sem, Gw.OpReq, Gw.Ok, Gw.Post, Gw.Holds, bkG, Gw.Grows.refl, hk', hx8]
              intro _ _
              rw [ba_extract, t1]
            · simp [go_sem, Gw.OpReq, Gw.Ok, Gw.Post, Gw.Holds, bkG, Gw.Grows.refl, hk']
              refine (good_any _ _ _ A n c (some ⟨g, 0, none⟩) nw cw made x.i own' W HLn.out (by omega) ((HCy.out.past HB4.out).past hbW)).mono ?_
              rintro e w5 ⟨rfl, hb⟩
              exact ⟨_, rfl, hb, fun _ _ => by rw [HGD.out]⟩
            · simp [go_sem, Gw.OpReq, Gw.Ok, Gw.Post, Gw.Holds, bkG, Gw.Grows.refl, hk', hg8]
              intro _ _
              rw [ba_extract, t2]
            · have t3 : ¬ 9223372036854775807 < min 64 x.b.length + (gd.length - 64) := by omega
              simp [go_sem, Gw.OpReq, Gw.Ok, Gw.Post, Gw.Holds, bkG, Gw.Grows.refl, hk', t3]
              intro _ _
              rw [ba_append]
              simp
            · simp [go_sem, Gw.OpReq, Gw.Ok, Gw.Post, Gw.Holds, bkG, Gw.Grows.refl, hk']
              refine (put_any (mc : Int) mo mf A n c (some ⟨g, 0, none⟩) nw cw made ⟨x.i, x.b.take 64 ++ gd.drop 64⟩ own' W HLn.out (by omega) hnc ((HCy.out.past HB4.out).past hbW) (fun j hj => Nat.lt_of_lt_of_le (HOW4.out j hj) hbW.size)).mono ?_
              rintro e w7 ⟨A2, n2, c2', rfl, h1, h2, h3, h4, h5⟩
              exact ⟨_, rfl, h5, fun W2 hW2 => ⟨A2, n2, c2', rfl, h1, h2, h3, h4.past hW2⟩⟩
          case hend =>
            intro x' w6 hg' hx'
            obtain ⟨A2, n2, c2', h42, e1, e2, e3, e4⟩ := bkG_42 (hx' 42 (by simp))
            have hb6 : Below w4.heap.size w4 w6 := hg'
            simp only [Gw.putAll, Act.put, List.setIfInBounds_toArray, List.set_cons_zero, List.set_cons_succ]
            rw [h42]
            refine tl_store 30 _ _ rfl H _ #[.int .i64 (mc : Int), .bool mo, .int .i64 mf, .slice A2 n2 c2', .slice (some ⟨g, 0, none⟩) nw cw] rfl rfl ((HBx.out.past HB4.out).past hb6) rfl d_size (d_one _ _ _ _ _ _ _ _ _) ?_
            intro w7 hb7 ho7
            have HN := Lib.hid (show ∃ made', backR K T (k + 1) (m.wait.drop (k + 1)) made' = backR K T 0 m.wait m.made ∧ (∀ y ∈ made', y.b.length = 128) ∧ MadeAt w w7 H own' (.int .i64 (mc : Int)) (.bool mo) (.int .i64 mf) (.slice (some ⟨g, 0, none⟩) nw cw) made' nm (k + 1) from
              ⟨put made ⟨x.i, x.b.take 64 ++ gd.drop 64⟩, by rw [← HMr.out, HDR.out, HBR.out, HGD.out]; rfl, put_all (p := fun y => y.b.length = 128) H8.out (by simp [hx8, hg8]),
                ⟨A2, n2, c2', hb7, e1, by omega, e3, e4.out (ho7.more fun j _ e => (HO'.out j).2 (.inr (.inl e)))⟩, ((HRs.out.past HB4.out).past hb6).out ho7 (by omega),
                HBe.out.trans ((HB4.out.mono (by omega)).trans ((hb6.mono (by omega)).trans (ho7.below (B := H) (fun j _ hj => by omega) (by have := hb6.size; omega))))⟩)
            clear hx' hg' hb6 hb7 ho7 e1 e2 e3 e4 h42
            refine tl_nil ?_
            simp only [Act.put]
            go_wp2
            go_roundw
            case rel => exact ⟨k + 1, by omega, by go_num, HN⟩
            case measure => simp [intOf]; omega
    · have hkn : k = nw := by omega
      subst hkn
      have hmade : made = backR K T 0 m.wait m.made := by rw [← HMr.out, List.drop_of_length_le (by rw [HM.out.2]; omega)]; rfl
      obtain ⟨wA, hwA⟩ : ∃ wA, wr.alloc (.cells #[] 71) = wA := ⟨_, rfl⟩
      have hbA : Below wr.heap.size wr wA := by rw [← hwA]; exact (Below.refl _ _).alloc (Nat.le_refl _) _
      obtain ⟨k0, k1, k2, k3, k4⟩ := (HBx.out.past hbA).five
      obtain ⟨g0, g1, g2, g3, g4⟩ := (HBx.out.past hbA).five_free
      have hOA : Out (fun j => j = H) wA (((wA.setCell ⟨H, 4, none⟩ (.slice (some ⟨wr.heap.size, 0, none⟩) 0 0)).setCell ⟨H, 1, none⟩ (.bool false)).setCell ⟨H, 2, none⟩ (.int .i64 (-1))) :=
        (((Out.refl (fun j => j = H) wA).setCell (p := ⟨H, 4, none⟩) (.inl rfl) _).setCell (p := ⟨H, 1, none⟩) (.inl rfl) _).setCell (p := ⟨H, 2, none⟩) (.inl rfl) _
      have HKA := Lib.hid ((HRs.out.past hbA).out hOA (by omega))
      have HBA := Lib.hid ((HBe.out.trans (hbA.mono (by omega))).trans (hOA.below (B := H) (fun j _ hj => by omega) (by have := hbA.size; omega)))
      have HCA := Lib.hid ((HCy.out.past hbA).out (hOA.more fun j _ e => (HO'.out j).2 (.inr (.inl e))))
      have HMD := Lib.hid hmade
      have hsA := hbA.size
      have hszA : (((wA.setCell ⟨H, 4, none⟩ (.slice (some ⟨wr.heap.size, 0, none⟩) 0 0)).setCell ⟨H, 1, none⟩ (.bool false)).setCell ⟨H, 2, none⟩ (.int .i64 (-1))).heap.size ≥ H := by have := hOA.size; omega
      have HSA := Lib.hid hszA
      clear hbA hmade hOA hszA hbx
      go_wp2_with (refine wpList_store_blk rfl 30 _ _ rfl (H + 1) _ #[.int .i64 (mc : Int), .bool false, .int .i64 (-1), .slice A n c, .slice (some ⟨wr.heap.size, 0, none⟩) 0 0] rfl rfl HKA.out rfl d_size (d_one (mc : Int) false (-1) A n c (some ⟨wr.heap.size, 0, none⟩) 0 0) ?_
                   intro w8 hb8 ho8
                   have HK8 := Lib.hid (show Blk w8 (H + 1) [.int .i64 (mc : Int), .bool false, .int .i64 (-1), .slice A n c, .slice (some ⟨wr.heap.size, 0, none⟩) 0 0] from hb8)
                   have HB8 := Lib.hid (HBA.out.trans (ho8.below (B := H) (fun j _ hj => by omega) HSA.out))
                   have HC8 := Lib.hid (HCA.out.out (ho8.more fun j _ e => (HO'.out j).2 (.inr (.inr e))))
                   clear hb8 ho8)
      obtain ⟨r0, r1, r2, r3, r4⟩ := HK8.out.five
      refine bodyPost_ret (v := .agg #[.int .i64 (mc : Int), .bool false, .int .i64 (-1), .slice A n c, .slice (some ⟨wr.heap.size, 0, none⟩) 0 0]) (by simp [results, Try.results25, go_sem, r0, r1, r2, r3, r4]) rfl ?_
      have hbe := HB8.out
      rw [← hH] at hbe
      refine ⟨_, rfl, ⟨A, n, c, some ⟨wr.heap.size, 0, none⟩, 0, 0, by rw [HMM.out.1]; rfl, ?_, rfl, ⟨?_, Cy.empty, ?_, Nat.le_refl _⟩⟩, by first | exact hbe | exact HB8.out⟩
      · show (backR K T 0 m.wait m.made).length = n
        rw [← HMD.out]; exact HLn.out
      · show Cy w8 own A (backR K T 0 m.wait m.made)
        rw [← HMD.out]; exact HC8.out.less (fun j _ hj => (HO'.out j).2 (.inl hj))
      · show (backR K T 0 m.wait m.made).length ≤ c
        rw [← HMD.out, HLn.out]; exact hnc
end Go.Proofs.Ytpdhnkmihlgdjaa
