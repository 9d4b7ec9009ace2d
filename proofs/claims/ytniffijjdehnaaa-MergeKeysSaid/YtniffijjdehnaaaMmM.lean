/- MergeKeys: any edge's key. -/
import Derived.Test.YtniffijjdehnaaaMmL
import Derived.Test.YtniffijjdehnaaaGw2
namespace Go.Proofs.Ytniffijjdehnaaa
open Go.RowKit Me Tx Ed Mg Va

open Go.ChangeShapes Go.WideShapes in
theorem ed_of_trod {H : Type} {enc : TypeId × Value → H} {P : Program} {W : World} {e tu : TypeId} {f0 f1 f2 : Field} {fuel : Nat} {cs : List Value} {x : DataW H × List MemPlace} (he : P.underlying e = some (.struct #[f0, f1, f2]))
    (hone : Go.Deep.oneCellFields P #[f0, f1, f2] = true) (hC : P.cellsOf e = 3) (h0 : f0.type = tu) (h1 : f1.type = tu) (h2 : f2.type = tu) (hu : P.underlying tu = some (.int .u32))
    (hf : DataW.trod enc P W 0 (fun _ => true) true fuel e cs = some x) : ∃ y : EdD, cs = [.int .u32 (y.src : Int), .int .u32 (y.dst : Int), .int .u32 (y.wgt : Int)] ∧ FitE y := by
  obtain ⟨ys, n2, hn2, hy, hlen, hyl, hfld⟩ := DataW.trod_struct he hf
  rw [hC] at hlen
  obtain ⟨o0, k0⟩ := Go.Deep.hone_of hone 0 f0 rfl
  obtain ⟨o1, k1⟩ := Go.Deep.hone_of hone 1 f1 rfl
  obtain ⟨o2, k2⟩ := Go.Deep.hone_of hone 2 f2 rfl
  match cs, hlen with
  | [c0, c1, c2], _ =>
    match ys, hyl with
    | [y0, y1, y2], _ =>
      have g0 := hfld 0 f0 rfl
      have g1 := hfld 1 f1 rfl
      have g2 := hfld 2 f2 rfl
      rw [o0, k0, h0] at g0
      rw [o1, k1, h1] at g1
      rw [o2, k2, h2] at g2
      obtain ⟨z0, e0, -, w0⟩ := DataW.trod_int hu g0
      obtain ⟨z1, e1, -, w1⟩ := DataW.trod_int hu g1
      obtain ⟨z2, e2, -, w2⟩ := DataW.trod_int hu g2
      simp at e0 e1 e2
      simp [Lit.wf, IntKind.min, IntKind.max, IntKind.bits, IntKind.signed] at w0 w1 w2
      refine ⟨⟨z0.toNat, z1.toNat, z2.toNat⟩, ?_, ?_, ?_, ?_⟩
      · rw [e0, e1, e2]
        show [_, _, _] = [Value.int .u32 ((z0.toNat : Nat) : Int), .int .u32 ((z1.toNat : Nat) : Int), .int .u32 ((z2.toNat : Nat) : Int)]
        rw [show ((z0.toNat : Nat) : Int) = z0 by omega, show ((z1.toNat : Nat) : Int) = z1 by omega, show ((z2.toNat : Nat) : Int) = z2 by omega]
      · show z0.toNat < _; omega
      · show z1.toNat < _; omega
      · show z2.toNat < _; omega
open Go.ChangeShapes Go.WideShapes in
/-- An edge as an argument, by value. -/
theorem open_ed {H : Type} {enc : TypeId × Value → H} {P : Program} {W : World} {b0 : Nat} {e tu : TypeId} {f0 f1 f2 : Field} {v : Value} {d : DataW H} {ps : List MemPlace} (he : P.underlying e = some (.struct #[f0, f1, f2]))
    (hone : Go.Deep.oneCellFields P #[f0, f1, f2] = true) (hC : P.cellsOf e = 3) (h0 : f0.type = tu) (h1 : f1.type = tu) (h2 : f2.type = tu) (hu : P.underlying tu = some (.int .u32))
    (hv : Value.okWide P W .any b0 e v) (h : DataW.Trod enc P W 0 (fun _ => true) true e v d ps) :
    ∃ x : EdD, v = Ed.agg x ∧ FitE x := by
  obtain ⟨cs, rfl, hsz⟩ := WideShapes.okWide_struct he hv
  obtain ⟨fuel, hf⟩ := h
  obtain ⟨y, hcs, hy⟩ := ed_of_trod he hone hC h0 h1 h2 hu hf
  refine ⟨y, ?_, hy⟩
  show Value.agg cs = Value.agg #[_, _, _]
  congr 1
  apply Array.toList_inj.1
  exact hcs
/-- What is known of a slice that has been answered. -/
def KeyV (b : List UInt8) (v : Value) (W : World) : Prop := ∃ A c, v = .slice A 12 c ∧ 12 ≤ c ∧ c ≤ 9223372036854775807 ∧ Rd W W.heap.size A b
theorem KeyV.grow {b : List UInt8} {v : Value} {W W' : World} (h : KeyV b v W) (hb : Below W.heap.size W W') : KeyV b v W' := by
  obtain ⟨A, c, h1, h2, h3, h4⟩ := h
  exact ⟨A, c, h1, h2, h3, (h4.below hb).more hb.size⟩
theorem news_key {w w' : World} {x : EdD} {e : Ending} (h : News w (keyB x) e w') : ∃ v, e = .returned v ∧ Below w.heap.size w w' ∧ KeyV (keyB x) v w' := by
  obtain ⟨A, n, c, rfl, hl, hn, ho, hr, hb⟩ := h.open
  rw [keyB_length] at hl
  subst hl
  exact ⟨_, rfl, hb, A, c, rfl, (own_bounds ho).1, (own_bounds ho).2, hr⟩
theorem undef_no14 (c : Bool) : undef ≠ .bool c := by simp [undef]
/-- What is known of each slot where both keys are made. -/
def mkyA (H : Nat) (x y : EdD) : Gw.Fact := fun t v W =>
  match t with
  | 3 => v = .pointer (some ⟨H, 0, none⟩)
  | 4 => v = .pointer (some ⟨H + 1, 0, none⟩)
  | 19 => v = Ed.agg x
  | 21 => v = Ed.agg y
  | 20 | 7 => KeyV (keyB x) v W
  | 22 | 8 => KeyV (keyB y) v W
  | _ => True
abbrev kstr (b : List UInt8) : Value := .string ⟨b.toArray⟩
/-- .. where all is asked. -/
def mkyG (H Rb Rz Rw : Nat) (x y z : EdD) (kA jA : Value) (fz : Int) (B bl : Bool) : Gw.Fact := fun t v W =>
  match t with
  | 3 => v = .pointer (some ⟨H, 0, none⟩)
  | 4 => v = .pointer (some ⟨H + 1, 0, none⟩)
  | 7 | 38 | 74 => v = kA
  | 8 | 76 => v = jA
  | 9 => v = .pointer (some ⟨Rb, 0, none⟩)
  | 11 => v = .pointer (some ⟨Rz, 0, none⟩)
  | 13 => v = .pointer (some ⟨Rw, 0, none⟩)
  | 10 | 50 => v = .int .i64 0
  | 12 | 59 => v = .int .i64 fz
  | 14 | 60 | 61 | 63 | 64 => v = .bool B
  | 39 | 42 | 75 => v = kstr (keyB x)
  | 77 => v = kstr (keyB y)
  | 40 | 45 | 46 | 79 => v = Ed.agg x
  | 80 => v = Ed.agg y
  | 54 | 55 => v = Ed.agg z
  | 41 => KeyV (keyB x) v W
  | 43 | 44 | 47 | 48 | 49 | 51 | 52 | 53 | 56 | 57 | 58 | 71 | 72 | 73 | 82 | 83 | 84 | 85 | 86 | 6 => v = .bool true
  | 62 => B = true → v = .bool true
  | 65 => B = false → v = .int .i64 fz
  | 66 | 69 | 70 => B = false → v = .bool true
  | 67 => v = if B then undef else .bool true
  | 68 => B = false → v = .bool false
  | 78 | 81 => v = .bool bl
  | _ => True
set_option maxRecDepth 100000 in
set_option maxHeartbeats 4000000 in
theorem mergeKeys_law (x y : EdD) (A : Option Addr) (n c : Nat) (b : List UInt8) (w : World) (hx : FitE x) (hy : FitE y) (hl : b.length = n) (hnc : n ≤ c) (hc63 : c ≤ 9223372036854775807) (hr : Rd w w.heap.size A b) :
    Calls Try.prog 3 #[Ed.agg x, Ed.agg y, .slice A n c] w fun e w' => e = .returned (.bool true) ∧ Below w.heap.size w w' := by
  obtain ⟨x0, x1, x2⟩ := x
  obtain ⟨y0, y1, y2⟩ := y
  obtain ⟨H, hH⟩ : ∃ H, H = w.heap.size := ⟨_, rfl⟩
  obtain ⟨w1, hw1⟩ : ∃ w1, w1 = (w.alloc (.cells #[.int .u32 (x0 : Int), .int .u32 (x1 : Int), .int .u32 (x2 : Int)] 24)).alloc (.cells #[.int .u32 (y0 : Int), .int .u32 (y1 : Int), .int .u32 (y2 : Int)] 24) := ⟨_, rfl⟩
  have hb1 : Below w.heap.size w w1 := by rw [hw1]; exact ((Below.refl _ _).alloc (Nat.le_refl _) _).alloc (by simp) _
  have BX := Lib.hid (show Blk w1 H [.int .u32 (x0 : Int), .int .u32 (x1 : Int), .int .u32 (x2 : Int)] by rw [hw1, hH]; exact (Blk.new w [.int .u32 (x0 : Int), .int .u32 (x1 : Int), .int .u32 (x2 : Int)] _).alloc _)
  have BY := Lib.hid (show Blk w1 (H + 1) [.int .u32 (y0 : Int), .int .u32 (y1 : Int), .int .u32 (y2 : Int)] by rw [hw1, hH]; exact Blk.new' (w.alloc _) [.int .u32 (y0 : Int), .int .u32 (y1 : Int), .int .u32 (y2 : Int)] _ (by simp))
  have HAW := Lib.hid awake14_any
  have HB1 := Lib.hid hb1
  have HW1 := Lib.hid hw1
  have HHE := Lib.hid hH
  have HL := Lib.hid hl
  have HR := Lib.hid (And.intro hr (And.intro hnc hc63))
  have HX := Lib.hid hx
  have HY := Lib.hid hy
  clear hH hw1 hb1 hl hr hx hy hnc hc63
  go_enter Try.func3, Try.ntmps3
  go_upto_region 1 with fail
  rw [← HW1.out, ← HHE.out]
  by_cases h2 : n ≤ 100
  · have h2' : ¬ (100 : Int) < (n : Int) := by omega
    go_upto_region 3 with fail
    refine Gw.wp_region_grow (mkyA H ⟨x0, x1, x2⟩ ⟨y0, y1, y2⟩) [19, 20, 21, 22, 7, 8] [([3], none), ([19], none), ([4], none), ([21], none), ([20], none), ([22], none)] 87 (by kernel_rfl) (by kernel_rfl) rfl ?h0 ?hreq ?hend
    case h0 =>
      intro t W hnd _
      unfold mkyA
      split <;> first | rfl | trivial | exact absurd (by simp) hnd
    case hreq =>
      refine ⟨?_, ?_, ?_, ?_, ?_, ?_, trivial⟩
      all_goals
        intro ac W hg hk
        have hg' : Below w1.heap.size w1 W := hg
        have z0 := (BX.out.past hg').cell (i := 0) rfl
        have z1 := (BX.out.past hg').cell (i := 1) rfl
        have z2 := (BX.out.past hg').cell (i := 2) rfl
        have z3 := (BY.out.past hg').cell (i := 0) rfl
        have z4 := (BY.out.past hg').cell (i := 1) rfl
        have z5 := (BY.out.past hg').cell (i := 2) rfl
        simp only [Gw.Knows, mkyA] at hk
        try (simp [go_sem, Gw.OpReq, Gw.Ok, Gw.Post, Gw.Holds, mkyA, Gw.Grows.refl, hk, z0, z1, z2, z3, z4, z5]; done)
      · simp [go_sem, Gw.OpReq, Gw.Ok, Gw.Post, Gw.Holds, mkyA, Gw.Grows.refl, hk]
        refine (mkey_any _ HX.out W).mono ?_
        rintro e W' hn
        obtain ⟨v, rfl, hb, hv⟩ := news_key hn
        exact ⟨_, rfl, hb, fun W2 h2 => hv.grow h2⟩
      · simp [go_sem, Gw.OpReq, Gw.Ok, Gw.Post, Gw.Holds, mkyA, Gw.Grows.refl, hk]
        refine (mkey_any _ HY.out W).mono ?_
        rintro e W' hn
        obtain ⟨v, rfl, hb, hv⟩ := news_key hn
        exact ⟨_, rfl, hb, fun W2 h2 => hv.grow h2⟩
      · simp [go_sem, Gw.OpReq, Gw.Ok, Gw.Post, Gw.Holds, mkyA, Gw.Grows.refl]
        exact fun W2 h2 => hk.1.grow h2
      · simp [go_sem, Gw.OpReq, Gw.Ok, Gw.Post, Gw.Holds, mkyA, Gw.Grows.refl]
        exact fun W2 h2 => hk.1.grow h2
    case hend =>
      intro v w2 hg hv
      have v7 := (hv 7 (by simp)).now
      have v8 := (hv 8 (by simp)).now
      simp only [mkyA] at v7 v8
      simp only [Gw.putAll, Act.put, List.setIfInBounds_toArray, List.set_cons_zero, List.set_cons_succ]
      obtain ⟨Ak, ck, e7, hk1, hk2, hk3⟩ := v7
      obtain ⟨Aj, cj, e8, hj1, hj2, hj3⟩ := v8
      rw [e7, e8]
      have HB2 := Lib.hid (show Below w1.heap.size w1 w2 from hg)
      have HKK := Lib.hid (show KeyV (keyB ⟨x0, x1, x2⟩) (.slice Ak 12 ck) w2 from ⟨Ak, ck, rfl, hk1, hk2, hk3⟩)
      have HJJ := Lib.hid (show KeyV (keyB ⟨y0, y1, y2⟩) (.slice Aj 12 cj) w2 from ⟨Aj, cj, rfl, hj1, hj2, hj3⟩)
      have HOK := Lib.hid (mof_any Ak 12 ck (keyB ⟨x0, x1, x2⟩) w2 rfl hk3)
      clear hg hv e7 e8 hk1 hk2 hk3 hj1 hj2 hj3
      go_wp2_with fail
      refine HOK.out.mono ?_
      rintro e w3 ⟨x', z', rfl, hkx, hb3⟩
      have hx' : x' = ⟨x0, x1, x2⟩ ∧ z' = 0 := by
        rcases hkx with ⟨-, h, h'⟩ | ⟨h, -⟩
        · exact ⟨by rw [h]; exact edB_key HX.out, h'⟩
        · exact absurd rfl h
      obtain ⟨rfl, rfl⟩ := hx'
      obtain ⟨w4, hw4⟩ : ∃ w4, w4 = w3.alloc (.cells #[.int .u32 (x0 : Int), .int .u32 (x1 : Int), .int .u32 (x2 : Int)] 24) := ⟨_, rfl⟩
      obtain ⟨Rb, hRb⟩ : ∃ R, R = w3.heap.size := ⟨_, rfl⟩
      have hb24 : Below w2.heap.size w2 w4 := by rw [hw4]; exact hb3.alloc hb3.size _
      have BB := Lib.hid (show Blk w4 Rb [.int .u32 (x0 : Int), .int .u32 (x1 : Int), .int .u32 (x2 : Int)] by rw [hw4, hRb]; exact Blk.new w3 [.int .u32 (x0 : Int), .int .u32 (x1 : Int), .int .u32 (x2 : Int)] _)
      have HB4 := Lib.hid (HB2.out.trans (hb24.mono HB2.out.size))
      have HK4 := Lib.hid (HKK.out.grow hb24)
      have HJ4 := Lib.hid (HJJ.out.grow hb24)
      have HW4 := Lib.hid hw4
      have HRB := Lib.hid hRb
      clear hkx hb3 hw4 hRb hb24 HKK HJJ HOK
      unfold Ed.agg
      go_upto_region 5 with fail
      rw [← HW4.out, ← HRB.out]
      have HR4 := Lib.hid (show Rd w4 w4.heap.size A b from (HR.out.1.below (HB1.out.trans (HB4.out.mono HB1.out.size))).more (HB1.out.trans (HB4.out.mono HB1.out.size)).size)
      have HOB := Lib.hid (mof_any A n c b w4 HL.out HR4.out)
      go_wp2_with fail
      refine HOB.out.mono ?_
      rintro e w5 ⟨⟨z0, z1, z2⟩, fz, rfl, hkz, hb5⟩
      obtain ⟨w6, hw6⟩ : ∃ w6, w6 = w5.alloc (.cells #[.int .u32 (z0 : Int), .int .u32 (z1 : Int), .int .u32 (z2 : Int)] 24) := ⟨_, rfl⟩
      obtain ⟨Rz, hRz⟩ : ∃ R, R = w5.heap.size := ⟨_, rfl⟩
      have hb46 : Below w4.heap.size w4 w6 := by rw [hw6]; exact hb5.alloc hb5.size _
      have BZ := Lib.hid (show Blk w6 Rz [.int .u32 (z0 : Int), .int .u32 (z1 : Int), .int .u32 (z2 : Int)] by rw [hw6, hRz]; exact Blk.new w5 [.int .u32 (z0 : Int), .int .u32 (z1 : Int), .int .u32 (z2 : Int)] _)
      have HB6 := Lib.hid (HB4.out.trans (hb46.mono HB4.out.size))
      have HK6 := Lib.hid (HK4.out.grow hb46)
      have HJ6 := Lib.hid (HJ4.out.grow hb46)
      have BB6 := Lib.hid (BB.out.past hb46)
      have HR6 := Lib.hid ((HR4.out.below hb46).more hb46.size)
      have HW6 := Lib.hid hw6
      have HRZ := Lib.hid hRz
      have HKZ := Lib.hid hkz
      clear hkz hb5 hw6 hRz hb46 HK4 HJ4 BB HR4 HOB
      unfold Ed.agg
      go_upto_region 6 with fail
      rw [← HW6.out, ← HRZ.out]
      have HOR := Lib.hid (rof_any A n c b w6 HL.out HR.out.2.1 HR.out.2.2 HR6.out)
      obtain ⟨B, hBz⟩ : ∃ B : Bool, fz = (if B then 0 else 3) ∧ ∀ e : Ending, (if n = 12 then e = .returned (.tuple #[Ed.agg (edB b), .bool true]) else e = .returned (.tuple #[Ed.agg ⟨0, 0, 0⟩, .bool false])) → e = .returned (.tuple #[Ed.agg ⟨z0, z1, z2⟩, .bool B]) := by
        rcases HKZ.out with ⟨h, h', h''⟩ | ⟨h, h', h''⟩
        · refine ⟨true, by rw [h'']; rfl, fun e he => ?_⟩
          rw [if_pos h] at he
          rw [h', he]
        · refine ⟨false, by rw [h'']; rfl, fun e he => ?_⟩
          rw [if_neg h] at he
          rw [h', he]
      have HBZ := Lib.hid hBz.2
      have d0 : (fz == 0) = B := by rw [hBz.1]; cases B <;> rfl
      have d3 : (fz == 3) = !B := by rw [hBz.1]; cases B <;> rfl
      clear hBz
      go_wp2_with fail
      refine HOR.out.mono ?_
      rintro e w7 ⟨he, hb7⟩
      have he2 := HBZ.out e he
      subst he2
      obtain ⟨w8, hw8⟩ : ∃ w8, w8 = w7.alloc (.cells #[.int .u32 (z0 : Int), .int .u32 (z1 : Int), .int .u32 (z2 : Int)] 24) := ⟨_, rfl⟩
      obtain ⟨Rw, hRw⟩ : ∃ R, R = w7.heap.size := ⟨_, rfl⟩
      have hb68 : Below w6.heap.size w6 w8 := by rw [hw8]; exact hb7.alloc hb7.size _
      have BW := Lib.hid (show Blk w8 Rw [.int .u32 (z0 : Int), .int .u32 (z1 : Int), .int .u32 (z2 : Int)] by rw [hw8, hRw]; exact Blk.new w7 [.int .u32 (z0 : Int), .int .u32 (z1 : Int), .int .u32 (z2 : Int)] _)
      have HB8 := Lib.hid (HB6.out.trans (hb68.mono HB6.out.size))
      have HK8 := Lib.hid (HK6.out.grow hb68)
      have HJ8 := Lib.hid (HJ6.out.grow hb68)
      have BB8 := Lib.hid (BB6.out.past hb68)
      have BZ8 := Lib.hid (BZ.out.past hb68)
      have BX8 := Lib.hid (BX.out.past HB8.out)
      have BY8 := Lib.hid (BY.out.past HB8.out)
      have HW8 := Lib.hid hw8
      have HRW := Lib.hid hRw
      clear he hb7 hw8 hRw hb68 HK6 HJ6 BB6 BZ HR6 HOR HBZ HKZ BX BY
      unfold Ed.agg
      go_upto_region 7 with fail
      rw [← HW8.out, ← HRW.out]
      obtain ⟨bl, hbl⟩ : ∃ bl, bl = lowE ⟨x0, x1, x2⟩ ⟨y0, y1, y2⟩ := ⟨_, rfl⟩
      have HLO := Lib.hid (fun W : World => rbelow_any ⟨x0, x1, x2⟩ ⟨y0, y1, y2⟩ W)
      have hlk := less_key HX.out HY.out
      rw [← hbl] at HLO hlk
      have HS1 := Lib.hid (fun (W : World) (hW : Below w8.heap.size w8 W) => show (convert 25 9 (.slice Ak 12 ck)).run Try.prog W = .ok (kstr (keyB ⟨x0, x1, x2⟩)) W from by
        obtain ⟨A1, c1, e1, -, -, h4⟩ := HK8.out.grow hW
        injection e1 with e1 _ e2
        subst e1 e2
        exact str_any _ 12 _ _ W _ rfl h4)
      have HS2 := Lib.hid (fun (W : World) (hW : Below w8.heap.size w8 W) => show (convert 25 9 (.slice Aj 12 cj)).run Try.prog W = .ok (kstr (keyB ⟨y0, y1, y2⟩)) W from by
        obtain ⟨A1, c1, e1, -, -, h4⟩ := HJ8.out.grow hW
        injection e1 with e1 _ e2
        subst e1 e2
        exact str_any _ 12 _ _ W _ rfl h4)
      clear hbl
      refine Gw.wp_region_grow2 (mkyG H Rb Rz Rw ⟨x0, x1, x2⟩ ⟨y0, y1, y2⟩ ⟨z0, z1, z2⟩ (.slice Ak 12 ck) (.slice Aj 12 cj) fz B bl) [38, 39, 40, 41, 42, 43, 44, 45, 46, 47, 48, 49, 50, 51, 52, 53, 54, 55, 56, 57, 58, 59, 60, 61, 62, 63, 64, 65, 66, 67, 68, 69, 70, 71, 72, 73, 74, 75, 76, 77, 78, 79, 80, 81, 82, 83, 84, 85, 86, 6] [([7], none), ([38], none), ([3], none), ([40], none), ([41], none), ([39, 42], none), ([43], none), ([9, 44], some (44, true)), ([3, 44], some (44, true)), ([45, 46, 44], some (44, true)), ([44, 47], none), ([48], none), ([10, 49], some (49, true)), ([50, 49], some (49, true)), ([49, 51], none), ([52], none), ([11, 53], some (53, true)), ([13, 53], some (53, true)), ([54, 55, 53], some (53, true)), ([53, 56], none), ([57], none), ([12, 58], some (58, true)), ([59, 58], some (58, true)), ([60, 58], some (58, true)), ([14, 61], some (61, true)), ([61, 62, 58], some (58, true)), ([63, 58], some (58, true)), ([12, 64], some (64, false)), ([65, 64], some (64, false)), ([66, 64], some (64, false)), ([14, 67], some (67, true)), ([68, 67], some (67, true)), ([67, 69, 64], some (64, false)), ([64, 70, 58], some (58, true)), ([58, 71], none), ([72], none), ([7, 73], some (73, true)), ([74, 73], some (73, true)), ([8, 73], some (73, true)), ([76, 73], some (73, true)), ([75, 77, 73], some (73, true)), ([3, 73], some (73, true)), ([4, 73], some (73, true)), ([79, 80, 73], some (73, true)), ([78, 81, 73], some (73, true)), ([73, 82], none), ([83], none), ([84], some (84, true)), ([84, 85], none), ([86], none)] 87 (by kernel_rfl) (by kernel_rfl) rfl ?h0 ?hreq ?hend
      case h0 =>
        intro t W hnd _
        unfold mkyG
        split <;> first | (exfalso; apply hnd; decide) | rfl | trivial
      case hreq =>
        refine ⟨?_, ?_, ?_, ?_, ?_, ?_, ?_, ?_, ?_, ?_, ?_, ?_, ?_, ?_, ?_, ?_, ?_, ?_, ?_, ?_, ?_, ?_, ?_, ?_, ?_, ?_, ?_, ?_, ?_, ?_, ?_, ?_, ?_, ?_, ?_, ?_, ?_, ?_, ?_, ?_, ?_, ?_, ?_, ?_, ?_, ?_, ?_, ?_, ?_, ?_, trivial⟩
        all_goals
          intro ac W hg hk
          have hg' : Below w8.heap.size w8 W := hg
          have a0 := (BX8.out.past hg').cell (i := 0) rfl
          have a1 := (BX8.out.past hg').cell (i := 1) rfl
          have a2 := (BX8.out.past hg').cell (i := 2) rfl
          have a3 := (BY8.out.past hg').cell (i := 0) rfl
          have a4 := (BY8.out.past hg').cell (i := 1) rfl
          have a5 := (BY8.out.past hg').cell (i := 2) rfl
          have b0 := (BB8.out.past hg').cell (i := 0) rfl
          have b1 := (BB8.out.past hg').cell (i := 1) rfl
          have b2 := (BB8.out.past hg').cell (i := 2) rfl
          have b3 := (BZ8.out.past hg').cell (i := 0) rfl
          have b4 := (BZ8.out.past hg').cell (i := 1) rfl
          have b5 := (BZ8.out.past hg').cell (i := 2) rfl
          have b6 := (BW.out.past hg').cell (i := 0) rfl
          have b7 := (BW.out.past hg').cell (i := 1) rfl
          have b8 := (BW.out.past hg').cell (i := 2) rfl
          have s1 := HS1.out W hg'
          have s2 := HS2.out W hg'
          simp only [Gw.Knows, mkyG] at hk
          try (first
            | (simp [go_sem, Gw.OpReq2, Gw.Ok, Gw.Post, Gw.Holds, mkyG, Gw.Grows.refl, hk, a0, a1, a2, a3, a4, a5, b0, b1, b2, b3, b4, b5, b6, b7, b8, s1, s2, d0, d3, undef_no14]; done)
            | (cases B <;> (simp [go_sem, Gw.OpReq2, Gw.Ok, Gw.Post, Gw.Holds, mkyG, Gw.Grows.refl, hk, d0, d3, undef_no14]; done)))
        · simp [go_sem, Gw.OpReq2, Gw.Ok, Gw.Post, Gw.Holds, mkyG, Gw.Grows.refl, hk]
          refine (rkey_any _ HX.out W).mono ?_
          rintro e W' hn
          obtain ⟨v, rfl, hb, hv⟩ := news_key hn
          exact ⟨_, rfl, hb, fun W2 h2 => hv.grow h2⟩
        · obtain ⟨A1, c1, e1, -, -, h4⟩ := hk.1
          have s3 := str_any A1 12 c1 _ W _ rfl h4
          simp [go_sem, Gw.OpReq2, Gw.Ok, Gw.Post, Gw.Holds, mkyG, Gw.Grows.refl, e1, s3]
        · simp [go_sem, Gw.OpReq2, Gw.Ok, Gw.Post, Gw.Holds, mkyG, Gw.Grows.refl, hk, undef_no14, hlk]
          done
        · simp [go_sem, Gw.OpReq2, Gw.Ok, Gw.Post, Gw.Holds, mkyG, Gw.Grows.refl, hk, undef_no14]
          refine (HLO.out W).mono ?_
          rintro e W' ⟨rfl, hb4⟩
          exact ⟨_, rfl, hb4, fun _ _ => rfl⟩
        · simp [go_sem, Gw.OpReq2, Gw.Ok, Gw.Post, Gw.Holds, mkyG, Gw.Grows.refl, hk, undef_no14]
          refine (HAW.out W).mono ?_
          rintro e W' ⟨rfl, hb4⟩
          exact ⟨_, rfl, hb4, fun _ _ => rfl⟩
      case hend =>
        intro v w9 hg hv
        have v6 := (hv 6 (by simp)).now
        simp only [mkyG] at v6
        simp only [Gw.putAll, Act.put, List.setIfInBounds_toArray, List.set_cons_zero, List.set_cons_succ]
        rw [v6]
        have HB9 := Lib.hid ((HB1.out.trans (HB8.out.mono HB1.out.size)).trans ((show Below w8.heap.size w8 w9 from hg).mono (HB1.out.trans (HB8.out.mono HB1.out.size)).size))
        clear hg hv v6
        go_wp2
        go_ret
        exact ⟨rfl, HB9.out⟩
  · have h2' : (100 : Int) < (n : Int) := by omega
    go_wp2_with fail
    refine (HAW.out _).mono ?_
    rintro e w2 ⟨rfl, hb2⟩
    have HB2 := Lib.hid (HB1.out.trans (hb2.mono HB1.out.size))
    clear hb2
    go_wp2
    go_ret
    exact ⟨rfl, HB2.out⟩
end Go.Proofs.Ytniffijjdehnaaa
