/- FrameLong is proved: a Body of as many bytes as may be is put, and read; of one more it isn't put; a head that tells of one more isn't read; for every input, no conditions. -/
import Derived.Test.YtinalnjekbfifaaFTurned
namespace Go.Proofs.Ytinalnjekbfifaa
open Go.RowKit Cr Me Fr

/-- A head that tells of more than may be. -/
theorem getS_over (k : UInt8) (n : Nat) (l : List UInt8) (h1 : 1048576 < n) (h2 : n < 4294967296) : getS (Cr.mark (head k n) ++ l) = (noSec, 0, 4) := by
  have hl : (Cr.mark (head k n)).length = 9 := by rw [mark_length, head_length]
  have t9 : (Cr.mark (head k n) ++ l).take 9 = Cr.mark (head k n) := by rw [← hl, List.take_left]
  have t5 : (Cr.mark (head k n) ++ l).take 5 = head k n := by
    have : (Cr.mark (head k n) ++ l).take 5 = ((Cr.mark (head k n) ++ l).take 9).take 5 := by rw [List.take_take]; rfl
    rw [this, t9]; unfold Cr.mark; rw [show (5 : Nat) = (head k n).length from rfl, List.take_left]
  exact getS_long (n := n) (by rw [List.length_append, hl]; omega) (by rw [t9]; exact fitB_mark _) (by rw [t5, lenOf_head _ h2]) h1
/-- So many bytes, of which the sixth is y. -/
theorem some_body (N : Nat) (y : UInt8) (hN : 5 < N) : ∃ l : List UInt8, l.length = N ∧ l[5]? = some y ∧ (List.replicate N (0 : UInt8)).set 5 y = l :=
  ⟨_, by simp, by rw [List.getElem?_set]; simp [hN], rfl⟩
set_option maxRecDepth 100000 in
set_option maxHeartbeats 2000000 in
theorem flong_more (k y : UInt8) (w : World) :
    Calls Try.prog 6 #[.int .u8 (k.toNat : Int), .int .u8 (y.toNat : Int), .bool true] w fun e w' => e = .returned (.bool true) ∧ Below w.heap.size w w' := by
  obtain ⟨i0, hi0, hz0, hz1, hz2⟩ := info_parts u8_info
  have hk8 := k.toNat_lt
  have hy8 := y.toNat_lt
  obtain ⟨l, hl, h5, hset⟩ := some_body 1048577 y (by omega)
  have HL := Lib.hid hl
  have H5 := Lib.hid h5
  have HSET := Lib.hid hset
  clear hl h5 hset
  go_enter Try.func6, Try.ntmps6
  go_wp2_with (at_make
               refine wpList_make_full w rfl _ _ 25 rfl w.heap.size 5 i0 _ 1 Try.underlying25 hi0 hz0 hz1 .i64 .i64 _ _ 1048577 rfl rfl rfl rfl (by rw [hz2]; omega) (by unfold maxLen; omega) (Nat.le_refl _) ?_
               intro w1 ho1 hg1
               rw [made_zero] at ho1
               have hb1 := (Below.refl w.heap.size w).grown hg1 (Nat.le_refl _) (by simp)
               obtain ⟨u, -, hcu, hfu⟩ := own_at ho1 (j := 5) (by omega)
               have hset := own_set ho1 5 y
               rw [HSET.out] at hset
               have HO2 := Lib.hid hset.1
               have HB2 := Lib.hid (hb1.grown hset.2 hb1.size (fun g e => by injection e with e; subst e; exact (ho1.lt _ rfl).1))
               clear ho1 hg1 hb1 hset)
  generalize hw2 : w1.setCell ⟨w.heap.size, 5, none⟩ (.int .u8 (y.toNat : Int)) = w2 at *
  have hs2 : w2.heap.size = w1.heap.size := by rw [← hw2]; simp [World.setCell]
  have HR3 := Lib.hid (rd_lit (w := w2) (l := [1]) #[.int .u8 1] 5 rfl hs2)
  have HB3 := Lib.hid (HB2.out.alloc HB2.out.size (.cells #[.int .u8 1] 5))
  have HO3 := Lib.hid (HO2.out.alloc (.cells #[.int .u8 1] 5))
  clear hw2 hs2 hcu hfu HSET HO2 HB2 H5
  generalize w2.alloc (.cells #[.int .u8 1] 5) = w3 at *
  refine (fput_long (some ⟨w1.heap.size, 0, none⟩) 1 1 [1] k (some ⟨w.heap.size, 0, none⟩) 1048577 1048577 w3 rfl (by omega) HR3.out (by omega)).mono ?_
  intro e w4 h
  obtain ⟨A4, q, c4, rfl, hl4, -, -, -, hb4⟩ := h.open
  have hq : q = 1 := hl4.symm
  subst hq
  have HB4 := Lib.hid (HB3.out.trans (hb4.mono HB3.out.size))
  have HR4 := Lib.hid (Rd.of_own (own_below HO3.out hb4))
  clear h hl4 hb4 HR3 HO3
  have HB5 := Lib.hid (show Below w4.heap.size w4 (w4.alloc (.cells #[.int .u8 (k.toNat : Int)] 5)) from (Below.refl _ _).alloc (Nat.le_refl _) _)
  have HO5 := Lib.hid (World.ownsRow_lit (base := w4.heap.size) (e := 5) (size := 1) w4 #[.int .u8 (k.toNat : Int)] 1 (Nat.le_refl _) (by unfold maxLen; omega) rfl)
  go_wp2_with fail
  generalize w4.alloc (.cells #[.int .u8 (k.toNat : Int)] 5) = w5 at *
  refine (ref_four_any (1048577#32) w5).mono ?_
  rintro e w6 ⟨rfl, hr6, hb6⟩
  have HR6 := Lib.hid hr6
  have HB6 := Lib.hid (HB5.out.trans (hb6.mono HB5.out.size))
  have HO6 := Lib.hid (show w6.ownsRow w4.heap.size 5 1 (.slice (some ⟨w4.heap.size, 0, none⟩) 1 1) 1 (cellsOf [k]) from own_below HO5.out hb6)
  clear hr6 hb6 HO5
  go_wp2_with (at_builtin
               refine wpList_app rfl (.tmp 36) (.tmp 39) 25 rfl w4.heap.size 5 i0 _ Try.underlying25 hi0 hz0 hz1 hz2 rfl (.slice (some ⟨w4.heap.size, 0, none⟩) 1 1) 1 [k] rfl HO6.out w6.heap.size _ 4 4 (four (1048577#32)) rfl rfl HR6.out (by omega) HB6.out.size ?_
               intro v7 w7 hown7 hg7 _
               have HB7 := Lib.hid (below_app HB6.out HO6.out (Nat.le_refl _) HB6.out.size hg7)
               have HO7 := Lib.hid hown7
               clear hown7 hg7)
  obtain ⟨A7, c7, rfl⟩ := own_slice HO7.out
  refine (ref_mark_any A7 5 c7 (head k 1048577) w7 rfl (by omega) (Rd.of_own (l := head k 1048577) HO7.out)).mono ?_
  rintro e w8 ⟨v8, rfl, ho8, hb8⟩
  have HB8 := Lib.hid (HB7.out.trans (hb8.mono HB7.out.size))
  have HO8 := Lib.hid (own_more ho8 HB7.out.size)
  clear ho8 hb8
  go_wp2_with (at_builtin
               refine wpList_app rfl (.tmp 41) (.tmp 42) 25 rfl w4.heap.size 5 i0 _ Try.underlying25 hi0 hz0 hz1 hz2 rfl v8 9 (Cr.mark (head k 1048577)) rfl HO8.out w4.heap.size _ 1048577 1048577 l rfl HL.out (HR4.out.below HB8.out) (by omega) HB8.out.size ?_
               intro v9 w9 hown9 hg9 _
               have HB9 := Lib.hid (HB4.out.trans ((below_app HB8.out HO8.out (Nat.le_refl _) HB8.out.size hg9).mono HB4.out.size))
               have HO9 := Lib.hid hown9
               clear hown9 hg9)
  obtain ⟨A9, c9, rfl⟩ := own_slice HO9.out
  obtain ⟨hc9, hc963⟩ := own_bounds HO9.out
  refine (fget_any A9 (9 + 1048577) c9 _ w9 (by rw [List.length_append, mark_length, head_length, HL.out]) hc9 hc963 (Rd.of_own HO9.out)).mono ?_
  rw [getS_over k 1048577 l (by omega) (by omega)]
  rintro e w10 ⟨hb10, Y, m6, dd, rfl, hm6, -, -, -⟩
  have em : m6 = 0 := by have h1 : ([] : List UInt8).length = m6 := hm6; exact h1.symm
  subst em
  have HB10 := Lib.hid (HB9.out.trans (Below.mono hb10 HB9.out.size))
  clear hb10 hm6
  have HB11 := Lib.hid (HB10.out.alloc HB10.out.size (.cells #[.int .u8 (noSec.kind.toNat : Int), .slice Y 0 dd] 30))
  obtain ⟨r0, r1, -, -⟩ := Two.new w10 (.int .u8 (noSec.kind.toNat : Int)) (.slice Y 0 dd) 30
  go_wp2_with (go_at_call 8; refine (awake_any _).mono ?_; rintro e w12 ⟨rfl, hb12⟩; have HB12 := Lib.hid (HB11.out.trans (hb12.mono HB11.out.size)); clear hb12)
  go_ret
  exact ⟨rfl, HB12.out⟩
set_option maxRecDepth 100000 in
set_option maxHeartbeats 2000000 in
theorem flong_just (k y : UInt8) (w : World) :
    Calls Try.prog 6 #[.int .u8 (k.toNat : Int), .int .u8 (y.toNat : Int), .bool false] w fun e w' => e = .returned (.bool true) ∧ Below w.heap.size w w' := by
  obtain ⟨i0, hi0, hz0, hz1, hz2⟩ := info_parts u8_info
  have hk8 := k.toNat_lt
  have hy8 := y.toNat_lt
  obtain ⟨l, hl, h5, hset⟩ := some_body 1048576 y (by omega)
  have HL := Lib.hid hl
  have H5 := Lib.hid h5
  have HSET := Lib.hid hset
  clear hl h5 hset
  go_enter Try.func6, Try.ntmps6
  go_wp2_with (at_make
               refine wpList_make_full w rfl _ _ 25 rfl w.heap.size 5 i0 _ 1 Try.underlying25 hi0 hz0 hz1 .i64 .i64 _ _ 1048576 rfl rfl rfl rfl (by rw [hz2]; omega) (by unfold maxLen; omega) (Nat.le_refl _) ?_
               intro w1 ho1 hg1
               rw [made_zero] at ho1
               have hb1 := (Below.refl w.heap.size w).grown hg1 (Nat.le_refl _) (by simp)
               obtain ⟨u, -, hcu, hfu⟩ := own_at ho1 (j := 5) (by omega)
               have hset := own_set ho1 5 y
               rw [HSET.out] at hset
               have HO2 := Lib.hid hset.1
               have HB2 := Lib.hid (hb1.grown hset.2 hb1.size (fun g e => by injection e with e; subst e; exact (ho1.lt _ rfl).1))
               clear ho1 hg1 hb1 hset)
  generalize hw2 : w1.setCell ⟨w.heap.size, 5, none⟩ (.int .u8 (y.toNat : Int)) = w2 at *
  have hs2 : w2.heap.size = w1.heap.size := by rw [← hw2]; simp [World.setCell]
  have HR3 := Lib.hid (rd_lit (w := w2) (l := [1]) #[.int .u8 1] 5 rfl hs2)
  have HB3 := Lib.hid (HB2.out.alloc HB2.out.size (.cells #[.int .u8 1] 5))
  have HO3 := Lib.hid (HO2.out.alloc (.cells #[.int .u8 1] 5))
  clear hw2 hs2 hcu hfu HSET HO2 HB2
  generalize w2.alloc (.cells #[.int .u8 1] 5) = w3 at *
  refine (fput_good (some ⟨w1.heap.size, 0, none⟩) 1 1 [1] (some ⟨w.heap.size, 0, none⟩) 1048576 1048576 ⟨k, l⟩ w3 rfl (by omega) HR3.out HL.out (by omega) (Rd.of_own HO3.out)).mono ?_
  intro e w4 h
  obtain ⟨A4, q, c4, rfl, hl4, hc4, ho4, -, hb4⟩ := h.open
  have HE := Lib.hid (show (encS ⟨k, l⟩).length = 1048589 by rw [encS_length]; show l.length + 13 = _; rw [HL.out])
  have hq : q = 1048590 := by rw [← hl4, List.length_append, HE.out]; rfl
  subst hq
  have HB4 := Lib.hid (HB3.out.trans (hb4.mono HB3.out.size))
  obtain ⟨g, cap, hA, -, -⟩ := ho4.form (by omega)
  injection hA with hA _ hcc
  subst hA hcc
  have hcc63 := (own_bounds ho4).2
  have HR4 := Lib.hid (show Rd w4 w4.heap.size (some ⟨g, 1, none⟩) (encS ⟨k, l⟩) from by
    have := (Rd.of_own ho4).drop (k := 1) (cap := c4) (by rw [hl4]; exact hc4)
    rw [if_neg (by omega)] at this
    exact this)
  have q1 : (1048590 : Int) ≤ (c4 : Int) := by omega
  have hc1 : ¬ c4 = 1 := by omega
  clear h hl4 ho4 hb4 HR3 HO3
  go_wp2_with fail
  have hget : getS (encS ⟨k, l⟩) = (⟨k, l⟩, 1048589, 0) := by
    have h := getS_enc ⟨k, l⟩ [] (by show l.length ≤ _; rw [HL.out]; omega)
    rw [List.append_nil] at h
    rw [h]
    show ((⟨k, l⟩ : SecD), l.length + 13, (0 : Int)) = _
    rw [HL.out]
  refine (fget_any (some ⟨g, 1, none⟩) 1048589 (c4 - 1) (encS ⟨k, l⟩) w4 HE.out (by omega) (by omega) HR4.out).mono ?_
  rw [hget]
  rintro e w6 ⟨hb6, Y, m6, dd, rfl, hm6, -, hr6, -⟩
  have em : m6 = 1048576 := by have h1 : l.length = m6 := hm6; rw [HL.out] at h1; exact h1.symm
  subst em
  have HB6 := Lib.hid (HB4.out.trans (Below.mono hb6 HB4.out.size))
  obtain ⟨a, u5, hY, -, hu5, hc5⟩ := (show Rd w6 w6.heap.size Y l from hr6).at (k := 5) (by rw [HL.out]; omega)
  subst hY
  rw [H5.out] at hu5
  injection hu5 with hu5
  subst hu5
  have c5 : (w6.alloc (.cells #[.int .u8 (k.toNat : Int), .slice (some a) 1048576 dd] 30)).cell? ⟨a.block, a.off + 5, none⟩ = some (.int .u8 (y.toNat : Int)) := (World.cell?_alloc_lt _ _ _ (block_lt_of_cell hc5)).trans hc5
  clear hb6 hm6 hr6 hget
  have HB7 := Lib.hid (HB6.out.alloc HB6.out.size (.cells #[.int .u8 (k.toNat : Int), .slice (some a) 1048576 dd] 30))
  obtain ⟨r0, r1, -, -⟩ := Two.new w6 (.int .u8 (k.toNat : Int)) (.slice (some a) 1048576 dd) 30
  go_wp2_with (go_at_call 8; refine (awake_any _).mono ?_; rintro e w8 ⟨rfl, hb8⟩; have HB8 := Lib.hid (HB7.out.trans (hb8.mono HB7.out.size)); clear hb8)
  go_ret
  exact ⟨rfl, HB8.out⟩
open Go.ChangeShapes Go.WideShapes Go.ChangeAt Go.Joins
set_option maxRecDepth 100000 in
theorem frameLong_lifted (os : Os) (started : os.Started) (H : Type) (enc : TypeId × Value → H) :
    ReturnsInHanded {} Try.checked os 6 .any (Rows.frameLongSpec.pre6 enc Try.prog Try.f6 Rows.frameLongRow.domain false) (Rows.frameLongSpec.post enc Try.prog Try.f6 false true false false) := by
  refine returnsInHanded_of_change (C := Try.checked) own started (by kernel_rfl) Try.func6
    (ChangeSpec.witness6 (enc := enc) (C := Try.checked) false ⟨#[], #[.int .u8 0, .int .u8 0, .bool false], []⟩ 8 (by kernel_rfl) (by kernel_rfl) (by kernel_rfl) (by kernel_rfl)) ?_
  intro W base args ds gs before hval0 hW hcnd _
  have hval : ∀ (j : Nat) t v, Try.f6.params[j]? = some t → args[j]? = some v → Value.okWide Try.prog W .any base t v := hval0
  have hW' := hW
  obtain ⟨p, q, hA0, hV, rfl, hfz, hnd⟩ := hW
  have hA : DataW.TrodAll enc Try.prog W 0 (fun _ => true) true Try.f6.params.toList args.toList ds p := hA0
  rw [Try.params6] at hA hval
  obtain ⟨v0, v1, v2, d0, d1, d2, p0, p1, p2, rfl, rfl, rfl, h0, h1, h2⟩ := trodAll_three hA
  obtain ⟨x, rfl, -, -, wx⟩ := open_int Try.underlying5 (hval 0 5 v0 rfl rfl) h0
  have hx : 0 ≤ x ∧ x < 256 := by simp [Lit.wf, IntKind.min, IntKind.max, IntKind.bits, IntKind.signed] at wx; omega
  have hx8 : x = ((UInt8.ofNat x.toNat).toNat : Int) := by rw [UInt8.toNat_ofNat']; omega
  obtain ⟨y, rfl, -, -, wy⟩ := open_int Try.underlying5 (hval 1 5 v1 rfl rfl) h1
  have hy : 0 ≤ y ∧ y < 256 := by simp [Lit.wf, IntKind.min, IntKind.max, IntKind.bits, IntKind.signed] at wy; omega
  have hy8 : y = ((UInt8.ofNat y.toNat).toNat : Int) := by rw [UInt8.toNat_ofNat']; omega
  obtain ⟨g, rfl, -, -⟩ := open_bool Try.underlying4 (hval 2 4 v2 rfl rfl) h2
  have hwalk : Calls Try.prog 6 #[.int .u8 x, .int .u8 y, .bool g] W fun e w' => e = .returned (.bool true) ∧ Below W.heap.size W w' := by
    rw [hx8, hy8]
    cases g with
    | true => exact flong_more _ _ W
    | false => exact flong_just _ _ W
  refine hwalk.mono fun e W' ⟨he, hb⟩ => ?_
  subst he
  exact ⟨_, rfl, Lw.post_true laidOut (by kernel_rfl) rfl rfl rfl rfl (by kernel_rfl) Try.underlying4 hW' hb⟩

/-- FrameLong: a Body of as many bytes as may be is put, and read; of one more it isn't put; a head that tells of one more isn't read. -/
theorem frameLong_holds : Rows.FrameLongSaid :=
  OpenClaim.holds_of_wide 6 Try.f6 rfl rfl rfl rfl rfl rfl rfl ⟨rfl, rfl, rfl, rfl, rfl⟩ rfl rfl rfl rfl rfl (by kernel_rfl) Try.func6 (by kernel_rfl)
    (of_decide_eq_true (by kernel_rfl)) (by unfold Func.isWrapper; rw [if_neg (of_decide_eq_false (by kernel_rfl))]; exact ⟨rfl, rfl⟩)
    (fun os started H enc _ => frameLong_lifted os started H enc)
#print axioms frameLong_holds
end Go.Proofs.Ytinalnjekbfifaa
