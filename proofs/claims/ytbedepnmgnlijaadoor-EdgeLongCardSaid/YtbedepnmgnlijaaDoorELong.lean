/- EdgeLong: a text of one byte more than may be isn't read. -/
import Derived.Test.YtbedepnmgnlijaaDoorEdV
namespace Go.Proofs.YtbedepnmgnlijaaDoor
open Go.RowKit Me Tx Ed Go.Shelf Go.Lib Go.ChangeShapes

/-- What stands between the rounds. -/
structure LngI (w wr : World) : Prop where
  o : ∃ l : List UInt8, l.length = 1048577 ∧ wr.ownsRow w.heap.size 5 1 (.slice (some ⟨w.heap.size, 0, none⟩) 1048577 1048577) 1048577 (cellsOf l)
  b : Below w.heap.size w wr

set_option maxRecDepth 100000 in
set_option maxHeartbeats 1000000 in
theorem edgeLong_walk (x : Nat) (hx : x < 256) (w : World) (hL : laidMetH Tryd.prog laidL w) :
    Calls Tryd.prog 8 #[.int .u8 (x : Int)] w fun e w' => e = .returned (.bool true) ∧ Below w.heap.size w w' := by
  obtain ⟨i0, hi0, hz0, hz1, hz2⟩ := info_parts u8_info
  have HE := Lib.hid (laid_evs hL)
  obtain ⟨u, hu⟩ : ∃ u : UInt8, u.toNat = x := ⟨UInt8.ofNat x, by rw [UInt8.toNat_ofNat']; omega⟩
  subst hu
  clear hL hx
  go_enter Tryd.func8, Tryd.ntmps8
  go_wp2_with (at_make
               refine wpList_make_full w rfl _ _ 32 rfl w.heap.size 5 i0 _ 1 Tryd.underlying32 hi0 hz0 hz1 .i64 .i64 _ _ 1048577 rfl rfl rfl rfl (by rw [hz2]; omega) (by unfold maxLen; omega) (Nat.le_refl _) ?_
               intro w1 ho1 hg1
               rw [made_zero] at ho1
               have hb1 := (Below.refl w.heap.size w).grown hg1 (Nat.le_refl _) (by simp)
               have HI := Lib.hid (show LngI w w1 from ⟨⟨_, List.length_replicate .., ho1⟩, hb1⟩)
               clear ho1 hg1 hb1)
  go_loopw [4] (fun i wr => ∃ k : Nat, i = .int .i64 (k : Int) ∧ k ≤ 10 ∧ Hid (LngI w wr)) (fun i _ => (10 - intOf i).toNat)
  case atStart => exact ⟨0, rfl, Nat.zero_le _, HI⟩
  case round =>
    clear HI
    obtain ⟨k, rfl, hk, HI⟩ := hrel
    obtain ⟨l, hl, ho⟩ := HI.out.o
    by_cases hkn : k < 10
    · obtain ⟨u0, -, hcu, hfu⟩ := own_at ho (j := k) (by omega)
      have hset := own_set ho k u
      have HI2 := Lib.hid (show LngI w (wr.setCell ⟨w.heap.size, k, none⟩ (.int .u8 (u.toNat : Int))) from ⟨⟨_, by simpa using hl, hset.1⟩, HI.out.b.grown hset.2 HI.out.b.size (fun g e => by injection e with e; subst e; exact Nat.le_refl _)⟩)
      have ew : wrap64 ((k : Int) + 1) = (k : Int) + 1 := by unfold wrap64; omega
      have k1 : (k : Int) < 10 := by omega
      have k2 : (k : Int) < 1048577 := by omega
      clear hl ho hset HI hkn
      go_wp2
      go_roundw
      case rel => exact ⟨k + 1, by first | rfl | (congr 1), by omega, HI2⟩
      case measure => simp [intOf]; omega
    · have k1 : ¬ (k : Int) < 10 := by omega
      have HR := Lib.hid (show Rd wr wr.heap.size (some ⟨w.heap.size, 0, none⟩) l from Rd.of_own ho)
      have HB := Lib.hid HI.out.b
      have HL := Lib.hid hl
      have HX := Lib.hid (show readB l = ([], 0, 4) from readB_long (by rw [hl]; omega))
      clear hl ho HI
      go_wp2_with fail
      refine (read_any (some ⟨w.heap.size, 0, none⟩) 1048577 1048577 l HL.out (Nat.le_refl _) (by omega) wr HR.out (HE.out.below HB.out)).mono ?_
      rw [HX.out]
      rintro e w1 ⟨A1, c1, rfl, hc1, he1, hb1⟩
      have HB1 := Lib.hid (HB.out.trans (hb1.mono HB.out.size))
      simp only [List.length_nil]
      clear hb1 he1 hc1
      go_wp2_with fail
      refine (awake_any w1 (HE.out.below HB1.out)).mono ?_
      rintro e w2 ⟨rfl, hb2⟩
      have HB2 := Lib.hid (HB1.out.trans (hb2.mono HB1.out.size))
      clear hb2
      go_wp2
      go_ret
      exact ⟨rfl, HB2.out⟩

set_option maxRecDepth 100000 in
theorem edgeLong_lifted (os : Os) (started : os.Started) (H : Type) (enc : TypeId × Value → H) :
    ReturnsInHanded {} Tryd.checked os 8 .any (fun w args => (Rows.edgeLongSpec.pre enc Tryd.prog Tryd.f8 Rows.edgeLongRow.domain false w args ∧ laidMetH Tryd.prog laidL w) ∧ sizedMet enc Tryd.prog Tryd.f8 (OpenSpec.ofChange Rows.edgeLongSpec) false w args)
      (Rows.edgeLongSpec.post enc Tryd.prog Tryd.f8 false true false false) := by
  refine returnsInHanded_of_change_and (C := Tryd.checked) (X := fun w _ => laidMetH Tryd.prog laidL w) (fun _ _ _ hh h => h.of_heap hh) own started (by kernel_rfl) Tryd.func8
    (ChangeSpec.witness_shaped (enc := enc) (C := Tryd.checked) (os := os) (X := fun w _ => laidMetH Tryd.prog laidL w) false (World.laidAll Tryd.prog os laidL) #[.int .u8 0] 8 (World.laidAll_os _ _ _)
      (laid_shaped os) (by kernel_rfl) (by kernel_rfl) (by kernel_rfl) (laid_world os _)) ?_
  intro W base args ds gs before hval0 hW hc _ hL _
  have hval : ∀ (j : Nat) t v, Tryd.f8.params[j]? = some t → args[j]? = some v → Value.okWide Tryd.prog W .any base t v := hval0
  have hW' := hW
  obtain ⟨p, q, hA0, hV, rfl, _, _⟩ := hW
  have hA : DataW.TrodAll enc Tryd.prog W 0 (fun _ => true) true Tryd.f8.params.toList args.toList ds p := hA0
  rw [Tryd.params8] at hA hval
  obtain ⟨v0, d0, rfl, rfl, h0⟩ := trodAll_one hA
  obtain ⟨z0, rfl, -, -, w0⟩ := open_int Tryd.underlying5 (hval 0 5 v0 rfl rfl) h0
  have hz0 : 0 ≤ z0 ∧ z0 < 256 := by simp [Lit.wf, IntKind.min, IntKind.max, IntKind.bits, IntKind.signed] at w0; omega
  obtain ⟨x0, rfl⟩ : ∃ m : Nat, z0 = (m : Int) := ⟨z0.toNat, by omega⟩
  refine (edgeLong_walk x0 (by omega) W  hL).mono fun e W' ⟨he, hb⟩ => ?_
  subst he
  exact ⟨_, rfl, Lw.post_true laidOut (by kernel_rfl) rfl rfl rfl rfl (by kernel_rfl) Tryd.underlying4 hW' hb⟩
set_option maxRecDepth 100000 in
theorem edgeLong_row : Rows.EdgeLongSaid :=
  OpenClaim.holds_of_wide 8 Tryd.f8 rfl rfl rfl rfl rfl rfl rfl ⟨rfl, rfl, rfl, rfl, rfl⟩ rfl rfl rfl rfl rfl (by kernel_rfl) Tryd.func8 (by kernel_rfl)
    (of_decide_eq_true (by kernel_rfl)) (by unfold Func.isWrapper; first | (rw [if_pos (by decide +kernel)]; kernel_rfl) | (rw [if_neg (by decide +kernel)]; exact ⟨rfl, rfl⟩))
    (fun os started H enc _ => edgeLong_lifted os started H enc)
set_option maxRecDepth 100000 in
theorem edgeLong_holds : Rows.EdgeLongCardSaid :=
  Claim7.holds_tied_plain_at .later [] [.data, .data, .data, .sentinel, .sentinel, .data, .data] true (true, "183fa1ae3bdabf8da4eedaa81e1dc8a6204b53098dcb5e3e5ab955ffde1bbcfc") true edgeLong_row (fun _ h => by cases h) (by kernel_rfl) (fun _ h => by cases h) edgeLong_row_tie rfl ⟨rfl, rfl⟩ (by kernel_rfl) rfl
    (fun f fn hf hfn => by
      obtain rfl : f = 8 := Option.some.inj ((show Tryd.prog.funcNamed "palmer/palmerlaw12.EdgeLong" = some 8 by kernel_rfl).symm.trans hf) |>.symm
      obtain rfl : fn = Tryd.f8 := (Option.some.inj (Tryd.func8.symm.trans hfn)).symm
      exact ⟨by kernel_rfl, fun j t ht => by
        rw [Tryd.params8] at ht
        have hm : t ∈ [5] := by simpa using Array.mem_of_getElem? ht
        have hall : ([5].all fun u => !Tryd.prog.wantsStandIn u) = true := by kernel_rfl
        exact (show Tryd.prog.wantsStandIn t = false by simpa using List.all_eq_true.1 hall t hm)⟩)
    (by kernel_rfl)
#print axioms edgeLong_holds
end Go.Proofs.YtbedepnmgnlijaaDoor
