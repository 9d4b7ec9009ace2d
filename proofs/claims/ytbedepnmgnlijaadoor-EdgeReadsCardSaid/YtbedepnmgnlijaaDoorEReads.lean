/- EdgeReads: any text's edges, or the line and the error, are the document's. -/
import Derived.Test.YtbedepnmgnlijaaDoorEdV
namespace Go.Proofs.YtbedepnmgnlijaaDoor
open Go.RowKit Me Tx Ed Go.Shelf Go.Lib Go.ChangeShapes

set_option maxRecDepth 100000 in
set_option maxHeartbeats 1000000 in
theorem edgeReads_walk (A : Option Addr) (n c : Nat) (b : List UInt8) (hb : b.length = n) (hnc : n ≤ c) (hc : c ≤ 9223372036854775807) (w : World) (hr : Rd w w.heap.size A b) (hL : laidMetH Tryd.prog laidL w) :
    Calls Tryd.prog 4 #[.slice A n c] w fun e w' => e = .returned (.bool true) ∧ Below w.heap.size w w' := by
  have HE := Lib.hid (laid_evs hL)
  have HL := Lib.hid hb
  have HR := Lib.hid hr
  have HC := Lib.hid hc
  clear hL hb hr hc
  by_cases h : 3000 < n
  · have h1 : (3000 : Int) < (n : Int) := by omega
    go_enter Tryd.func4, Tryd.ntmps4
    go_wp2_with fail
    refine (awake_any w HE.out).mono ?_
    rintro e w1 ⟨rfl, hb1⟩
    have HB1 := Lib.hid hb1
    clear hb1
    go_wp2
    go_ret
    exact ⟨rfl, HB1.out⟩
  · have h1 : ¬ (3000 : Int) < (n : Int) := by omega
    obtain ⟨⟨es, k, er⟩, hR⟩ : ∃ r, readG 0 [] (linesG [] b) = r := ⟨_, rfl⟩
    have hR2 : readB b = (es, k, er) := by rw [readB_eq (by rw [HL.out]; omega), hR]
    have HR1 := Lib.hid hR
    have HR2 := Lib.hid hR2
    clear hR hR2
    go_enter Tryd.func4, Tryd.ntmps4
    go_wp2_with fail
    refine (read_any A n c b HL.out hnc HC.out w HR.out HE.out).mono ?_
    rw [HR2.out]
    rintro e w1 ⟨A1, c1, rfl, hc1, he1, hb1⟩
    have HB1 := Lib.hid hb1
    have HR3 := Lib.hid ((HR.out.below hb1).more hb1.size)
    have HE1 := Lib.hid he1
    clear hb1 he1
    go_wp2_with fail
    refine (rread_any A n c b HL.out (by omega) w1 HR3.out).mono ?_
    rw [HR1.out]
    rintro e w2 ⟨A2, c2, rfl, hc2, he2, hb2⟩
    have HB2 := Lib.hid (HB1.out.trans (hb2.mono HB1.out.size))
    have HE2 := Lib.hid he2
    have HE3 := Lib.hid ((HE1.out.below hb2).more hb2.size)
    have hlen : es.length ≤ 4294967296 := by
      have := readG_len (linesG [] b) 0 []
      rw [HR1.out] at this
      have h2 := linesG_length b []
      rw [HL.out] at h2
      simp at this; omega
    clear hb2 he2
    go_wp2_with fail
    refine (esame_any A1 A2 es.length c1 c2 es w2 rfl hlen HE3.out HE2.out).mono ?_
    rintro e w3 ⟨rfl, hb3⟩
    have HB3 := Lib.hid (HB2.out.trans (hb3.mono HB2.out.size))
    clear hb3
    go_wp2_with fail
    refine (awake_any w3 (HE.out.below HB3.out)).mono ?_
    rintro e w4 ⟨rfl, hb4⟩
    have HB4 := Lib.hid (HB3.out.trans (hb4.mono HB3.out.size))
    clear hb4
    go_wp2
    go_ret
    exact ⟨rfl, HB4.out⟩

set_option maxRecDepth 100000 in
theorem edgeReads_lifted (os : Os) (started : os.Started) (H : Type) (enc : TypeId × Value → H) :
    ReturnsInHanded {} Tryd.checked os 4 .any (fun w args => (Rows.edgeReadsSpec.pre enc Tryd.prog Tryd.f4 Rows.edgeReadsRow.domain false w args ∧ laidMetH Tryd.prog laidL w) ∧ sizedMet enc Tryd.prog Tryd.f4 (OpenSpec.ofChange Rows.edgeReadsSpec) false w args)
      (Rows.edgeReadsSpec.post enc Tryd.prog Tryd.f4 false true false false) := by
  refine returnsInHanded_of_change_and (C := Tryd.checked) (X := fun w _ => laidMetH Tryd.prog laidL w) (fun _ _ _ hh h => h.of_heap hh) own started (by kernel_rfl) Tryd.func4
    (ChangeSpec.witness_shaped (enc := enc) (C := Tryd.checked) (os := os) (X := fun w _ => laidMetH Tryd.prog laidL w) false (World.laidAll Tryd.prog os laidL) #[.slice none 0 0] 8 (World.laidAll_os _ _ _)
      (laid_shaped os) (by kernel_rfl) (by kernel_rfl) (by kernel_rfl) (laid_world os _)) ?_
  intro W base args ds gs before hval0 hW hc _ hL _
  have hval : ∀ (j : Nat) t v, Tryd.f4.params[j]? = some t → args[j]? = some v → Value.okWide Tryd.prog W .any base t v := hval0
  have hW' := hW
  obtain ⟨p, q, hA0, hV, rfl, _, _⟩ := hW
  have hA : DataW.TrodAll enc Tryd.prog W 0 (fun _ => true) true Tryd.f4.params.toList args.toList ds p := hA0
  rw [Tryd.params4] at hA hval
  obtain ⟨v0, d0, rfl, rfl, h0⟩ := trodAll_one hA
  obtain ⟨A0, n0, c0, l0, rfl, hl0, hn0, hc0, hr0⟩ := open_bytes Tryd.underlying32 Tryd.underlying5 cells_u8 (hval 0 32 v0 rfl rfl) h0
  refine (edgeReads_walk A0 n0 c0 l0 hl0 hn0 hc0 W hr0 hL).mono fun e W' ⟨he, hb⟩ => ?_
  subst he
  exact ⟨_, rfl, Lw.post_true laidOut (by kernel_rfl) rfl rfl rfl rfl (by kernel_rfl) Tryd.underlying4 hW' hb⟩
set_option maxRecDepth 100000 in
theorem edgeReads_row : Rows.EdgeReadsSaid :=
  OpenClaim.holds_of_wide 4 Tryd.f4 rfl rfl rfl rfl rfl rfl rfl ⟨rfl, rfl, rfl, rfl, rfl⟩ rfl rfl rfl rfl rfl (by kernel_rfl) Tryd.func4 (by kernel_rfl)
    (of_decide_eq_true (by kernel_rfl)) (by unfold Func.isWrapper; first | (rw [if_pos (by decide +kernel)]; kernel_rfl) | (rw [if_neg (by decide +kernel)]; exact ⟨rfl, rfl⟩))
    (fun os started H enc _ => edgeReads_lifted os started H enc)
set_option maxRecDepth 100000 in
theorem edgeReads_holds : Rows.EdgeReadsCardSaid :=
  Claim7.holds_tied_plain_at .later [] [.data, .data, .data, .sentinel, .sentinel, .data, .data] true (true, "183fa1ae3bdabf8da4eedaa81e1dc8a6204b53098dcb5e3e5ab955ffde1bbcfc") true edgeReads_row (fun _ h => by cases h) (by kernel_rfl) (fun _ h => by cases h) edgeReads_row_tie rfl ⟨rfl, rfl⟩ (by kernel_rfl) rfl
    (fun f fn hf hfn => by
      obtain rfl : f = 4 := Option.some.inj ((show Tryd.prog.funcNamed "palmer/palmerlaw12.EdgeReads" = some 4 by kernel_rfl).symm.trans hf) |>.symm
      obtain rfl : fn = Tryd.f4 := (Option.some.inj (Tryd.func4.symm.trans hfn)).symm
      exact ⟨by kernel_rfl, fun j t ht => by
        rw [Tryd.params4] at ht
        have hm : t ∈ [32] := by simpa using Array.mem_of_getElem? ht
        have hall : ([32].all fun u => !Tryd.prog.wantsStandIn u) = true := by kernel_rfl
        exact (show Tryd.prog.wantsStandIn t = false by simpa using List.all_eq_true.1 hall t hm)⟩)
    (by kernel_rfl)
#print axioms edgeReads_holds
end Go.Proofs.YtbedepnmgnlijaaDoor
