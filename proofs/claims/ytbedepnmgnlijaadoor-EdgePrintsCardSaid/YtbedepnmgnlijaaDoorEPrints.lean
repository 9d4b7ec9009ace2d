/- EdgePrints: any edges' text is the document's; where their Weights may be they are read. -/
import Derived.Test.YtbedepnmgnlijaaDoorEdV
import Derived.Test.YtbedepnmgnlijaaDoorEdI
import Derived.RegionTactic
namespace Go.Proofs.YtbedepnmgnlijaaDoor
open Go.RowKit Me Tx Ed Go.Shelf Go.Lib Go.ChangeShapes

/-- What is known of each slot of the region that compares. -/
def prG (A1 : Option Addr) (n1 c1 : Nat) (A : Option Addr) (n c : Nat) (t : List UInt8) : Gw.Fact := fun s v W =>
  match s with
  | 3 | 13 => v = .slice A1 n1 c1
  | 0 | 15 => v = .slice A n c
  | 14 | 17 => v = sv t
  | 16 => ∃ X d, v = .slice X n1 d ∧ Rd W W.heap.size X t
  | 18 => v = .bool false
  | _ => True
/-- What is read of edges' text. -/
theorem read_printed {es : List EdD} (hf : ∀ e ∈ es, Fits e) (hl : es.length ≤ 300) :
    (es.all mayB = true → readB (printS es) = (es, 0, 0)) ∧ (es.all mayB = false → ∃ k, readB (printS es) = ([], k, 9) ∧ 0 < k ∧ k ≤ es.length) := by
  have h1 := printS_length hf
  rw [readB_eq' (by omega) (by rw [lines_print, List.length_map]; omega), lines_print]
  have h2 := read_print es hf 0 []
  refine ⟨fun h => by rw [h2.1 h]; rfl, fun h => ?_⟩
  obtain ⟨k, hk, h3, h4⟩ := h2.2 h
  exact ⟨k, hk, h3, by omega⟩
set_option maxRecDepth 100000 in
set_option maxHeartbeats 1000000 in
theorem edgePrints_walk (A : Option Addr) (n c : Nat) (es : List EdD) (hl : es.length = n) (hnc : n ≤ c) (hc : c ≤ 9223372036854775807) (w : World) (h : Eds w w.heap.size A es) (hL : laidMetH Tryd.prog laidL w) :
    Calls Tryd.prog 5 #[.slice A n c] w fun e w' => e = .returned (.bool true) ∧ Below w.heap.size w w' := by
  have HE := Lib.hid (laid_evs hL)
  have HL := Lib.hid hl
  have HA := Lib.hid h
  clear hL hl h hc
  by_cases h : 300 < n
  · have h1 : (300 : Int) < (n : Int) := by omega
    go_enter Tryd.func5, Tryd.ntmps5
    go_wp2_with fail
    refine (awake_any w HE.out).mono ?_
    rintro e w1 ⟨rfl, hb1⟩
    have HB1 := Lib.hid hb1
    clear hb1
    go_wp2
    go_ret
    exact ⟨rfl, HB1.out⟩
  · have h1 : ¬ (300 : Int) < (n : Int) := by omega
    have hrp := read_printed HA.out.2 (by rw [HL.out]; omega)
    obtain ⟨t, ht⟩ : ∃ t, t = printS es := ⟨_, rfl⟩
    obtain ⟨mb, hmb⟩ : ∃ mb, mb = es.all mayB := ⟨_, rfl⟩
    rw [← ht, ← hmb] at hrp
    have HRP := Lib.hid hrp
    have HT := Lib.hid ht
    have HMB := Lib.hid hmb
    clear hrp ht hmb
    go_enter Tryd.func5, Tryd.ntmps5
    go_wp2_with fail
    refine (print_any A n c es HL.out (by omega) w HA.out HE.out.t).mono ?_
    rw [← HT.out]
    intro e w1 hn1
    obtain ⟨A1, n1, c1, rfl, hl1, hc1, ho1, hr1, hb1⟩ := hn1.open
    have hcc := (own_bounds ho1).2
    have HL1 := Lib.hid hl1
    have HR1 := Lib.hid hr1
    have HB1 := Lib.hid hb1
    have HA1 := Lib.hid ((HA.out.below hb1).more hb1.size)
    clear hn1 hl1 ho1 hr1 hb1
    go_wp2_with fail
    refine Gw.wp_region_grow (prG A1 n1 c1 A n c t) [13, 14, 15, 16, 17, 18] [([3], none), ([13], none), ([0], none), ([15], none), ([16], none), ([14, 17], none)] 62 (by kernel_rfl) (by kernel_rfl) rfl ?h0 ?hreq ?hend
    case h0 =>
      intro t W hnd _
      unfold prG
      split <;> first | rfl | trivial | exact absurd (by simp) hnd
    case hreq =>
      refine ⟨?_, ?_, ?_, ?_, ?_, ?_, trivial⟩
      all_goals
        intro ac W hg hk
        have hbg : Below w1.heap.size w1 W := hg
        have e1 := str_any A1 n1 c1 t W _ HL1.out ((HR1.out.below hbg).more hbg.size)
        simp only [Gw.Knows, prG] at hk
        try (simp [go_sem, Gw.OpReq, Gw.Ok, Gw.Post, Gw.Holds, prG, Gw.Grows.refl, hk, e1]; done)
      · simp [go_sem, Gw.OpReq, Gw.Ok, Gw.Post, Gw.Holds, prG, Gw.Grows.refl, hk]
        refine (rprint_any A n c es HL.out (by omega) W ((HA1.out.below hbg).more hbg.size)).mono ?_
        rw [← HT.out]
        intro e w5 h5
        obtain ⟨X, n5, c5, rfl, hl5, -, -, hr5, hb5⟩ := h5.open
        have e5 : n5 = n1 := hl5.symm.trans HL1.out
        subst e5
        exact ⟨_, rfl, hb5, fun W2 hW2 => ⟨X, ⟨c5, rfl⟩, (hr5.below hW2).more (Below.size hW2)⟩⟩
      · obtain ⟨⟨X, d, he, hrx⟩, -⟩ := hk
        have e2 := str_any X n1 d t W _ HL1.out hrx
        simp [go_sem, Gw.OpReq, Gw.Ok, Gw.Post, Gw.Holds, prG, Gw.Grows.refl, he, e2]
    case hend =>
      intro x w2 hg hx
      have h18 := (hx 18 (by simp)).now
      simp only [prG] at h18
      have hbg : Below w1.heap.size w1 w2 := hg
      have HB2 := Lib.hid (HB1.out.trans (hbg.mono HB1.out.size))
      have HR2 := Lib.hid ((HR1.out.below hbg).more hbg.size)
      have HA2 := Lib.hid ((HA1.out.below hbg).more hbg.size)
      clear hx hg hbg
      simp only [Gw.putAll, Act.put, List.setIfInBounds_toArray, List.set_cons_zero, List.set_cons_succ]
      rw [h18]
      go_wp2_with fail
      refine (read_any A1 n1 c1 t HL1.out hc1 hcc w2 HR2.out (HE.out.below HB2.out)).mono ?_
      cases hmb : mb with
      | true =>
        rw [HRP.out.1 hmb]
        rintro e w3 ⟨A3, c3, rfl, hc3, he3, hb3⟩
        have HB3 := Lib.hid (HB2.out.trans (hb3.mono HB2.out.size))
        have HE3 := Lib.hid he3
        have HA3 := Lib.hid ((HA2.out.below hb3).more hb3.size)
        have HMT := Lib.hid (show es.all mayB = true by rw [← HMB.out, hmb])
        clear hb3 he3
        simp only [HL.out]
        go_wp2_with fail
        refine (emay_any A n c es w3 HL.out (by omega) HA3.out).mono ?_
        rw [HMT.out]
        rintro e w4 ⟨rfl, hb4⟩
        have HB4 := Lib.hid (HB3.out.trans (hb4.mono HB3.out.size))
        have HE4 := Lib.hid ((HE3.out.below hb4).more hb4.size)
        have HA4 := Lib.hid ((HA3.out.below hb4).more hb4.size)
        clear hb4
        go_wp2_with fail
        refine (esame_any A3 A n c3 c es w4 HL.out (by omega) HE4.out HA4.out).mono ?_
        rintro e w5 ⟨rfl, hb5⟩
        have HB5 := Lib.hid (HB4.out.trans (hb5.mono HB4.out.size))
        clear hb5
        go_wp2_with fail
        refine (awake_any w5 (HE.out.below HB5.out)).mono ?_
        rintro e w6 ⟨rfl, hb6⟩
        have HB6 := Lib.hid (HB5.out.trans (hb6.mono HB5.out.size))
        clear hb6
        go_wp2
        go_ret
        exact ⟨rfl, HB6.out⟩
      | false =>
        obtain ⟨k, hk, hk0, hkn⟩ := HRP.out.2 hmb
        rw [hk]
        rintro e w3 ⟨A3, c3, rfl, hc3, he3, hb3⟩
        have HB3 := Lib.hid (HB2.out.trans (hb3.mono HB2.out.size))
        have HA3 := Lib.hid ((HA2.out.below hb3).more hb3.size)
        have HMT := Lib.hid (show es.all mayB = false by rw [← HMB.out, hmb])
        have k1 : (0 : Int) < (k : Int) := by omega
        have k2 : (k : Int) ≤ (n : Int) := by rw [HL.out] at hkn; omega
        clear hb3 he3 hk hk0 hkn
        simp only [List.length_nil]
        go_wp2_with fail
        refine (emay_any A n c es w3 HL.out (by omega) HA3.out).mono ?_
        rw [HMT.out]
        rintro e w4 ⟨rfl, hb4⟩
        have HB4 := Lib.hid (HB3.out.trans (hb4.mono HB3.out.size))
        clear hb4
        go_wp2_with fail
        refine (awake_any w4 (HE.out.below HB4.out)).mono ?_
        rintro e w6 ⟨rfl, hb6⟩
        have HB6 := Lib.hid (HB4.out.trans (hb6.mono HB4.out.size))
        clear hb6
        go_wp2
        go_ret
        exact ⟨rfl, HB6.out⟩

set_option maxRecDepth 100000 in
theorem edgePrints_lifted (os : Os) (started : os.Started) (H : Type) (enc : TypeId × Value → H) :
    ReturnsInHanded {} Tryd.checked os 5 .any (fun w args => (Rows.edgePrintsSpec.pre enc Tryd.prog Tryd.f5 Rows.edgePrintsRow.domain false w args ∧ laidMetH Tryd.prog laidL w) ∧ sizedMet enc Tryd.prog Tryd.f5 (OpenSpec.ofChange Rows.edgePrintsSpec) false w args)
      (Rows.edgePrintsSpec.post enc Tryd.prog Tryd.f5 false true false false) := by
  refine returnsInHanded_of_change_and (C := Tryd.checked) (X := fun w _ => laidMetH Tryd.prog laidL w) (fun _ _ _ hh h => h.of_heap hh) own started (by kernel_rfl) Tryd.func5
    (ChangeSpec.witness_shaped (enc := enc) (C := Tryd.checked) (os := os) (X := fun w _ => laidMetH Tryd.prog laidL w) false (World.laidAll Tryd.prog os laidL) #[.slice none 0 0] 8 (World.laidAll_os _ _ _)
      (laid_shaped os) (by kernel_rfl) (by kernel_rfl) (by kernel_rfl) (laid_world os _)) ?_
  intro W base args ds gs before hval0 hW hc _ hL _
  have hval : ∀ (j : Nat) t v, Tryd.f5.params[j]? = some t → args[j]? = some v → Value.okWide Tryd.prog W .any base t v := hval0
  have hW' := hW
  obtain ⟨p, q, hA0, hV, rfl, _, _⟩ := hW
  have hA : DataW.TrodAll enc Tryd.prog W 0 (fun _ => true) true Tryd.f5.params.toList args.toList ds p := hA0
  rw [Tryd.params5] at hA hval
  obtain ⟨v0, d0, rfl, rfl, h0⟩ := trodAll_one hA
  obtain ⟨A0, n0, c0, l0, rfl, hl0, hn0, hc0, hr0⟩ := open_eds Tryd.underlying33 Tryd.underlying25 (by kernel_rfl) (by kernel_rfl) rfl rfl rfl Tryd.underlying23 (hval 0 33 v0 rfl rfl) h0
  refine (edgePrints_walk A0 n0 c0 l0 hl0 hn0 hc0 W hr0 hL).mono fun e W' ⟨he, hb⟩ => ?_
  subst he
  exact ⟨_, rfl, Lw.post_true laidOut (by kernel_rfl) rfl rfl rfl rfl (by kernel_rfl) Tryd.underlying4 hW' hb⟩
set_option maxRecDepth 100000 in
theorem edgePrints_row : Rows.EdgePrintsSaid :=
  OpenClaim.holds_of_wide 5 Tryd.f5 rfl rfl rfl rfl rfl rfl rfl ⟨rfl, rfl, rfl, rfl, rfl⟩ rfl rfl rfl rfl rfl (by kernel_rfl) Tryd.func5 (by kernel_rfl)
    (of_decide_eq_true (by kernel_rfl)) (by unfold Func.isWrapper; first | (rw [if_pos (by decide +kernel)]; kernel_rfl) | (rw [if_neg (by decide +kernel)]; exact ⟨rfl, rfl⟩))
    (fun os started H enc _ => edgePrints_lifted os started H enc)
set_option maxRecDepth 100000 in
theorem edgePrints_holds : Rows.EdgePrintsCardSaid :=
  Claim7.holds_tied_plain_at .later [] [.data, .data, .data, .sentinel, .sentinel, .data, .data] true (true, "183fa1ae3bdabf8da4eedaa81e1dc8a6204b53098dcb5e3e5ab955ffde1bbcfc") true edgePrints_row (fun _ h => by cases h) (by kernel_rfl) (fun _ h => by cases h) edgePrints_row_tie rfl ⟨rfl, rfl⟩ (by kernel_rfl) rfl
    (fun f fn hf hfn => by
      obtain rfl : f = 5 := Option.some.inj ((show Tryd.prog.funcNamed "palmer/palmerlaw12.EdgePrints" = some 5 by kernel_rfl).symm.trans hf) |>.symm
      obtain rfl : fn = Tryd.f5 := (Option.some.inj (Tryd.func5.symm.trans hfn)).symm
      exact ⟨by kernel_rfl, fun j t ht => by
        rw [Tryd.params5] at ht
        have hm : t ∈ [33] := by simpa using Array.mem_of_getElem? ht
        have hall : ([33].all fun u => !Tryd.prog.wantsStandIn u) = true := by kernel_rfl
        exact (show Tryd.prog.wantsStandIn t = false by simpa using List.all_eq_true.1 hall t hm)⟩)
    (by kernel_rfl)
#print axioms edgePrints_holds
end Go.Proofs.YtbedepnmgnlijaaDoor
