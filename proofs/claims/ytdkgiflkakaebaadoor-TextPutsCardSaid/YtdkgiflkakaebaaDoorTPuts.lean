/- TextPuts: any number, put behind any bytes, is the document's, and is read; as one of more it isn't. -/
import Derived.Test.YtdkgiflkakaebaaDoorTxV
import Derived.Test.YtdkgiflkakaebaaDoorTxM
namespace Go.Proofs.YtdkgiflkakaebaaDoor
open Go.RowKit Me Tx Go.Shelf Go.Lib Go.ChangeShapes

theorem sv_size (l : List UInt8) : (⟨l.toArray⟩ : ByteArray).size = l.length := rfl
theorem sv_list (l : List UInt8) : (⟨l.toArray⟩ : ByteArray).data.toList = l := rfl
set_option maxRecDepth 100000 in
theorem textPuts_walk (A : Option Addr) (n c : Nat) (b : List UInt8) (hb : b.length = n) (hnc : n ≤ c) (hc : c ≤ 9223372036854775807) (m : Nat) (hm : m < 18446744073709551616) (w : World) (hr : Rd w w.heap.size A b) (hL : laidMetH Tryd.prog laidL w) :
    Calls Tryd.prog 7 #[.slice A n c, .int .u64 (m : Int)] w fun e w' => e = .returned (.bool true) ∧ Below w.heap.size w w' := by
  obtain ⟨i0, hi0, hz0, hz1, hz2⟩ := info_parts u8_info
  have HE := Lib.hid (laid_err hL)
  have HT := Lib.hid (laid_tab hL)
  have HM := Lib.hid hm
  have HL := Lib.hid hb
  have HR := Lib.hid hr
  clear hL hm hb hr
  by_cases h : 3000 < n
  · have h1 : (3000 : Int) < (n : Int) := by omega
    go_enter Tryd.func7, Tryd.ntmps7
    go_wp2_with fail
    refine (awake_any w HE.out).mono ?_
    rintro e w1 ⟨rfl, hb1⟩
    have HB1 := Lib.hid hb1
    clear hb1
    go_wp2
    go_ret
    exact ⟨rfl, HB1.out⟩
  · have h1 : ¬ (3000 : Int) < (n : Int) := by omega
    obtain ⟨d, hd⟩ : ∃ d, d = putN m := ⟨_, rfl⟩
    have HD := Lib.hid hd
    have hd20 : d.length ≤ 20 := by rw [hd]; exact putN_length HM.out
    have HN := Lib.hid (show numS d m = (m, 0) by rw [hd]; exact putN_num m)
    clear hd
    go_enter Tryd.func7, Tryd.ntmps7
    go_wp2_with (at_builtin
                 refine wpList_app rfl (.tmp 15) (.tmp 16) 22 rfl w.heap.size 5 i0 _ Tryd.underlying22 hi0 hz0 hz1 hz2 rfl (.slice (some ⟨w.heap.size, 0, none⟩) 0 0) 0 [] rfl (own_empty w _ _ (Nat.le_refl _)) w.heap.size A n c b rfl HL.out (HR.out.alloc (Nat.le_refl _) _) (by omega) (by simp) ?_
                 intro v1 w1 hown1 hg1 hat1
                 obtain ⟨A1, c1, hv1⟩ := own_slice hown1
                 subst hv1
                 have HO1 := Lib.hid hown1
                 have HB1 := Lib.hid (below_app ((Below.refl _ w).alloc (Nat.le_refl _) _) (own_empty w w.heap.size 5 (Nat.le_refl _)) (Nat.le_refl _) (by simp) hg1)
                 clear hown1 hg1 hat1)
    have hr1 : Rd w1 w1.heap.size A1 b := by have := Rd.of_own HO1.out; simpa using this
    refine (put_any' A1 n c1 b HL.out (by omega) m HM.out w1 hr1 (HT.out.below HB1.out)).mono ?_
    rw [← HD.out]
    intro e w2 hn2
    obtain ⟨A2, n2, c2, rfl, hl2, hc2, ho2, hr2, hb2⟩ := hn2.open
    have HL2 := Lib.hid hl2
    have HR2 := Lib.hid hr2
    have HB2 := Lib.hid (HB1.out.trans (hb2.mono HB1.out.size))
    clear hn2 hl2 ho2 hr2 hb2 hr1
    go_wp2_with fail
    refine (rput_any m w2 HM.out).mono ?_
    rw [← HD.out]
    rintro e w3 ⟨rfl, hb3⟩
    have HB3 := Lib.hid (HB2.out.trans (hb3.mono HB2.out.size))
    have HR3 := Lib.hid ((HR2.out.below hb3).more hb3.size)
    clear hb3
    have hds : (⟨d.toArray⟩ : ByteArray).size ≤ 1073741824 := by rw [sv_size]; omega
    go_wp2_with fail
    refine (num_any ⟨d.toArray⟩ m hds HM.out w3 (HE.out.below HB3.out)).mono ?_
    rw [sv_list, HN.out]
    rintro e w4 ⟨rfl, hb4⟩
    have HB4 := Lib.hid (HB3.out.trans (hb4.mono HB3.out.size))
    have HR4 := Lib.hid ((HR3.out.below hb4).more hb4.size)
    clear hb4
    by_cases hm0 : m = 0
    · have h2 : ¬ (0 : Int) < (m : Int) := by omega
      have e1 := str_any A2 n2 c2 (b ++ d) w4 _ HL2.out HR4.out
      have e2 := str_any A n c b w4 _ HL.out ((HR.out.below HB4.out).more HB4.out.size)
      have e3 := run_string_add_lists (P := Tryd.prog) w4 b d (by have := HL.out; omega) (by omega)
      go_wp2_with fail
      refine (awake_any w4 (HE.out.below HB4.out)).mono ?_
      rintro e w6 ⟨rfl, hb6⟩
      have HB6 := Lib.hid (HB4.out.trans (hb6.mono HB4.out.size))
      clear hb6
      go_wp2
      go_ret
      exact ⟨rfl, HB6.out⟩
    · have h2 : (0 : Int) < (m : Int) := by omega
      obtain ⟨k, hk⟩ : ∃ k, k + 1 = m := ⟨m - 1, by omega⟩
      have h3 : IntKind.u64.wrap ((m : Int) - 1) = (k : Int) := by rw [IntWalk.u64_in _ (by have := HM.out; omega)]; omega
      have HN2 := Lib.hid (show numS d k = (0, 9) by rw [HD.out]; exact putN_less (by omega))
      have HK := Lib.hid (show k < 18446744073709551616 by have := HM.out; omega)
      clear hk
      go_wp2_with fail
      refine (num_any ⟨d.toArray⟩ k hds HK.out w4 (HE.out.below HB4.out)).mono ?_
      rw [sv_list, HN2.out]
      rintro e w5 ⟨rfl, hb5⟩
      have HB5 := Lib.hid (HB4.out.trans (hb5.mono HB4.out.size))
      have HR5 := Lib.hid ((HR4.out.below hb5).more hb5.size)
      clear hb5
      have e1 := str_any A2 n2 c2 (b ++ d) w5 _ HL2.out HR5.out
      have e2 := str_any A n c b w5 _ HL.out ((HR.out.below HB5.out).more HB5.out.size)
      have e3 := run_string_add_lists (P := Tryd.prog) w5 b d (by have := HL.out; omega) (by omega)
      go_wp2_with fail
      refine (awake_any w5 (HE.out.below HB5.out)).mono ?_
      rintro e w6 ⟨rfl, hb6⟩
      have HB6 := Lib.hid (HB5.out.trans (hb6.mono HB5.out.size))
      clear hb6
      go_wp2
      go_ret
      exact ⟨rfl, HB6.out⟩

theorem textPuts_lifted (os : Os) (started : os.Started) (H : Type) (enc : TypeId × Value → H) :
    ReturnsInHanded {} Tryd.checked os 7 .any (fun w args => (Rows.textPutsSpec.pre enc Tryd.prog Tryd.f7 Rows.textPutsRow.domain false w args ∧ laidMetH Tryd.prog laidL w) ∧ sizedMet enc Tryd.prog Tryd.f7 (OpenSpec.ofChange Rows.textPutsSpec) false w args)
      (Rows.textPutsSpec.post enc Tryd.prog Tryd.f7 false true false false) := by
  refine returnsInHanded_of_change_and (C := Tryd.checked) (X := fun w _ => laidMetH Tryd.prog laidL w) (fun _ _ _ hh h => h.of_heap hh) own started (by kernel_rfl) Tryd.func7
    (ChangeSpec.witness_shaped (enc := enc) (C := Tryd.checked) (os := os) (X := fun w _ => laidMetH Tryd.prog laidL w) false (World.laidAll Tryd.prog os laidL) #[.slice none 0 0, .int .u64 0] 8 (World.laidAll_os _ _ _)
      (laid_shaped os) (by kernel_rfl) (by kernel_rfl) (by kernel_rfl) (laid_world os _)) ?_
  intro W base args ds gs before hval0 hW hc _ hL _
  have hval : ∀ (j : Nat) t v, Tryd.f7.params[j]? = some t → args[j]? = some v → Value.okWide Tryd.prog W .any base t v := hval0
  have hW' := hW
  obtain ⟨p, q, hA0, hV, rfl, _, _⟩ := hW
  have hA : DataW.TrodAll enc Tryd.prog W 0 (fun _ => true) true Tryd.f7.params.toList args.toList ds p := hA0
  rw [Tryd.params7] at hA hval
  obtain ⟨v0, v1, d0, d1, p0, p1, rfl, rfl, rfl, h0, h1⟩ := trodAll_two hA
  obtain ⟨A0, n0, c0, l0, rfl, hl0, hn0, hc0, hr0⟩ := open_bytes Tryd.underlying22 Tryd.underlying5 cells_u8 (hval 0 22 v0 rfl rfl) h0
  obtain ⟨z1, rfl, -, -, w1⟩ := open_int Tryd.underlying34 (hval 1 34 v1 rfl rfl) h1
  have hz1 : 0 ≤ z1 ∧ z1 < 18446744073709551616 := by simp [Lit.wf, IntKind.min, IntKind.max, IntKind.bits, IntKind.signed] at w1; omega
  obtain ⟨x1, rfl⟩ : ∃ m : Nat, z1 = (m : Int) := ⟨z1.toNat, by omega⟩
  refine (textPuts_walk A0 n0 c0 l0 hl0 hn0 hc0 x1 (by omega) W hr0 hL).mono fun e W' ⟨he, hb⟩ => ?_
  subst he
  exact ⟨_, rfl, Lw.post_true laidOut (by kernel_rfl) rfl rfl rfl rfl (by kernel_rfl) Tryd.underlying4 hW' hb⟩
theorem textPuts_row : Rows.TextPutsSaid :=
  OpenClaim.holds_of_wide 7 Tryd.f7 rfl rfl rfl rfl rfl rfl rfl ⟨rfl, rfl, rfl, rfl, rfl⟩ rfl rfl rfl rfl rfl (by kernel_rfl) Tryd.func7 (by kernel_rfl)
    (of_decide_eq_true (by kernel_rfl)) (by unfold Func.isWrapper; first | (rw [if_pos (by decide +kernel)]; kernel_rfl) | (rw [if_neg (by decide +kernel)]; exact ⟨rfl, rfl⟩))
    (fun os started H enc _ => textPuts_lifted os started H enc)
theorem textPuts_holds : Rows.TextPutsCardSaid :=
  Claim7.holds_tied_plain_at .later [] [.data, .data, .data, .sentinel, .sentinel] true (true, "895b0d4dcbd46afbda2f585d1eec1a9ca2836d213674fc97b9fb9decfe8c4752") true textPuts_row (fun _ h => by cases h) (by kernel_rfl) (fun _ h => by cases h) textPuts_row_tie rfl ⟨rfl, rfl⟩ (by kernel_rfl) rfl
    (fun f fn hf hfn => by
      obtain rfl : f = 7 := Option.some.inj ((show Tryd.prog.funcNamed "palmer/palmerlaw11.TextPuts" = some 7 by kernel_rfl).symm.trans hf) |>.symm
      obtain rfl : fn = Tryd.f7 := (Option.some.inj (Tryd.func7.symm.trans hfn)).symm
      exact ⟨by kernel_rfl, fun j t ht => by
        rw [Tryd.params7] at ht
        have hm : t ∈ [22, 34] := by simpa using Array.mem_of_getElem? ht
        have hall : ([22, 34].all fun u => !Tryd.prog.wantsStandIn u) = true := by kernel_rfl
        exact (show Tryd.prog.wantsStandIn t = false by simpa using List.all_eq_true.1 hall t hm)⟩)
    (by kernel_rfl)
#print axioms textPuts_holds
end Go.Proofs.YtdkgiflkakaebaaDoor
