/- GapsPuts is proved: whether any arcs are neighbours, their sum, their bytes behind others, or the error, are the document's; they are read as they were; for every input, no conditions. -/
import Derived.Test.YtegiplfgemdgdaaTwo
import Derived.Test.YtegiplfgemdgdaaGrow
import Derived.ProofKit
import Derived.Lib.SmallJoins
import Derived.Laws.Concat
namespace Go.Proofs.Ytegiplfgemdgdaa
open Go.RowKit Me Va

theorem read_front (b r : List UInt8) : bytesOf (b ++ r) 0 (b.length : Int) = (b, r, 0) := by
  unfold bytesOf
  rw [if_neg (by simp), if_neg (by omega), if_neg (by simp; omega)]
  simp
/-- What is known of each slot of the last region. -/
def putsG (A X F L M : Option Addr) (n c k d n1 c1 m e me : Nat) (g : Nat) (b en : List UInt8) : Gw.Fact := fun t v w =>
  match t with
  | 0 | 67 | 78 => v = .slice A n c
  | 1 | 69 | 84 => v = .slice L m e
  | 5 | 65 => v = .slice X k d
  | 6 | 62 => v = .int .i64 0
  | 7 | 88 => v = .pointer (some ⟨g, 0, none⟩)
  | 8 | 76 => v = .slice F n1 c1
  | 9 | 83 => v = .slice M m me
  | 66 | 72 => v = .string ⟨(b ++ en).toArray⟩
  | 68 | 77 | 79 => v = .string ⟨b.toArray⟩
  | 70 => ∃ Y n2 c2, v = .slice Y n2 c2 ∧ en.length = n2 ∧ Rd w w.heap.size Y en
  | 71 => v = .string ⟨en.toArray⟩
  | 89 => v = .int .i64 0
  | 63 | 64 | 73 | 74 | 75 | 80 | 81 | 82 | 85 | 86 | 87 | 90 | 91 | 92 | 93 | 94 | 4 => v = .bool true
  | _ => True
set_option maxRecDepth 100000 in
set_option maxHeartbeats 2000000 in
theorem gputs_law (A L : Option Addr) (n c m e : Nat) (b : List UInt8) (l : List ArcD) (w : World) (hb : b.length = n) (hn : n ≤ 100) (hr : Rd w w.heap.size A b) (hl : l.length = m) (hm : m ≤ 300) (ha : Arcs w w.heap.size L l) :
    Calls Try.prog 3 #[.slice A n c, .slice L m e] w fun e w' => e = .returned (.bool true) ∧ Below w.heap.size w w' := by
  obtain ⟨i0, hi0, hz0, hz1, hz2⟩ := info_parts u8_info
  have hm32 : m ≤ 4294967296 := by omega
  have d1 : decide ((300 : Int) < (m : Int)) = false := by simp; omega
  have d2 : decide ((100 : Int) < (n : Int)) = false := by simp; omega
  have hb0 : Below w.heap.size w (w.alloc (.cells #[] 5)) := (Below.refl _ _).alloc (Nat.le_refl _) _
  have HB := Lib.hid hb
  have HR := Lib.hid hr
  have HL := Lib.hid hl
  have HA := Lib.hid ha
  have HB0 := Lib.hid hb0
  obtain ⟨mv, hmv⟩ : ∃ mv, mv = may l := ⟨_, rfl⟩
  obtain ⟨xs, hxs⟩ : ∃ xs, xs = (if mv = true then b ++ encArcs l else b) := ⟨_, rfl⟩
  obtain ⟨xe, hxe⟩ : ∃ xe : Int, xe = (if mv = true then 0 else 3) := ⟨_, rfl⟩
  have HMV := Lib.hid hmv
  have HXS := Lib.hid hxs
  have HXE := Lib.hid hxe
  have hputs : ∀ (A' : Option Addr) (c' : Nat) (W : World), Below w.heap.size w W → Rd W W.heap.size A' b → Calls Try.prog 7 #[.slice A' n c', .slice L m e] W (PutPost W xs xe) := by
    intro A' c' W hW hR
    have := puts_any A' n c' b L m e l W HB.out (by omega) hR HL.out hm32 ((HA.out.below hW).more hW.size)
    rw [← hmv, ← hxs, ← hxe] at this
    exact this
  have hmays : ∀ (W : World), Below w.heap.size w W → Calls Try.prog 8 #[.slice L m e] W fun e w' => e = .returned (.bool mv) ∧ Below W.heap.size W w' := by
    intro W hW
    rw [hmv]
    exact may_any L m e l W HL.out hm32 ((HA.out.below hW).more hW.size)
  have hrmays : ∀ (W : World), Below w.heap.size w W → Calls Try.prog 9 #[.slice L m e] W fun e w' => e = .returned (.bool mv) ∧ Below W.heap.size W w' := by
    intro W hW
    rw [hmv]
    exact refmay_any L m e l W HL.out hm32 ((HA.out.below hW).more hW.size)
  have HPUTS := Lib.hid hputs
  have HMAYS := Lib.hid hmays
  have HRMAYS := Lib.hid hrmays
  clear hb hr hl ha hb0 hmv hxs hxe hputs hmays hrmays
  go_enter Try.func3, Try.ntmps3
  go_wp2_with (at_builtin
               refine wpList_app rfl (.tmp 20) (.tmp 21) 22 rfl w.heap.size 5 i0 _ Try.underlying22 hi0 hz0 hz1 hz2 rfl (.slice (some ⟨w.heap.size, 0, none⟩) 0 0) 0 [] rfl (own_empty w _ _ (Nat.le_refl _)) w.heap.size A n c b rfl HB.out (HR.out.below HB0.out) (by omega) HB0.out.size ?_
               intro v1 w1 hown1 hg1 hat1
               have HB1 := Lib.hid (below_app HB0.out (own_empty w _ _ (Nat.le_refl _)) (Nat.le_refl _) HB0.out.size hg1)
               have HW1 := Lib.hid hown1
               clear hat1 hg1 hown1)
  obtain ⟨A1, c1, rfl⟩ := own_slice HW1.out
  have hw1 := HW1.out
  rw [Nat.zero_add, List.nil_append] at hw1
  rw [Nat.zero_add]
  have HR1 := Lib.hid (Rd.of_own hw1)
  clear hw1 HW1
  refine (HPUTS.out A1 c1 w1 HB1.out HR1.out).mono ?_
  intro e1 w2 h2
  obtain ⟨X, k, d, rfl, hlx, hkd, -, hrx, hbx⟩ := h2.open
  have HX := Lib.hid hrx
  have HLX := Lib.hid hlx
  have HB2 := Lib.hid (HB1.out.trans (hbx.mono HB1.out.size))
  clear h2 hlx hrx hbx HR1
  go_wp2_with fail
  refine (HMAYS.out w2 HB2.out).mono ?_
  rintro e2 w3 ⟨rfl, hb3⟩
  have HB3 := Lib.hid (HB2.out.trans (hb3.mono HB2.out.size))
  have HX3 := Lib.hid ((HX.out.below hb3).more hb3.size)
  clear hb3 HX
  go_wp2_with fail
  refine (HRMAYS.out w3 HB3.out).mono ?_
  rintro e2 w4 ⟨rfl, hb4⟩
  have HB4 := Lib.hid (HB3.out.trans (hb4.mono HB3.out.size))
  have HX4 := Lib.hid ((HX3.out.below hb4).more hb4.size)
  have dbb : ∀ x : Bool, (x != x) = false := by intro x; cases x <;> rfl
  have dd := dbb mv
  clear hb4 HX3 dbb
  go_wp2_with fail
  refine (sum_any L m e l w4 HL.out hm32 ((HA.out.below HB4.out).more HB4.out.size)).mono ?_
  rintro e2 w5 ⟨rfl, hb5⟩
  have HB5 := Lib.hid (HB4.out.trans (hb5.mono HB4.out.size))
  have HX5 := Lib.hid ((HX4.out.below hb5).more hb5.size)
  clear hb5 HX4
  go_wp2_with fail
  refine (refsum_any L m e l w5 HL.out hm32 ((HA.out.below HB5.out).more HB5.out.size)).mono ?_
  rintro e2 w' ⟨rfl, rfl⟩
  have ds : ((sumOf l : Int) != (sumOf l : Int)) = false := by simp
  go_wp2_with fail
  refine (HRMAYS.out w5 HB5.out).mono ?_
  rintro e2 w6 ⟨rfl, hb6⟩
  have HB6 := Lib.hid (HB5.out.trans (hb6.mono HB5.out.size))
  have HX6 := Lib.hid ((HX5.out.below hb6).more hb6.size)
  clear hb6 HX5 dd ds
  cases mv with
  | false =>
    have hx0 : xs = b := HXS.out
    have he0 : xe = 3 := HXE.out
    subst hx0 he0
    have k1 := str_any X k d xs w6 _ HLX.out HX6.out
    have k2 := str_any A n c xs w6 _ HB.out ((HR.out.below HB6.out).more HB6.out.size)
    go_wp2_with fail
    refine (awake_any w6).mono ?_
    rintro e3 w7 ⟨rfl, hb7⟩
    have HB7 := Lib.hid (HB6.out.trans (hb7.mono HB6.out.size))
    clear hb7
    go_wp2
    go_ret
    exact ⟨rfl, HB7.out⟩
  | true =>
    have hx0 : xs = b ++ encArcs l := HXS.out
    have he0 : xe = 0 := HXE.out
    subst he0
    rw [hx0] at HX6 HLX
    obtain ⟨hri, hsm⟩ := may_parts HMV.out.symm
    have HRI := Lib.hid hri
    clear hri hsm hx0
    have HEN := Lib.hid (show (encArcs l).length ≤ 6010 by
      have h2 := encGaps_length l 0 HA.out.2
      have h3 := enc_ten (n := l.length) (by rw [HL.out]; omega)
      unfold encArcs
      rw [List.length_append]
      rw [HL.out] at h2
      omega)
    have hk : k ≤ 70368744177664 := by
      have h1 := HLX.out
      have h2 := HEN.out
      rw [List.length_append, HB.out] at h1
      omega
    go_wp2_with fail
    refine (new_any X k d (b ++ encArcs l) w6 HLX.out hk HX6.out).mono ?_
    rintro e3 w7 ⟨g, rfl, hg7, hs7, hrd7, hb7⟩
    have HG7 := Lib.hid hg7
    have HS7 := Lib.hid hs7
    have HRD7 := Lib.hid hrd7
    have HB7 := Lib.hid (HB6.out.trans (hb7.mono HB6.out.size))
    have HX7 := Lib.hid (HX6.out.below hb7)
    clear hg7 hs7 hrd7 hb7 HX6
    go_wp2_with fail
    refine (bytes_any g (b ++ encArcs l) 0 (n : Int) w7 HRD7.out (by omega)).mono ?_
    rw [← HB.out, read_front, HB.out]
    rintro e4 w8 ⟨F, nF, cF, rfl, hlF, hcF, hoF, hrF, hrd8, hg8⟩
    have hnF : nF = n := by have e : b.length = nF := hlF; rw [HB.out] at e; omega
    subst hnF
    have hgp : getOf (encArcs l) 0 = (l, [], 0) := by
      have := getOf_put (rest := []) HA.out.2 HMV.out.symm (by rw [HL.out]; omega)
      rwa [List.append_nil] at this
    have HGP := Lib.hid hgp
    have HOF := Lib.hid hoF
    have HRD8 := Lib.hid hrd8
    have hb8 := below_past hg8 HG7.out (Nat.le_trans HG7.out (Nat.le_of_lt HRD7.out.here))
    have hsz6 := HB6.out.size
    have HX8 := Lib.hid (HX7.out.below hb8)
    have HB8 := Lib.hid (HB7.out.trans (hb8.mono hsz6))
    have hs8 : g < w8.heap.size := Nat.lt_of_lt_of_le HS7.out hg8.size
    clear hlF hoF hrF hrd8 hg8 hb8 hgp HX7
    go_wp2_with fail
    refine (get_any g (encArcs l) 0 w8 HRD8.out).mono ?_
    rw [HGP.out]
    rintro e5 w9 ⟨M, n9, me, rfl, hme, ho9, hf9, hrd9, hg9⟩
    have hn9 : n9 = m := by
      have h1 := ho9.1
      have h2 := arcCells_length l
      rw [HL.out] at h2
      have h3 : (arcCells l).length = n9 * 2 := h1
      omega
    subst hn9
    have hb9 := below_past hg9 HG7.out (Nat.le_trans HG7.out (Nat.le_of_lt hs8))
    have HM9 := Lib.hid (Arcs.of_own ho9 HA.out.2)
    have HF9 := Lib.hid (Rd.of_own (own_past HOF.out hg9 HS7.out))
    have HRD9 := Lib.hid hrd9
    have hs9 : w6.heap.size ≤ w9.heap.size := Nat.le_trans (Nat.le_trans HG7.out (Nat.le_of_lt hs8)) hg9.size
    have HX9 := Lib.hid ((HX8.out.below hb9).more hs9)
    have HB9 := Lib.hid (HB8.out.trans (hb9.mono hsz6))
    have HR9 := Lib.hid ((HR.out.below HB9.out).more HB9.out.size)
    have HA9 := Lib.hid ((HA.out.below HB9.out).more HB9.out.size)
    clear ho9 hf9 hrd9 hg9 hb9 HOF HX8 HRD8
    go_wp2_with fail
    refine Gw.wp_region_grow (putsG A X F L M nF c k d nF cF n9 e me g b (encArcs l)) [62, 63, 64, 65, 66, 67, 68, 69, 70, 71, 72, 73, 74, 75, 76, 77, 78, 79, 80, 81, 82, 83, 84, 85, 86, 87, 88, 89, 90, 91, 92, 93, 94, 4] [([6], none), ([62], none), ([63], none), ([5, 64], some (64, true)), ([65, 64], some (64, true)), ([0, 64], some (64, true)), ([67, 64], some (64, true)), ([1, 64], some (64, true)), ([69, 64], some (64, true)), ([70, 64], some (64, true)), ([68, 71, 64], some (64, true)), ([66, 72, 64], some (64, true)), ([64, 73], none), ([74], none), ([8, 75], some (75, true)), ([76, 75], some (75, true)), ([0, 75], some (75, true)), ([78, 75], some (75, true)), ([77, 79, 75], some (75, true)), ([75, 80], none), ([81], none), ([9, 82], some (82, true)), ([1, 82], some (82, true)), ([83, 84, 82], some (82, true)), ([82, 85], none), ([86], none), ([7, 87], some (87, true)), ([88, 87], some (87, true)), ([89, 87], some (87, true)), ([87, 90], none), ([91], none), ([92], some (92, true)), ([92, 93], none), ([94], none)] 95 (by kernel_rfl) (by kernel_rfl) rfl ?h0 ?hreq ?hend
    case h0 =>
      intro t W hnd _
      unfold putsG
      split <;> first | rfl | trivial | exact absurd (by simp) hnd
    case hreq =>
      refine ⟨?_, ?_, ?_, ?_, ?_, ?_, ?_, ?_, ?_, ?_, ?_, ?_, ?_, ?_, ?_, ?_, ?_, ?_, ?_, ?_, ?_, ?_, ?_, ?_, ?_, ?_, ?_, ?_, ?_, ?_, ?_, ?_, ?_, ?_, trivial⟩
      all_goals
        intro a W hg hk
        have k1 := str_any _ _ d _ W _ HLX.out (HX9.out.below hg)
        have k2 := str_any _ _ c _ W _ HB.out (HR9.out.below hg)
        have k3 := str_any _ _ cF _ W _ HB.out (HF9.out.below hg)
        have k4 := run_string_add_lists (P := Try.prog) W b (encArcs l) (by rw [HB.out]; omega) (by have := HEN.out; omega)
        simp only [Gw.Knows, putsG] at hk
        try (simp [go_sem, Gw.OpReq, Gw.Ok, Gw.Post, Gw.Holds, putsG, Gw.Grows.refl, hk, k1, k2, k3, k4]; done)
      · simp [go_sem, Gw.OpReq, Gw.Ok, Gw.Post, Gw.Holds, putsG, Gw.Grows.refl, hk]
        refine (refput_any L n9 e l W HL.out hm32 ((HA9.out.below hg).more (Below.size hg)) HRI.out).mono ?_
        intro e5 w10 h
        obtain ⟨Y, n2, c2, rfl, hl2, hc2, -, hr2, hb2⟩ := h.open
        exact ⟨_, rfl, hb2, fun W2 hW2 => ⟨Y, n2, ⟨c2, rfl⟩, hl2, (hr2.below hW2).more (Below.size hW2)⟩⟩
      · obtain ⟨⟨Y, n2, c2, he, hl2, hr2⟩, h64, -⟩ := hk
        have k5 := str_any Y n2 c2 (encArcs l) W _ hl2 hr2
        simp [go_sem, Gw.OpReq, Gw.Ok, Gw.Post, Gw.Holds, putsG, Gw.Grows.refl, he, h64, k5]
      · simp [go_sem, Gw.OpReq, Gw.Ok, Gw.Post, Gw.Holds, putsG, Gw.Grows.refl, hk]
        refine (same_any M L n9 me e l W W.heap.size W.heap.size HL.out hm32 ((HM9.out.below hg).more (Below.size hg)) ((HA9.out.below hg).more (Below.size hg)) (Nat.le_refl _) (Nat.le_refl _)).mono ?_
        rintro e5 w10 ⟨rfl, hb⟩
        exact ⟨_, rfl, hb, fun _ _ => rfl⟩
      · simp [go_sem, Gw.OpReq, Gw.Ok, Gw.Post, Gw.Holds, putsG, Gw.Grows.refl, hk]
        refine (end_any g [] 0 W (HRD9.out.past hg)).mono ?_
        rintro e5 w10 ⟨rfl, rfl⟩
        exact ⟨_, rfl, Gw.Grows.refl _, fun _ _ => rfl⟩
      · simp [go_sem, Gw.OpReq, Gw.Ok, Gw.Post, Gw.Holds, putsG, Gw.Grows.refl, hk]
        refine (awake_any W).mono ?_
        rintro e5 w10 ⟨rfl, hb⟩
        exact ⟨_, rfl, hb, fun _ _ => rfl⟩
    case hend =>
      intro x w' hg hx
      have h4 : x 4 = .bool true := (hx 4 (by simp)).now
      simp only [Gw.putAll, Act.put, List.setIfInBounds_toArray, List.set_cons_zero, List.set_cons_succ]
      rw [h4]
      go_wp2
      go_ret
      exact ⟨rfl, HB9.out.trans (Below.mono hg HB9.out.size)⟩
theorem gputs_long (A L : Option Addr) (n c m e : Nat) (w : World) (hn : 300 < m ∨ 100 < n) :
    Calls Try.prog 3 #[.slice A n c, .slice L m e] w fun e w' => e = .returned (.bool true) ∧ Below w.heap.size w w' := by
  by_cases h : 300 < m
  · have h1 : decide ((300 : Int) < (m : Int)) = true := by simp; omega
    go_enter Try.func3, Try.ntmps3
    go_wp2_with (go_at_call 6; refine (awake_any _).mono ?_; rintro e w1 ⟨rfl, hb⟩)
    go_ret
    exact ⟨rfl, hb⟩
  · have h1 : decide ((300 : Int) < (m : Int)) = false := by simp; omega
    have h2 : decide ((100 : Int) < (n : Int)) = true := by simp; omega
    go_enter Try.func3, Try.ntmps3
    go_wp2_with (go_at_call 6; refine (awake_any _).mono ?_; rintro e w1 ⟨rfl, hb⟩)
    go_ret
    exact ⟨rfl, hb⟩
open Go.ChangeShapes Go.WideShapes Go.ChangeAt Go.Joins
set_option maxRecDepth 100000 in
theorem gapsPuts_lifted (os : Os) (started : os.Started) (H : Type) (enc : TypeId × Value → H) :
    ReturnsInHanded {} Try.checked os 3 .any (Rows.gapsPutsSpec.pre6 enc Try.prog Try.f3 Rows.gapsPutsRow.domain false) (Rows.gapsPutsSpec.post enc Try.prog Try.f3 false true false false) := by
  refine returnsInHanded_of_change (C := Try.checked) own started (by kernel_rfl) Try.func3
    (ChangeSpec.witness6 (enc := enc) (C := Try.checked) false ⟨#[], #[.slice none 0 0, .slice none 0 0], []⟩ 8 (by kernel_rfl) (by kernel_rfl) (by kernel_rfl) (by kernel_rfl)) ?_
  intro W base args ds gs before hval0 hW hcnd _
  have hval : ∀ (j : Nat) t v, Try.f3.params[j]? = some t → args[j]? = some v → Value.okWide Try.prog W .any base t v := hval0
  have hW' := hW
  obtain ⟨p, q, hA0, hV, rfl, hfz, hnd⟩ := hW
  have hA : DataW.TrodAll enc Try.prog W 0 (fun _ => true) true Try.f3.params.toList args.toList ds p := hA0
  rw [Try.params3] at hA hval
  obtain ⟨v0, v1, d0, d1, p0, p1, rfl, rfl, rfl, h0, h1⟩ := trodAll_two hA
  obtain ⟨A, n, c, b, rfl, hb, hnc, hc63, hr⟩ := open_bytes Try.underlying22 Try.underlying5 cells_u8 (hval 0 22 v0 rfl rfl) h0
  obtain ⟨L, m, e, l, rfl, hl, hme, he63, ha⟩ := open_arcs Try.underlying23 Try.underlying49 (by kernel_rfl) (by kernel_rfl) rfl rfl Try.underlying45 (hval 1 23 v1 rfl rfl) h1
  have hwalk : Calls Try.prog 3 #[.slice A n c, .slice L m e] W fun e w' => e = .returned (.bool true) ∧ Below W.heap.size W w' := by
    by_cases h : 300 < m ∨ 100 < n
    · exact gputs_long A L n c m e W h
    · exact gputs_law A L n c m e b l W hb (by omega) hr hl (by omega) ha
  refine hwalk.mono fun e W' ⟨he, hb⟩ => ?_
  subst he
  exact ⟨_, rfl, Lw.post_true laidOut (by kernel_rfl) rfl rfl rfl rfl (by kernel_rfl) Try.underlying4 hW' hb⟩

/-- GapsPuts: whether any arcs are neighbours, their sum, their bytes, are the document's; they are read as they were. -/
theorem gapsPuts_holds : Rows.GapsPutsSaid :=
  OpenClaim.holds_of_wide 3 Try.f3 rfl rfl rfl rfl rfl rfl rfl ⟨rfl, rfl, rfl, rfl, rfl⟩ rfl rfl rfl rfl rfl (by kernel_rfl) Try.func3 (by kernel_rfl)
    (of_decide_eq_true (by kernel_rfl)) (by unfold Func.isWrapper; rw [if_neg (of_decide_eq_false (by kernel_rfl))]; exact ⟨rfl, rfl⟩)
    (fun os started H enc _ => gapsPuts_lifted os started H enc)
#print axioms gapsPuts_holds
end Go.Proofs.Ytegiplfgemdgdaa
