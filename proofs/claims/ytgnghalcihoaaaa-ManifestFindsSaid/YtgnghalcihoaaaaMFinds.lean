/- ManifestFinds: where a file stands among a manifest's, or would be put in, is the document's. No condition on the input. -/
import Derived.Test.YtgnghalcihoaaaaMFind
import Derived.ProofKit
import Derived.Lib.SmallJoins
namespace Go.Proofs.Ytgnghalcihoaaaa
open Go.RowKit Me Mf

theorem stands_less {l : List FileD} {x : List UInt8} {r : Nat} {bb : Bool} (h : StandsM l x r bb) {k : Nat} {f : FileD} (hf : l[k]? = some f) : Op.bytesLess f.name x = decide (k < r) := by
  by_cases hk : k < r
  · rw [decide_eq_true hk]; exact h.lo k f hf hk
  · rw [decide_eq_false hk]; exact h.hi k f hf (by omega)
theorem stands_eq {l : List FileD} {x : List UInt8} {r : Nat} {bb : Bool} (h : StandsM l x r bb) (hok : NamesOk l) {k : Nat} {f : FileD} (hf : l[k]? = some f) : (f.name == x) = (bb && decide (k = r)) := by
  by_cases e : f.name = x
  · have hk : ¬ k < r := fun hk => by
      have := h.lo k f hf hk
      rw [e, less_irrefl] at this
      cases this
    have hkr : k = r := by
      rcases Nat.lt_or_ge r k with hlt | hge
      · have hr : r < l.length := by have := (List.getElem?_eq_some_iff.1 hf).1; omega
        have hg := h.hi r l[r] (List.getElem?_eq_getElem hr) (Nat.le_refl _)
        have := names_rise hok hlt (List.getElem?_eq_getElem hr) hf
        rw [e, hg] at this
        cases this
      · omega
    subst hkr
    rw [h.is.2 ⟨f, hf, e⟩]
    simpa using e
  · have e1 : (f.name == x) = false := by simpa using e
    rw [e1]
    by_cases hkr : k = r
    · subst hkr
      cases hb : bb with
      | false => rfl
      | true =>
        obtain ⟨g, hg, hx⟩ := h.is.1 hb
        rw [hf] at hg
        injection hg with hg
        rw [hg] at e
        exact absurd hx e
    · simp [hkr]
set_option maxRecDepth 100000 in
set_option maxHeartbeats 4000000 in
theorem mfinds_walk (A : Option Addr) (n c : Nat) (m : ManD) (x : List UInt8) (w : World) (h : ManAt w w.heap.size A n c m) :
    Calls Try.prog 4 #[mval m.version m.next A n c, sv x] w fun e w' => e = .returned (.bool true) ∧ Below w.heap.size w w' := by
  have HM := Lib.hid h
  have HL := Lib.hid h.len
  obtain ⟨v, hv⟩ : ∃ v, v = m.version := ⟨_, rfl⟩
  obtain ⟨y, hy⟩ : ∃ y, y = m.next := ⟨_, rfl⟩
  have HVY := Lib.hid (And.intro hv hy)
  rw [← hv, ← hy]
  obtain ⟨xl, hxl⟩ : ∃ xl, xl = x.length := ⟨_, rfl⟩
  have hxs : (ByteArray.mk x.toArray).size = xl := by rw [hxl]; exact List.size_toArray ..
  obtain ⟨wb, hwb⟩ : ∃ wb, wb = w.alloc (mbox v y A n c) := ⟨_, rfl⟩
  have HWB := Lib.hid hwb
  have HB0 := Lib.hid (show Below w.heap.size w wb by rw [hwb]; exact (Below.refl _ _).alloc (Nat.le_refl _) _)
  have KM := Lib.hid (show Kp wb w.heap.size (mbox v y A n c) by rw [hwb]; exact Kp.new w _)
  obtain ⟨q0, q1, q2⟩ := KM.out.man
  clear hwb h hv hy hxl
  go_enter Try.func4, Try.ntmps4
  go_wp2_with fail
  rw [← HWB.out]
  clear HWB
  refine (great_any v y A n c m wb ((HM.out.below HB0.out).more HB0.out.size)).mono ?_
  rintro e w1 ⟨b1, rfl, hb1, hB1⟩
  have HB1 := Lib.hid (HB0.out.trans (hB1.mono HB0.out.size))
  have K1 := Lib.hid (KM.out.past hB1)
  have HT := Lib.hid hb1
  clear hb1 hB1 HB0 KM q0 q1 q2
  obtain ⟨q0, q1, q2⟩ := K1.out.man
  cases b1 with
  | true =>
    clear q0 q1 q2
    go_wp2_with fail
    refine (awake_any w1).mono ?_
    rintro e w2 ⟨rfl, hb2⟩
    have HB2 := Lib.hid (HB1.out.trans (hb2.mono HB1.out.size))
    clear hb2
    go_wp2
    go_ret
    exact ⟨rfl, HB2.out⟩
  | false =>
  have HTY := Lib.hid (show Tiny m from Classical.byContradiction fun hc => by have := HT.out.2 hc; cases this)
  have hn60 : n ≤ 60 := by rw [← HL.out]; exact HTY.out.1
  go_wp2_with fail
  have hcall : Calls Try.prog 13 #[mval v y A n c] w1 (Bp w1 (Fit m)) := by
    rw [HVY.out.1, HVY.out.2]
    exact rmay_any A n c m w1 (by omega) (fun hg => by have := tiny_body HTY.out HM.out.wf hg; omega) ((HM.out.below HB1.out).more HB1.out.size)
  refine hcall.mono ?_
  clear hcall
  rintro e w2 ⟨b2, rfl, hb2, hB2⟩
  have HB2 := Lib.hid (HB1.out.trans (hB2.mono HB1.out.size))
  have K2 := Lib.hid (K1.out.past hB2)
  have HFT := Lib.hid hb2
  clear hb2 hB2 HB1 K1 q0 q1 q2
  obtain ⟨q0, q1, q2⟩ := K2.out.man
  cases b2 with
  | false =>
    clear q0 q1 q2
    go_wp2_with fail
    refine (awake_any w2).mono ?_
    rintro e w3 ⟨rfl, hb2⟩
    have HB3 := Lib.hid (HB2.out.trans (hb2.mono HB2.out.size))
    clear hb2
    go_wp2
    go_ret
    exact ⟨rfl, HB3.out⟩
  | true =>
  have HFIT := Lib.hid (show Fit m from HFT.out.1 (by trivial))
  clear HFT HT
  by_cases h100 : 100 < xl
  · have d1 : decide ((100 : Int) < (xl : Int)) = true := by simp; omega
    clear q0 q1 q2
    go_wp2_with fail
    refine (awake_any w2).mono ?_
    rintro e w3 ⟨rfl, hb2⟩
    have HB3 := Lib.hid (HB2.out.trans (hb2.mono HB2.out.size))
    clear hb2
    go_wp2
    go_ret
    exact ⟨rfl, HB3.out⟩
  · have d1 : decide ((100 : Int) < (xl : Int)) = false := by simp; omega
    go_wp2_with fail
    refine (mfind_any v y A n c m x w2 (by omega) HFIT.out.1.1 ((HM.out.below HB2.out).more HB2.out.size)).mono ?_
    rintro e w3 ⟨r, bb, rfl, hst, hb3⟩
    have HB3 := Lib.hid (HB2.out.trans (hb3.mono HB2.out.size))
    have K3 := Lib.hid (K2.out.past hb3)
    have HST := Lib.hid hst
    have hrn : r ≤ n := by rw [← HL.out]; exact hst.le
    clear hst hb3 K2 HB2 q0 q1 q2
    go_wp2
    go_loopw [7, 8, 9] (fun s i k' wr => ∃ (k t : Nat) (ii : Bool), k ≤ n ∧ s = .int .i64 (t : Int) ∧ i = .bool ii ∧ k' = .int .i64 (k : Int) ∧ t ≤ n ∧ Hid (t = min k r) ∧ Hid (ii = (bb && decide (r < k))) ∧ Hid (Kp wr w.heap.size (mbox v y A n c)) ∧ Hid (Below w.heap.size w wr)) (fun _ _ k _ => n - (intOf k).toNat)
    case atStart => exact ⟨0, 0, false, Nat.zero_le _, rfl, rfl, rfl, Nat.zero_le _, Lib.hid (by simp), Lib.hid (by simp), K3, HB3⟩
    case round =>
      clear K3 HB3
      obtain ⟨k, t, ii, hk, rfl, rfl, rfl, ht, HTT, HII, K, HB⟩ := hrel
      obtain ⟨q0, q1, q2⟩ := K.out.man
      by_cases hlt : k < n
      · obtain ⟨a, f, rfl, hab, hf, A2, n2, c2, g0, -⟩ := (HM.out.files.below HB.out).at (i := k) (by rw [HL.out]; exact hlt)
        obtain ⟨nm, hnm⟩ : ∃ nm, nm = f.name := ⟨_, rfl⟩
        rw [← hnm] at g0
        obtain ⟨e1, he1⟩ : ∃ e1, Op.bytesLess nm x = e1 := ⟨_, rfl⟩
        obtain ⟨e2, he2⟩ : ∃ e2, (nm == x) = e2 := ⟨_, rfl⟩
        have HE1 := Lib.hid (show e1 = decide (k < r) by rw [← he1, hnm]; exact stands_less HST.out hf)
        have HE2 := Lib.hid (show e2 = (bb && decide (k = r)) by rw [← he2, hnm]; exact stands_eq HST.out HFIT.out.1.1 hf)
        clear hf hnm
        cases e1 with
        | true =>
          have hkr : k < r := by have := HE1.out; simpa using this
          have HTX := Lib.hid (show t + 1 = min (k + 1) r by have := HTT.out; omega)
          cases ii with
          | true =>
            have HIX := Lib.hid (show true = (bb && decide (r < k + 1)) by have := HII.out; simp at this; omega)
            go_wp2
            go_roundw
            case rel => exact ⟨k + 1, t + 1, true, by omega, by go_num, rfl, by go_num, by have := HTX.out; omega, HTX, HIX, K, HB⟩
            case measure => simp [intOf]; omega
          | false =>
            have HIX := Lib.hid (show e2 = (bb && decide (r < k + 1)) by
              rw [HE2.out]
              have d : decide (k = r) = false := by simp; omega
              have d' : decide (r < k + 1) = false := by simp; omega
              rw [d, d'])
            go_wp2
            go_roundw
            case rel => exact ⟨k + 1, t + 1, e2, by omega, by go_num, rfl, by go_num, by have := HTX.out; omega, HTX, HIX, K, HB⟩
            case measure => simp [intOf]; omega
        | false =>
          have hkr : r ≤ k := by have := HE1.out; simp at this; omega
          have HTX := Lib.hid (show t = min (k + 1) r by have := HTT.out; omega)
          cases ii with
          | true =>
            have HIX := Lib.hid (show true = (bb && decide (r < k + 1)) by
              have := HII.out
              have d' : decide (r < k + 1) = true := by simp; omega
              rw [d']
              cases bb
              · simp at this
              · rfl)
            go_wp2
            go_roundw
            case rel => exact ⟨k + 1, t, true, by omega, rfl, rfl, by go_num, ht, HTX, HIX, K, HB⟩
            case measure => simp [intOf]; omega
          | false =>
            have HIX := Lib.hid (show e2 = (bb && decide (r < k + 1)) by
              rw [HE2.out]
              have d' : decide (r < k + 1) = true := by simp; omega
              rw [d']
              have hi := HII.out
              cases bb
              · rfl
              · simp at hi
                have : k = r := by omega
                simp [this])
            go_wp2
            go_roundw
            case rel => exact ⟨k + 1, t, e2, by omega, rfl, rfl, by go_num, ht, HTX, HIX, K, HB⟩
            case measure => simp [intOf]; omega
      · have hkn : k = n := by omega
        have htr : t = r := by have := HTT.out; omega
        have hib : ii = bb := by
          rw [HII.out]
          cases hb : bb with
          | false => rfl
          | true =>
            obtain ⟨f, hf, -⟩ := HST.out.is.1 hb
            have := (List.getElem?_eq_some_iff.1 hf).1
            have := HL.out
            simp
            omega
        subst htr hib
        have d2 : ((t : Int) == (t : Int)) = true := by simp
        have d3 : (ii == ii) = true := by simp
        go_wp2_with fail
        refine (awake_any wr).mono ?_
        rintro e w4 ⟨rfl, hb4⟩
        have HB4 := Lib.hid (HB.out.trans (hb4.mono HB.out.size))
        clear hb4
        go_wp2
        go_ret
        exact ⟨rfl, HB4.out⟩
open Go.ChangeShapes Go.WideShapes Go.ChangeAt Go.Joins
set_option maxRecDepth 100000 in
theorem manifestFinds_lifted (os : Os) (started : os.Started) (H : Type) (enc : TypeId × Value → H) :
    ReturnsInHanded {} Try.checked os 4 .any (Rows.manifestFindsSpec.pre6 enc Try.prog Try.f4 Rows.manifestFindsRow.domain false) (Rows.manifestFindsSpec.post enc Try.prog Try.f4 false true false false) := by
  refine returnsInHanded_of_change (C := Try.checked) own started (by kernel_rfl) Try.func4
    (ChangeSpec.witness6 (enc := enc) (C := Try.checked) false ⟨#[], #[.agg #[.int .u64 0, .int .u32 0, .slice none 0 0], .string ⟨#[]⟩], []⟩ 8 (by kernel_rfl) (by kernel_rfl) (by kernel_rfl) (by kernel_rfl)) ?_
  intro W base args ds gs before hval0 hW hcnd _
  have hval : ∀ (j : Nat) t v, Try.f4.params[j]? = some t → args[j]? = some v → Value.okWide Try.prog W .any base t v := hval0
  have hW' := hW
  obtain ⟨p, q, hA0, hV, rfl, hfz, hnd⟩ := hW
  have hA : DataW.TrodAll enc Try.prog W 0 (fun _ => true) true Try.f4.params.toList args.toList ds p := hA0
  rw [Try.params4] at hA hval
  obtain ⟨v0, v1, d0, d1, p0, p1, rfl, rfl, rfl, h0, h1⟩ := trodAll_two hA
  obtain ⟨A, n, c, m, rfl, hm⟩ := open_man (hval 0 28 v0 rfl rfl) h0
  obtain ⟨s, rfl⟩ := WideShapes.okWide_string Try.underlying9 (hval 1 9 v1 rfl rfl)
  have hwalk : Calls Try.prog 4 #[mval m.version m.next A n c, .string s] W fun e w' => e = .returned (.bool true) ∧ Below W.heap.size W w' := by
    rw [← sv_data s]; exact mfinds_walk A n c m s.data.toList W hm
  refine hwalk.mono fun e W' ⟨he, hb⟩ => ?_
  subst he
  exact ⟨_, rfl, Lw.post_true laidOut (by kernel_rfl) rfl rfl rfl rfl (by kernel_rfl) Try.underlying4 hW' hb⟩

/-- ManifestFinds: where a file stands among a manifest's files, or would be put in, is the document's. -/
theorem manifestFinds_holds : Rows.ManifestFindsSaid :=
  OpenClaim.holds_of_wide 4 Try.f4 rfl rfl rfl rfl rfl rfl rfl ⟨rfl, rfl, rfl, rfl, rfl⟩ rfl rfl rfl rfl rfl (by kernel_rfl) Try.func4 (by kernel_rfl)
    (of_decide_eq_true (by kernel_rfl)) (by unfold Func.isWrapper; rw [if_neg (of_decide_eq_false (by kernel_rfl))]; exact ⟨rfl, rfl⟩)
    (fun os started H enc _ => manifestFinds_lifted os started H enc)
#print axioms manifestFinds_holds
end Go.Proofs.Ytgnghalcihoaaaa
