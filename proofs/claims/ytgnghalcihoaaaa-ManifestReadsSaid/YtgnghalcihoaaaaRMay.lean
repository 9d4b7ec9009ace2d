/- Whether a manifest may be, told by the document. -/
import Derived.Test.YtgnghalcihoaaaaFile
import Derived.Test.YtgnghalcihoaaaaRBody
namespace Go.Proofs.Ytgnghalcihoaaaa
open Go.RowKit Me Mf Va

set_option maxRecDepth 100000 in
set_option maxHeartbeats 1000000 in
theorem rmay_any (A : Option Addr) (n c : Nat) (m : ManD) (w : World) (hn : n ≤ 1073741824) (hbd : Mf.Good m.next m.files → (body m).length ≤ 1099511627776) (h : ManAt w w.heap.size A n c m) :
    Calls Try.prog 13 #[mval m.version m.next A n c] w (Bp w (Fit m)) := by
  have HM := Lib.hid h
  have HL := Lib.hid h.len
  have HBD := Lib.hid hbd
  obtain ⟨v, hv⟩ : ∃ v, v = m.version := ⟨_, rfl⟩
  obtain ⟨x, hx⟩ : ∃ x, x = m.next := ⟨_, rfl⟩
  have HV := Lib.hid hv
  have HX := Lib.hid hx
  rw [← hv, ← hx]
  obtain ⟨wb, hwb⟩ : ∃ wb, wb = w.alloc (mbox v x A n c) := ⟨_, rfl⟩
  have HWB := Lib.hid hwb
  have HB0 := Lib.hid (show Below w.heap.size w wb by rw [hwb]; exact (Below.refl _ _).alloc (Nat.le_refl _) _)
  have KM := Lib.hid (show Kp wb w.heap.size (mbox v x A n c) by rw [hwb]; exact Kp.new w _)
  obtain ⟨-, -, q2⟩ := KM.out.man
  clear hwb h hbd hv hx
  go_enter Try.func13, Try.ntmps13
  go_wp2_with fail
  rw [← HWB.out]
  clear HWB q2
  go_loopw [7] (fun i wr => ∃ k : Nat, k ≤ n ∧ i = .int .i64 (k : Int) ∧ Hid (Mf.Good m.next (m.files.take k)) ∧ Hid (Kp wr w.heap.size (mbox v x A n c)) ∧ Hid (Below w.heap.size w wr)) (fun i _ => n - (intOf i).toNat)
  case atStart => exact ⟨0, Nat.zero_le _, rfl, Lib.hid (good_nil _), KM, HB0⟩
  case round =>
    clear HB0 KM
    obtain ⟨k, hk, rfl, HG, K, HB⟩ := hrel
    obtain ⟨q0, q1, q2⟩ := K.out.man
    by_cases hlt : k < n
    · obtain ⟨f, hf⟩ : ∃ f, m.files[k]? = some f := ⟨_, List.getElem?_eq_getElem (by rw [HL.out]; exact hlt)⟩
      have HFK := Lib.hid hf
      clear hf
      go_wp2_with fail
      have hcall : Calls Try.prog 39 #[mval v x A n c, .int .i64 (k : Int)] wr (Bp wr (RefOk m.next (m.files.take k) f)) := by
        rw [HV.out, HX.out]
        exact rfile_any A n c k m f wr hn HFK.out ((HM.out.below HB.out).more HB.out.size)
      refine hcall.mono ?_
      clear hcall
      rintro e w1 ⟨b, rfl, hb, hB⟩
      have HB1 := Lib.hid (HB.out.trans (hB.mono HB.out.size))
      have K1 := Lib.hid (K.out.past hB)
      have HOK := Lib.hid hb
      clear hb hB K HB q0 q1 q2
      cases b with
      | true =>
        have HGX := Lib.hid (show Mf.Good m.next (m.files.take (k + 1)) from by rw [take_snoc HFK.out]; exact (good_snoc HG.out).2 (HOK.out.1 rfl))
        go_wp2
        go_roundw
        case rel => exact ⟨k + 1, by omega, by go_num, HGX, K1, HB1⟩
        case measure => simp [intOf]; omega
      | false =>
        go_wp2
        go_ret
        refine ⟨false, rfl, ⟨fun h => (by cases h), fun h => ?_⟩, HB1.out⟩
        have := h.1.take (k + 1)
        rw [take_snoc HFK.out] at this
        exact HOK.out.2 ((good_snoc HG.out).1 this)
    · have hkn : k = n := by omega
      subst hkn
      have e : m.files.take k = m.files := by rw [← HL.out, List.take_length]
      have HGE := HG
      rw [e] at HGE
      have hbd := HBD.out HGE.out
      have HBY := Lib.hid hbd
      clear HG e hbd
      go_wp2_with fail
      rw [HV.out, HX.out]
      refine (rbody_any A k c m wr (good_pos HGE.out) HBY.out ((HM.out.below HB.out).more HB.out.size)).mono ?_
      intro e w1 h1
      obtain ⟨A1, n1, c1, rfl, hl1, -, -, -, hb1⟩ := h1.open
      have HB1 := Lib.hid (HB.out.trans (hb1.mono HB.out.size))
      have HL1 := Lib.hid hl1
      have hn1 : n1 ≤ 1099511627776 := by have := HBY.out; omega
      clear h1 hl1 hb1 q0 q1 q2
      by_cases hbig : n1 ≤ 2035
      · have d1 : decide ((n1 : Int) + 13 ≤ 2048) = true := by simp; omega
        go_wp2
        go_ret
        exact ⟨true, rfl, ⟨fun _ => ⟨HGE.out, by rw [HL1.out]; exact hbig⟩, fun _ => rfl⟩, HB1.out⟩
      · have d1 : decide ((n1 : Int) + 13 ≤ 2048) = false := by simp; omega
        go_wp2
        go_ret
        exact ⟨false, rfl, ⟨fun h => (by cases h), fun h => (by have := h.2; rw [HL1.out] at this; omega)⟩, HB1.out⟩
end Go.Proofs.Ytgnghalcihoaaaa
