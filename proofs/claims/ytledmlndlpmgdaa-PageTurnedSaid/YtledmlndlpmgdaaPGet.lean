/- The bytes of a block as a page, the program's. -/
import Derived.Test.YtledmlndlpmgdaaPCont
import Derived.Test.YtledmlndlpmgdaaEqu
import Derived.Test.YtledmlndlpmgdaaClo
namespace Go.Proofs.Ytledmlndlpmgdaa
open Go.RowKit Cr Me Pg

/-- What is known of each slot where the page's bytes are cut out. -/
def pgG (a d : Addr) (c m : Nat) : Gw.Fact := fun t v _ =>
  match t with
  | 0 | 14 | 16 => v = .slice (some a) 128 (c + 12)
  | 15 => v = .slice (some d) 116 c
  | 17 => v = .int .u32 (m : Int)
  | 8 | 18 => v = .slice (some d) m c
  | _ => True
theorem pget_short (f p : Int) (A : Option Addr) (n c : Nat) (w : World) (hn : n ≠ 128) :
    Calls Try.prog 8 #[.slice A n c, .int .u32 f, .int .u32 p] w fun e w' => e = .returned (.tuple #[.slice none 0 0, .int .i64 3]) ∧ w = w' := by
  have h1 : ((n : Int) == 128) = false := by rw [beq_eq_false_iff_ne]; omega
  go_enter Try.func8, Try.ntmps8
  go_wp2
  go_ret2
  exact ⟨rfl, rfl⟩
set_option maxRecDepth 100000 in
set_option maxHeartbeats 1000000 in
theorem pget_full (f p : Reg) (a : Addr) (c : Nat) (k : List UInt8) (w : World) (hl : k.length = 128) (hc : 128 ≤ c) (hr : Rd w w.heap.size (some a) k) :
    Calls Try.prog 8 #[.slice (some a) 128 c, .int .u32 (f.toNat : Int), .int .u32 (p.toNat : Int)] w fun e w' => FTells w (getP k f p).1 (getP k f p).2 e w' := by
  obtain ⟨cc, rfl⟩ : ∃ cc, c = cc + 12 := ⟨c - 12, by omega⟩
  obtain ⟨m, hm⟩ : ∃ m, m = min (num (k.drop 8)) 112 := ⟨_, rfl⟩
  have hm1 : m ≤ 112 := by omega
  have hpl : (inner k).length = m := by rw [part_length hl, hm]
  have hpr : Rd w w.heap.size (some (a.add 12)) (inner k) := by
    have := (hr.drop (k := 12) (cap := cc + 12) (by omega)).take m
    rw [if_neg (by omega)] at this
    unfold inner
    rw [← hm]
    exact this
  obtain ⟨d, hd⟩ : ∃ d, d = a.add 12 := ⟨_, rfl⟩
  rw [← hd] at hpr
  obtain ⟨g, hg⟩ : ∃ g, (enc f p (inner k) == k) = g := ⟨_, rfl⟩
  have HR1 := Lib.hid (show getP k f p = if g then (inner k, 0) else ([], 5) by unfold getP; rw [if_pos hl, hg])
  obtain ⟨R, hR⟩ : ∃ R, R = getP k f p := ⟨_, rfl⟩
  rw [← hR] at HR1 ⊢
  have HM := Lib.hid hm
  have HL := Lib.hid hl
  have HPL := Lib.hid hpl
  have HPR := Lib.hid hpr
  have HD := Lib.hid hd
  have HG := Lib.hid hg
  have HRD := Lib.hid hr
  have HEL := Lib.hid (show (enc f p (inner k)).length = 128 from enc_length (by rw [hpl]; exact hm1))
  have q1 : ¬ cc = 0 := by omega
  have q2 : (m : Int) ≤ (cc : Int) := by omega
  clear hm hpl hpr hd hg hR hr hl
  go_enter Try.func8, Try.ntmps8
  go_wp2_with fail
  refine Gw.wp_region_grow (pgG a d cc m) [14, 15, 16, 17, 18, 8] [([0], none), ([14], none), ([0], none), ([16], none), ([15, 17], none), ([18], none)] 32 (by kernel_rfl) (by kernel_rfl) rfl ?h0 ?hreq ?hend
  case h0 =>
    intro t W hnd _
    unfold pgG
    split <;> first | rfl | trivial | exact absurd (by simp) hnd
  case hreq =>
    have e12 : (⟨a.block, a.off + 12, none⟩ : Addr) = d := HD.out.symm
    refine ⟨?_, ?_, ?_, ?_, ?_, ?_, trivial⟩
    all_goals
      intro ac W hg hk
      simp only [Gw.Knows, pgG] at hk
      try (simp [go_sem, Gw.OpReq, Gw.Ok, Gw.Post, Gw.Holds, pgG, Gw.Grows.refl, hk, q1, q2, e12]; done)
    · simp [go_sem, Gw.OpReq, Gw.Ok, Gw.Post, Gw.Holds, pgG, Gw.Grows.refl, hk]
      refine (contained_any a (cc + 12) k W HL.out (by omega) ((HRD.out.below hg).more (Below.size hg))).mono ?_
      rintro e w5 ⟨rfl, hb⟩
      rw [← HM.out]
      exact ⟨_, rfl, hb, fun _ _ => rfl⟩
  case hend =>
    intro x w1 hg hx
    have h8 : x 8 = .slice (some d) m cc := (hx 8 (by simp)).now
    have HB1 := Lib.hid (show Below w.heap.size w w1 from hg)
    simp only [Gw.putAll, Act.put, List.setIfInBounds_toArray, List.set_cons_zero, List.set_cons_succ]
    rw [h8]
    clear h8 hx hg
    generalize x 14 = x14
    generalize x 15 = x15
    generalize x 16 = x16
    generalize x 17 = x17
    generalize x 18 = x18
    go_wp2_with fail
    refine (pput_good f p (some d) m cc (inner k) w1 HPL.out hm1 ((HPR.out.below HB1.out).more HB1.out.size)).mono ?_
    intro e w2 h
    obtain ⟨A2, n2, c2, rfl, hl2, hc2, ho2, hr2, hb2⟩ := h.open
    have hn2 : n2 = 128 := by rw [← hl2]; exact HEL.out
    subst hn2
    have HR2 := Lib.hid hr2
    have HB2 := Lib.hid (HB1.out.trans (hb2.mono HB1.out.size))
    clear hl2 ho2 hr2 hb2 h
    go_wp2_with fail
    refine (equal_any A2 (some a) 128 c2 128 (cc + 12) (enc f p (inner k)) k w2 w2.heap.size w2.heap.size HEL.out HR2.out HL.out ((HRD.out.below HB2.out).more HB2.out.size)).mono ?_
    rw [HG.out]
    rintro e w3 ⟨rfl, rfl⟩
    cases g with
    | false =>
      have HF := Lib.hid (show R = ([], 5) from HR1.out)
      go_wp2
      go_ret2
      rw [HF.out]
      exact ⟨HB2.out, none, 0, 0, rfl, rfl, by omega, Rd.empty, fun h => by simp at h⟩
    | true =>
      have HF := Lib.hid (show R = (inner k, 0) from HR1.out)
      go_wp2_with fail
      refine (clone_any (some d) m cc (inner k) w2 HPL.out (by omega) ((HPR.out.below HB2.out).more HB2.out.size)).mono ?_
      intro e w4 h
      obtain ⟨A4, n4, c4, rfl, hl4, hc4, ho4, hr4, hb4⟩ := h.open
      have HL4 := Lib.hid hl4
      have HR4 := Lib.hid hr4
      have HB4 := Lib.hid (HB2.out.trans (hb4.mono HB2.out.size))
      have HN4 := Lib.hid (show 0 < (inner k).length → ∃ b, A4 = some b ∧ w.heap.size ≤ b.block from fun h => by
        obtain ⟨g, cap, hv, hg, -⟩ := ho4.form (by omega)
        injection hv with hv
        exact ⟨_, hv, Nat.le_trans HB2.out.size hg⟩)
      have hn4 : n4 ≤ 112 := by have := HPL.out; omega
      clear hl4 ho4 hr4 hb4 h
      go_wp2
      go_ret2
      rw [HF.out]
      exact ⟨HB4.out, A4, n4, c4, rfl, HL4.out, by omega, HR4.out, HN4.out⟩
theorem pget_any (f p : Reg) (A : Option Addr) (n c : Nat) (k : List UInt8) (w : World) (hl : k.length = n) (hc : n ≤ c) (hr : Rd w w.heap.size A k) :
    Calls Try.prog 8 #[.slice A n c, .int .u32 (f.toNat : Int), .int .u32 (p.toNat : Int)] w fun e w' => FTells w (getP k f p).1 (getP k f p).2 e w' := by
  by_cases hn : n = 128
  · subst hn
    obtain ⟨a, rfl, -⟩ := hr (by omega)
    exact pget_full f p a c k w hl hc hr
  · refine (pget_short _ _ A n c w hn).mono fun e w' ⟨he, hw⟩ => ?_
    subst hw
    rw [getP_short (by omega)]
    exact ⟨Below.refl _ _, none, 0, 0, he, rfl, by omega, Rd.empty, fun h => by simp at h⟩
end Go.Proofs.Ytledmlndlpmgdaa
