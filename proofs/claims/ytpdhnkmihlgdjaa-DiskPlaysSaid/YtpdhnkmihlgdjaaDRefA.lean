/- The document's disk: what stands for good, what is read, a deed. -/
import Derived.Test.YtpdhnkmihlgdjaaDRef
namespace Go.Proofs.Ytpdhnkmihlgdjaa
open Go.RowKit Me Rw Ds

/-- What is known of each slot of Good. -/
def goodG (H : Nat) (Am : Option Addr) (nm cm i : Nat) (made : List WD) : Gw.Fact := fun t v _ =>
  match t with
  | 2 => v = .pointer (some ⟨H, 0, none⟩)
  | 5 => v = .pointer (some ⟨H, 3, none⟩)
  | 6 => v = .slice Am nm cm
  | 1 | 7 => v = .int .i64 (i : Int)
  | 8 => v = sv zero128
  | 9 | 4 => v = sv (lastW made i zero128)
  | _ => True
set_option maxRecDepth 100000 in
set_option maxHeartbeats 1000000 in
theorem good_any (cn : Int) (of : Bool) (f : Int) (Am : Option Addr) (nm cm : Nat) (Aw : Option Addr) (nw cw : Nat) (made : List WD) (i : Nat) (own : Nat → Prop) (w : World) (hl : made.length = nm) (hn : nm ≤ 4611686018427387904) (h : Cy w own Am made) :
    Calls Try.prog 30 #[.agg #[.int .i64 cn, .bool of, .int .i64 f, .slice Am nm cm, .slice Aw nw cw], .int .i64 (i : Int)] w fun e w' => e = .returned (sv (lastW made i zero128)) ∧ Below w.heap.size w w' := by
  have HBk := Lib.hid (Blk.new w [.int .i64 cn, .bool of, .int .i64 f, .slice Am nm cm, .slice Aw nw cw] 30)
  have HB := Lib.hid (show Below w.heap.size w (w.alloc (.cells [.int .i64 cn, .bool of, .int .i64 f, .slice Am nm cm, .slice Aw nw cw].toArray 30)) from (Below.refl _ _).alloc (Nat.le_refl _) _)
  have HA := Lib.hid (h.past HB.out)
  have HLn := Lib.hid hl
  clear h hl
  go_enter Try.func30, Try.ntmps30
  go_wp2_with fail
  generalize w.alloc (.cells #[.int .i64 cn, .bool of, .int .i64 f, .slice Am nm cm, .slice Aw nw cw] 30) = w1 at *
  refine Gw.wp_region_grow (goodG w.heap.size Am nm cm i made) [5, 6, 7, 8, 9, 4] [([2], none), ([5], none), ([1], none), ([], none), ([6, 7, 8], none), ([9], none)] 10 (by kernel_rfl) (by kernel_rfl) rfl ?h0 ?hreq ?hend
  case h0 =>
    intro t W hnd _
    unfold goodG
    split <;> first | rfl | trivial | exact absurd (by simp) hnd
  case hreq =>
    refine ⟨?_, ?_, ?_, ?_, ?_, ?_, trivial⟩
    all_goals
      intro ac W hg hk
      obtain ⟨-, -, -, k3, -⟩ := ((show Blk w1 w.heap.size _ from HBk.out).past hg).five
      simp only [Gw.Knows, goodG] at hk
      try (simp [go_sem, Gw.OpReq, Gw.Ok, Gw.Post, Gw.Holds, goodG, Gw.Grows.refl, hk, k3]; done)
    · simp [go_sem, Gw.OpReq, Gw.Ok, Gw.Post, Gw.Holds, goodG, Gw.Grows.refl]
      refine (zeros_any W).mono ?_
      rintro e w5 ⟨rfl, hb⟩
      exact ⟨_, rfl, hb, fun _ _ => rfl⟩
    · simp [go_sem, Gw.OpReq, Gw.Ok, Gw.Post, Gw.Holds, goodG, Gw.Grows.refl, hk]
      refine (last_any Am nm cm made i zero128 own W HLn.out hn ((show Cy w1 own Am made from HA.out).past hg)).mono ?_
      rintro e w5 ⟨rfl, rfl⟩
      exact ⟨_, rfl, Gw.Grows.refl _, fun _ _ => rfl⟩
  case hend =>
    intro x w' hg hx
    have h4 : x 4 = sv (lastW made i zero128) := (hx 4 (by simp)).now
    have HB2 := Lib.hid ((show Below w.heap.size w w1 from HB.out).trans (Below.mono (show Below w1.heap.size w1 w' from hg) HB.out.size))
    clear hx hg
    simp only [Gw.putAll, Act.put, List.setIfInBounds_toArray, List.set_cons_zero, List.set_cons_succ]
    rw [h4]
    go_wp2
    go_ret
    exact ⟨rfl, HB2.out⟩
/-- The error of the document's read. -/
def readER (m : RefM) (i : Int) : Int := if m.off then 6 else if hasB m.count i then 0 else 9
def readR (m : RefM) (i : Int) : List UInt8 := if readER m i = 0 then lastW m.wait i.toNat (lastW m.made i.toNat zero128) else []
/-- What is known of each slot of Read. -/
def rdG (H : Nat) (cn : Int) (of : Bool) (f : Int) (Am : Option Addr) (nm cm : Nat) (Aw : Option Addr) (nw cw i : Nat) (b r : List UInt8) : Gw.Fact := fun t v _ =>
  match t with
  | 2 => v = .pointer (some ⟨H, 0, none⟩)
  | 16 => v = .pointer (some ⟨H, 4, none⟩)
  | 17 => v = .slice Aw nw cw
  | 1 | 18 | 20 => v = .int .i64 (i : Int)
  | 19 => v = .agg #[.int .i64 cn, .bool of, .int .i64 f, .slice Am nm cm, .slice Aw nw cw]
  | 21 => v = sv b
  | 22 | 4 => v = sv r
  | 5 => v = .int .i64 0
  | _ => True
set_option maxRecDepth 100000 in
set_option maxHeartbeats 1000000 in
theorem rread_any {own : Nat → Prop} {w : World} {m : RefM} {Am Aw : Option Addr} {nm cm nw cw : Nat} (h : RefAt w own m Am cm Aw cw) (hm : m.made.length = nm) (hw : m.wait.length = nw) (hnm : nm ≤ 4611686018427387904) (hnw : nw ≤ 4611686018427387904) (i : Int) :
    Calls Try.prog 15 #[.agg #[.int .i64 (m.count : Int), .bool m.off, .int .i64 m.fuse, .slice Am nm cm, .slice Aw nw cw], .int .i64 i] w fun e w' => e = .returned (.tuple #[sv (readR m i), .int .i64 (readER m i)]) ∧ Below w.heap.size w w' := by
  have HBk := Lib.hid (Blk.new w [.int .i64 (m.count : Int), .bool m.off, .int .i64 m.fuse, .slice Am nm cm, .slice Aw nw cw] 30)
  have HB := Lib.hid (show Below w.heap.size w (w.alloc (.cells [.int .i64 (m.count : Int), .bool m.off, .int .i64 m.fuse, .slice Am nm cm, .slice Aw nw cw].toArray 30)) from (Below.refl _ _).alloc (Nat.le_refl _) _)
  have HA := Lib.hid (h.past HB.out)
  have HM := Lib.hid hm
  have HW := Lib.hid hw
  obtain ⟨x, hx⟩ : ∃ x, x = readER m i := ⟨_, rfl⟩
  obtain ⟨r, hr⟩ : ∃ r, r = readR m i := ⟨_, rfl⟩
  rw [← hx, ← hr]
  have hx' := hx
  have hr' := hr
  unfold readR at hr'
  rw [← hx] at hr'
  unfold readER at hx'
  obtain ⟨mo, hmo⟩ : ∃ mo, mo = m.off := ⟨_, rfl⟩
  obtain ⟨mc, hmc⟩ : ∃ mc, mc = m.count := ⟨_, rfl⟩
  rw [← hmo] at hx' HBk HB HA ⊢
  rw [← hmc] at hx' HBk HB HA ⊢
  generalize m.fuse = mf at *
  have HH := Lib.hid h
  clear h hm hw hx hr hmo hmc
  cases mo with
  | true =>
    rw [if_pos rfl] at hx'
    subst hx'
    rw [if_neg (by omega)] at hr'
    subst hr'
    clear HA
    go_enter Try.func15, Try.ntmps15
    go_wp2
    exact bodyPost_ret (v := .tuple #[sv [], .int .i64 6]) (by simp [results, Try.results15, go_sem, sv]) rfl ⟨rfl, HB.out⟩
  | false =>
    rw [if_neg (by simp)] at hx'
    cases hb : hasB mc i with
    | false =>
      rw [hb, if_neg (by simp)] at hx'
      subst hx'
      rw [if_neg (by omega)] at hr'
      subst hr'
      have hway : decide (i < 0) = true ∨ (decide (i < 0) = false ∧ decide ((mc : Int) ≤ i) = true) := by
        unfold hasB at hb
        simp at hb ⊢
        omega
      clear HA hb
      rcases hway with d1 | ⟨d1, d2⟩
      all_goals
        go_enter Try.func15, Try.ntmps15
        go_wp2
        exact bodyPost_ret (v := .tuple #[sv [], .int .i64 9]) (by simp [results, Try.results15, go_sem, sv]) rfl ⟨rfl, HB.out⟩
    | true =>
      rw [hb, if_pos rfl] at hx'
      subst hx'
      rw [if_pos rfl] at hr'
      obtain ⟨k, rfl, hk⟩ := hasB_true hb
      rw [Int.toNat_natCast] at hr'
      have d1 : decide ((k : Int) < 0) = false := by simp
      have d2 : decide ((mc : Int) ≤ (k : Int)) = false := by simp; omega
      have HRr := Lib.hid hr'
      clear hb hr'
      go_enter Try.func15, Try.ntmps15
      go_wp2_with fail
      generalize w.alloc (.cells #[.int .i64 (mc : Int), .bool false, .int .i64 mf, .slice Am nm cm, .slice Aw nw cw] 30) = w1 at *
      refine Gw.wp_region_grow (rdG w.heap.size mc false mf Am nm cm Aw nw cw k (lastW m.made k zero128) r) [16, 17, 18, 19, 20, 21, 22, 4, 5] [([2], none), ([16], none), ([1], none), ([2], none), ([1], none), ([19, 20], none), ([17, 18, 21], none), ([22], none), ([], none)] 23 (by kernel_rfl) (by kernel_rfl) rfl ?h0 ?hreq ?hend
      case h0 =>
        intro t W hnd _
        unfold rdG
        split <;> first | rfl | trivial | exact absurd (by simp) hnd
      case hreq =>
        refine ⟨?_, ?_, ?_, ?_, ?_, ?_, ?_, ?_, ?_, trivial⟩
        all_goals
          intro ac W hg hk
          obtain ⟨k0, k1, k2, k3, k4⟩ := ((show Blk w1 w.heap.size _ from HBk.out).past hg).five
          simp only [Gw.Knows, rdG] at hk
          try (simp [go_sem, Gw.OpReq, Gw.Ok, Gw.Post, Gw.Holds, rdG, Gw.Grows.refl, hk, k0, k1, k2, k3, k4]; done)
        · simp [go_sem, Gw.OpReq, Gw.Ok, Gw.Post, Gw.Holds, rdG, Gw.Grows.refl, hk]
          refine (good_any _ _ _ Am nm cm Aw nw cw m.made k own W HM.out hnm ((show RefAt w1 own m Am cm Aw cw from HA.out).made.past hg)).mono ?_
          rintro e w5 ⟨rfl, hb⟩
          exact ⟨_, rfl, hb, fun _ _ => rfl⟩
        · simp [go_sem, Gw.OpReq, Gw.Ok, Gw.Post, Gw.Holds, rdG, Gw.Grows.refl, hk]
          refine (last_any Aw nw cw m.wait k _ own W HW.out hnw ((show RefAt w1 own m Am cm Aw cw from HA.out).wait.past hg)).mono ?_
          rintro e w5 ⟨rfl, rfl⟩
          exact ⟨_, rfl, Gw.Grows.refl _, fun _ _ => by rw [HRr.out]⟩
      case hend =>
        intro x w' hg hx
        have h4 : x 4 = sv r := (hx 4 (by simp)).now
        have h5 : x 5 = .int .i64 0 := (hx 5 (by simp)).now
        have HB2 := Lib.hid ((show Below w.heap.size w w1 from HB.out).trans (Below.mono (show Below w1.heap.size w1 w' from hg) HB.out.size))
        clear hx hg
        simp only [Gw.putAll, Act.put, List.setIfInBounds_toArray, List.set_cons_zero, List.set_cons_succ]
        rw [h4, h5]
        go_wp2
        exact bodyPost_ret (v := .tuple #[sv r, .int .i64 0]) (by simp [results, Try.results15, go_sem, sv]) rfl ⟨rfl, HB2.out⟩
end Go.Proofs.Ytpdhnkmihlgdjaa
