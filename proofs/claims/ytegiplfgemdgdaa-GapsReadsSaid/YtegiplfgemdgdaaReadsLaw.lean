/- GapsReads is proved: the neighbours of any bytes, or the reader's error, are the document's; they are put as they stood; for every input, no conditions. -/
import Derived.Test.YtegiplfgemdgdaaRefGet
import Derived.Test.YtegiplfgemdgdaaGrow
import Derived.ProofKit
import Derived.Lib.SmallJoins
namespace Go.Proofs.Ytegiplfgemdgdaa
open Go.RowKit Me Va

/-- What is known of each slot of the first region. -/
def getG (M X A' : Option Addr) (k me dd n' c' g h : Nat) (x : Int) : Gw.Fact := fun t v _ =>
  match t with
  | 4 | 23 => v = .slice M k me
  | 5 | 24 => v = .slice X k dd
  | 3 | 28 | 35 => v = .pointer (some ⟨g, 0, none⟩)
  | 6 | 37 => v = .pointer (some ⟨h, 0, none⟩)
  | 30 => v = .pointer (some ⟨h, 1, none⟩)
  | 29 | 31 => v = .int .i64 x
  | 36 | 39 => v = .int .i64 (n' : Int)
  | 38 => v = .slice A' n' c'
  | 25 => v = .bool true
  | 26 | 27 | 32 | 33 | 34 | 40 | 41 => v = .bool false
  | _ => True
/-- What is known of each slot of the last region. -/
def backG (M Y A A' : Option Addr) (k me q d n c n' c' h : Nat) (en : List UInt8) : Gw.Fact := fun t v _ =>
  match t with
  | 4 | 54 => v = .slice M k me
  | 0 | 60 | 61 => v = .slice A n c
  | 7 | 58 => v = .slice Y q d
  | 8 | 51 => v = .int .i64 0
  | 6 | 63 => v = .pointer (some ⟨h, 0, none⟩)
  | 64 => v = .slice A' n' c'
  | 62 => v = .int .i64 (n : Int)
  | 65 => v = .int .i64 (n' : Int)
  | 66 => v = .int .i64 (q : Int)
  | 67 => v = .slice A q c
  | 59 | 68 => v = .string ⟨en.toArray⟩
  | 52 | 53 | 55 | 56 | 57 | 69 | 70 | 71 | 72 | 73 | 2 => v = .bool true
  | _ => True
set_option maxRecDepth 100000 in
set_option maxHeartbeats 2000000 in
theorem greads_law (A : Option Addr) (n c : Nat) (b : List UInt8) (w : World) (hb : b.length = n) (hnc : n ≤ c) (hn : n ≤ 1000) (hr : Rd w w.heap.size A b) :
    Calls Try.prog 4 #[.slice A n c] w fun e w' => e = .returned (.bool true) ∧ Below w.heap.size w w' := by
  have d1 : decide ((1000 : Int) < (n : Int)) = false := by simp; omega
  have HB := Lib.hid hb
  have HR := Lib.hid hr
  obtain ⟨out, l', x, hget⟩ : ∃ out l' x, getOf b 0 = (out, l', x) := ⟨_, _, _, rfl⟩
  have HGET := Lib.hid hget
  clear hb hr hget
  go_enter Try.func4, Try.ntmps4
  go_wp2_with fail
  refine (new_any A n c b w HB.out (by omega) HR.out).mono ?_
  rintro e1 w1 ⟨g, rfl, hg1, hs1, hrd1, hb1⟩
  have HRD1 := Lib.hid hrd1
  have HB1 := Lib.hid hb1
  clear hrd1 hb1
  go_wp2_with fail
  refine (get_any g b 0 w1 HRD1.out).mono ?_
  rw [HGET.out]
  rintro e2 w2 ⟨M, k, me, rfl, hme, ho2, hf2, hrd2, hg2⟩
  have hk : out.length = k := by
    have h1 := ho2.1
    have h2 := arcCells_length out
    have h3 : (arcCells out).length = k * 2 := h1
    omega
  have HK := Lib.hid hk
  have hk31 : k ≤ 2147483648 := by
    have h0 := get_short (show getOf b 0 = (out, l', x) from HGET.out)
    omega
  have HF := Lib.hid (show ∀ p ∈ out, p.fits from hf2)
  have HM2 := Lib.hid (Arcs.of_own ho2 hf2)
  have HRD2 := Lib.hid (show Rdr w2 g l' x from hrd2)
  have HB2 := Lib.hid (HB1.out.trans ((below_past hg2 hg1 HB1.out.size)))
  have hs2 : g < w2.heap.size := Nat.lt_of_lt_of_le hs1 hg2.size
  clear ho2 hf2 hrd2 hg2 hk
  go_wp2_with fail
  refine (refget_any A n c b 0 w2 w.heap.size HB.out hnc (by omega) (HR.out.below HB2.out) HB2.out.size).mono ?_
  rw [HGET.out]
  rintro e3 w3 ⟨hb3, X, m, dd, A', n', c', rfl, hm3, hdd, hx3, hl3, hc3, hr3⟩
  have hmk : m = k := by have h1 : out.length = m := hm3; rw [HK.out] at h1; exact h1.symm
  subst hmk
  have HX3 := Lib.hid (show Arcs w3 w3.heap.size X out from hx3)
  have HL3 := Lib.hid (show l'.length = n' from hl3)
  have HB3 := Lib.hid (HB2.out.trans (hb3.mono HB2.out.size))
  have HM3 := Lib.hid ((HM2.out.below hb3).more hb3.size)
  have HRD3 := Lib.hid (HRD2.out.past hb3)
  have hs3 : g < w3.heap.size := Nat.lt_of_lt_of_le hs2 hb3.size
  clear hm3 hx3 hl3 hr3 hb3 HM2 HRD2
  have T3 := Lib.hid (Two.new w3 (.slice A' n' c') (.int .i64 x) 40)
  have hb4 : Below w3.heap.size w3 (w3.alloc (.cells #[.slice A' n' c', .int .i64 x] 40)) := (Below.refl _ _).alloc (Nat.le_refl _) _
  have HB4 := Lib.hid (HB3.out.trans (hb4.mono HB3.out.size))
  have HM4 := Lib.hid ((HM3.out.below hb4).more hb4.size)
  have HX4 := Lib.hid ((HX3.out.below hb4).more hb4.size)
  have HRD4 := Lib.hid (HRD3.out.past hb4)
  clear hb4
  go_wp2_with fail
  generalize hw4 : w3.alloc (.cells #[.slice A' n' c', .int .i64 x] 40) = w4 at *
  refine Gw.wp_region_grow (getG M X A' m me dd n' c' g w3.heap.size x) [23, 24, 25, 26, 27, 28, 29, 30, 31, 32, 33, 34, 35, 36, 37, 38, 39, 40, 41] [([4], none), ([5], none), ([23, 24], none), ([25], none), ([26], none), ([3, 27], some (27, false)), ([28, 27], some (27, false)), ([6, 27], some (27, false)), ([30, 27], some (27, false)), ([29, 31, 27], some (27, false)), ([27, 32], none), ([33], none), ([3, 34], some (34, false)), ([35, 34], some (34, false)), ([6, 34], some (34, false)), ([37, 34], some (34, false)), ([38, 34], some (34, false)), ([36, 39, 34], some (34, false)), ([34, 40], none)] 74 (by kernel_rfl) (by kernel_rfl) rfl ?h0 ?hreq ?hend
  case h0 =>
    intro t W hnd _
    unfold getG
    split <;> first | rfl | trivial | exact absurd (by simp) hnd
  case hreq =>
    refine ⟨?_, ?_, ?_, ?_, ?_, ?_, ?_, ?_, ?_, ?_, ?_, ?_, ?_, ?_, ?_, ?_, ?_, ?_, ?_, trivial⟩
    all_goals
      intro a W hg hk
      obtain ⟨k1, k2, -, -⟩ := T3.out.past hg
      simp only [Gw.Knows, getG] at hk
      try (simp [go_sem, Gw.OpReq, Gw.Ok, Gw.Post, Gw.Holds, getG, Gw.Grows.refl, hk, k1, k2]; done)
    · simp [go_sem, Gw.OpReq, Gw.Ok, Gw.Post, Gw.Holds, getG, Gw.Grows.refl, hk]
      refine (same_any M X m me dd out W W.heap.size W.heap.size HK.out (by omega) ((HM4.out.below hg).more (Below.size hg)) ((HX4.out.below hg).more (Below.size hg)) (Nat.le_refl _) (Nat.le_refl _)).mono ?_
      rintro e5 w10 ⟨rfl, hb⟩
      exact ⟨_, rfl, hb, fun _ _ => rfl⟩
    · simp [go_sem, Gw.OpReq, Gw.Ok, Gw.Post, Gw.Holds, getG, Gw.Grows.refl, hk]
      refine (err_any g l' x W (HRD4.out.past hg)).mono ?_
      rintro e5 w10 ⟨rfl, rfl⟩
      exact ⟨_, rfl, Gw.Grows.refl _, fun _ _ => rfl⟩
    · simp [go_sem, Gw.OpReq, Gw.Ok, Gw.Post, Gw.Holds, getG, Gw.Grows.refl, hk]
      refine (left_any g l' x W (HRD4.out.past hg)).mono ?_
      rw [HL3.out]
      rintro e5 w10 ⟨rfl, rfl⟩
      exact ⟨_, rfl, Gw.Grows.refl _, fun _ _ => rfl⟩
  case hend =>
    intro y w5 hg hy
    have h41 : y 41 = .bool false := (hy 41 (by simp)).now
    have HG5 := Lib.hid (show Below w4.heap.size w4 w5 from hg)
    simp only [Gw.putAll, Act.put, List.setIfInBounds_toArray, List.set_cons_zero, List.set_cons_succ]
    rw [h41]
    clear hy h41 hg
    have T5 := Lib.hid (T3.out.past HG5.out)
    have HB5 := Lib.hid (HB4.out.trans (HG5.out.mono HB4.out.size))
    have HM5 := Lib.hid ((HM4.out.below HG5.out).more HG5.out.size)
    obtain ⟨k1, k2, -, -⟩ := T5.out
    by_cases hx0 : x = 0
    · have d2 : (x != 0) = false := by rw [hx0]; rfl
      have hg0 := HGET.out
      rw [hx0] at hg0
      have hgr := getOf_read hg0
      have HMAY := Lib.hid hgr.2.1
      have HSTOOD := Lib.hid hgr.2.2
      clear hgr hx0 hg0
      go_wp2_with fail
      refine (puts_any none 0 0 [] M m me out w5 rfl (by omega) Rd.empty HK.out (by omega) HM5.out).mono ?_
      rw [HMAY.out, if_pos rfl, if_pos rfl, List.nil_append]
      intro e5 w6 h6
      obtain ⟨Y, q, d, rfl, hly, hqd, -, hry, hb6⟩ := h6.open
      have HLY := Lib.hid hly
      have HY6 := Lib.hid hry
      have HB6 := Lib.hid (HB5.out.trans (hb6.mono HB5.out.size))
      have HM6 := Lib.hid ((HM5.out.below hb6).more hb6.size)
      have T6 := Lib.hid (T5.out.past hb6)
      have HR6 := Lib.hid ((HR.out.below HB6.out).more HB6.out.size)
      have hqn : n = q + n' := by
        have h1 := HB.out
        rw [HSTOOD.out, List.length_append, HLY.out, HL3.out] at h1
        omega
      have hqz : (n : Int) - (n' : Int) = (q : Int) := by omega
      have hqn' : q ≤ n := by omega
      clear hqn
      have hqc : q ≤ c := by omega
      have HTK := Lib.hid (show b.take q = encArcs out by rw [HSTOOD.out, ← HLY.out, List.take_left])
      have HRI := Lib.hid (may_parts HMAY.out).1
      clear hly hry hb6 h6 k1 k2
      go_wp2_with fail
      refine Gw.wp_region_grow (backG M Y A A' m me q d n c n' c' w3.heap.size (encArcs out)) [51, 52, 53, 54, 55, 56, 57, 58, 59, 60, 61, 62, 63, 64, 65, 66, 67, 68, 69, 70, 71, 72, 73, 2] [([8], none), ([51], none), ([52], none), ([4, 53], some (53, true)), ([54, 53], some (53, true)), ([53, 55], none), ([56], none), ([7, 57], some (57, true)), ([58, 57], some (57, true)), ([0, 57], some (57, true)), ([0, 57], some (57, true)), ([61, 57], some (57, true)), ([6, 57], some (57, true)), ([63, 57], some (57, true)), ([64, 57], some (57, true)), ([62, 65, 57], some (57, true)), ([60, 66, 57], some (57, true)), ([67, 57], some (57, true)), ([59, 68, 57], some (57, true)), ([57, 69], none), ([70], none), ([71], some (71, true)), ([71, 72], none), ([73], none)] 74 (by kernel_rfl) (by kernel_rfl) rfl ?h1 ?hreq1 ?hend1
      case h1 =>
        intro t W hnd _
        unfold backG
        split <;> first | rfl | trivial | exact absurd (by simp) hnd
      case hreq1 =>
        refine ⟨?_, ?_, ?_, ?_, ?_, ?_, ?_, ?_, ?_, ?_, ?_, ?_, ?_, ?_, ?_, ?_, ?_, ?_, ?_, ?_, ?_, ?_, ?_, ?_, trivial⟩
        all_goals
          intro a W hg hk
          obtain ⟨k1, -, -, -⟩ := T6.out.past hg
          have k3 := str_any _ _ d _ W _ HLY.out (HY6.out.below hg)
          have k4 := str_any A q c (encArcs out) W _ HLY.out (by rw [← HTK.out]; exact (HR6.out.below hg).take q)
          simp only [Gw.Knows, backG] at hk
          try (simp [go_sem, Gw.OpReq, Gw.Ok, Gw.Post, Gw.Holds, backG, Gw.Grows.refl, hk, k1, k3, k4, hqz]; done)
        · simp [go_sem, Gw.OpReq, Gw.Ok, Gw.Post, Gw.Holds, backG, Gw.Grows.refl, hk]
          refine (refmay_any M m me out W HK.out (by omega) ((HM6.out.below hg).more (Below.size hg))).mono ?_
          rw [HMAY.out]
          rintro e5 w10 ⟨rfl, hb⟩
          exact ⟨_, rfl, hb, fun _ _ => rfl⟩
        · simp [go_sem, Gw.OpReq, Gw.Ok, Gw.Post, Gw.Holds, backG, Gw.Grows.refl, hk]
          intro _ _
          rw [hqz]
          exact IntWalk.i64_in _ (by omega)
        · simp [go_sem, Gw.OpReq, Gw.Ok, Gw.Post, Gw.Holds, backG, Gw.Grows.refl, hk, hqc]
        · simp [go_sem, Gw.OpReq, Gw.Ok, Gw.Post, Gw.Holds, backG, Gw.Grows.refl, hk]
          refine (awake_any W).mono ?_
          rintro e5 w10 ⟨rfl, hb⟩
          exact ⟨_, rfl, hb, fun _ _ => rfl⟩
      case hend1 =>
        intro x w' hg hx
        have h2 : x 2 = .bool true := (hx 2 (by simp)).now
        simp only [Gw.putAll, Act.put, List.setIfInBounds_toArray, List.set_cons_zero, List.set_cons_succ]
        rw [h2]
        go_wp2
        go_ret
        exact ⟨rfl, HB6.out.trans (Below.mono hg HB6.out.size)⟩
    · have d2 : (x != 0) = true := by rw [bne_iff_ne]; exact hx0
      clear hx0
      go_wp2_with fail
      refine (awake_any w5).mono ?_
      rintro e5 w6 ⟨rfl, hb6⟩
      have HB6 := Lib.hid (HB5.out.trans (hb6.mono HB5.out.size))
      clear hb6
      go_wp2
      go_ret
      exact ⟨rfl, HB6.out⟩
theorem greads_long (A : Option Addr) (n c : Nat) (w : World) (hn : 1000 < n) :
    Calls Try.prog 4 #[.slice A n c] w fun e w' => e = .returned (.bool true) ∧ Below w.heap.size w w' := by
  have h1 : decide ((1000 : Int) < (n : Int)) = true := by simp; omega
  go_enter Try.func4, Try.ntmps4
  go_wp2_with (go_at_call 6; refine (awake_any _).mono ?_; rintro e w1 ⟨rfl, hb⟩)
  go_ret
  exact ⟨rfl, hb⟩
open Go.ChangeShapes Go.WideShapes Go.ChangeAt Go.Joins
set_option maxRecDepth 100000 in
theorem gapsReads_lifted (os : Os) (started : os.Started) (H : Type) (enc : TypeId × Value → H) :
    ReturnsInHanded {} Try.checked os 4 .any (Rows.gapsReadsSpec.pre6 enc Try.prog Try.f4 Rows.gapsReadsRow.domain false) (Rows.gapsReadsSpec.post enc Try.prog Try.f4 false true false false) := by
  refine returnsInHanded_of_change (C := Try.checked) own started (by kernel_rfl) Try.func4
    (ChangeSpec.witness6 (enc := enc) (C := Try.checked) false ⟨#[], #[.slice none 0 0], []⟩ 8 (by kernel_rfl) (by kernel_rfl) (by kernel_rfl) (by kernel_rfl)) ?_
  intro W base args ds gs before hval0 hW hcnd _
  have hval : ∀ (j : Nat) t v, Try.f4.params[j]? = some t → args[j]? = some v → Value.okWide Try.prog W .any base t v := hval0
  have hW' := hW
  obtain ⟨p, q, hA0, hV, rfl, hfz, hnd⟩ := hW
  have hA : DataW.TrodAll enc Try.prog W 0 (fun _ => true) true Try.f4.params.toList args.toList ds p := hA0
  rw [Try.params4] at hA hval
  obtain ⟨v0, d0, rfl, rfl, h0⟩ := trodAll_one hA
  obtain ⟨A, n, c, b, rfl, hb, hnc, hc63, hr⟩ := open_bytes Try.underlying22 Try.underlying5 cells_u8 (hval 0 22 v0 rfl rfl) h0
  have hwalk : Calls Try.prog 4 #[.slice A n c] W fun e w' => e = .returned (.bool true) ∧ Below W.heap.size W w' := by
    by_cases h : 1000 < n
    · exact greads_long A n c W h
    · exact greads_law A n c b W hb hnc (by omega) hr
  refine hwalk.mono fun e W' ⟨he, hb⟩ => ?_
  subst he
  exact ⟨_, rfl, Lw.post_true laidOut (by kernel_rfl) rfl rfl rfl rfl (by kernel_rfl) Try.underlying4 hW' hb⟩

/-- GapsReads: the neighbours of any bytes, or the reader's error, are the document's; they are put as they stood. -/
theorem gapsReads_holds : Rows.GapsReadsSaid :=
  OpenClaim.holds_of_wide 4 Try.f4 rfl rfl rfl rfl rfl rfl rfl ⟨rfl, rfl, rfl, rfl, rfl⟩ rfl rfl rfl rfl rfl (by kernel_rfl) Try.func4 (by kernel_rfl)
    (of_decide_eq_true (by kernel_rfl)) (by unfold Func.isWrapper; rw [if_neg (of_decide_eq_false (by kernel_rfl))]; exact ⟨rfl, rfl⟩)
    (fun os started H enc _ => gapsReads_lifted os started H enc)
#print axioms gapsReads_holds
end Go.Proofs.Ytegiplfgemdgdaa
