/- FrameTurned is proved: a section of which one byte is turned, its length's too, isn't read; for every input, no conditions. -/
import Derived.Test.YtinalnjekbfifaaSame
import Derived.Test.YtinalnjekbfifaaLaw
import Derived.ProofKit
import Derived.Lib.SmallJoins
namespace Go.Proofs.Ytinalnjekbfifaa
open Go.RowKit Cr Me Fr

/-- Two sections just laid. -/
theorem secs_two {w : World} {B : Nat} {X A : Option Addr} {m d n c : Nat} {s t : SecD} (hm : s.body.length = m) (hm63 : m ≤ 9223372036854775807) (hx : Rd w B X s.body) (hb : t.body.length = n) (hn63 : n ≤ 9223372036854775807) (hr : Rd w B A t.body) (hB : B ≤ w.heap.size) (T : TypeId) {H : Nat} (hH : w.heap.size = H) :
    Secs (w.alloc (.cells #[.int .u8 (s.kind.toNat : Int), .slice X m d, .int .u8 (t.kind.toNat : Int), .slice A n c] T)) (w.alloc (.cells #[.int .u8 (s.kind.toNat : Int), .slice X m d, .int .u8 (t.kind.toNat : Int), .slice A n c] T)).heap.size (some ⟨H, 0, none⟩) [s, t] := by
  subst hH
  exact ⟨_, (Cs.lit w _ T).more (by simp), ⟨rfl, ⟨X, m, d, rfl, hm, hm63, (hx.alloc hB _).more (by simp; omega)⟩, rfl, ⟨A, n, c, rfl, hb, hn63, (hr.alloc hB _).more (by simp; omega)⟩, trivial⟩⟩
set_option maxRecDepth 100000 in
set_option maxHeartbeats 2000000 in
theorem fturned_walk (s : SecD) (X : Option Addr) (m d : Nat) (A : Option Addr) (n c : Nat) (b : List UInt8) (at_ : Int) (y : UInt8) (w : World) (hm : s.body.length = m) (hm63 : m ≤ 9223372036854775807) (hx : Rd w w.heap.size X s.body) (hb : b.length = n) (hn63 : n ≤ 9223372036854775807) (hr : Rd w w.heap.size A b) :
    Calls Try.prog 5 #[.agg #[.int .u8 (s.kind.toNat : Int), .slice X m d], .slice A n c, .int .i64 at_, .int .u8 (y.toNat : Int)] w fun e w' => e = .returned (.bool true) ∧ Below w.heap.size w w' := by
  obtain ⟨i0, hi0, hz0, hz1, hz2⟩ := info_parts u8_info
  have hs8 := s.kind.toNat_lt
  have hy8 := y.toNat_lt
  have HM := Lib.hid hm
  have HX := Lib.hid hx
  have HB := Lib.hid hb
  have HR := Lib.hid hr
  obtain ⟨g, hg⟩ : ∃ g, greatB [s, ⟨0, b⟩] = g := ⟨_, rfl⟩
  have HG := Lib.hid hg
  have T := Lib.hid (Two.new w (.int .u8 (s.kind.toNat : Int)) (.slice X m d) 30)
  have HB1 := Lib.hid (show Below w.heap.size w (w.alloc (.cells #[.int .u8 (s.kind.toNat : Int), .slice X m d] 30)) from (Below.refl _ _).alloc (Nat.le_refl _) _)
  have HS2 := Lib.hid (secs_two (w := w.alloc (.cells #[.int .u8 (s.kind.toNat : Int), .slice X m d] 30)) (s := s) (t := ⟨0, b⟩) (d := d) (c := c) hm hm63 (hx.alloc (Nat.le_refl _) _) hb hn63 (hr.alloc (Nat.le_refl _) _) HB1.out.size 30 (H := w.heap.size + 1) (by simp : (w.alloc (.cells #[.int .u8 (s.kind.toNat : Int), .slice X m d] 30)).heap.size = w.heap.size + 1))
  clear hm hx hb hr hg
  go_enter Try.func5, Try.ntmps5
  go_wp2_with fail
  have T2 := Lib.hid (T.out.alloc (.cells #[.int .u8 (s.kind.toNat : Int), .slice X m d, .int .u8 0, .slice A n c] 30))
  have HB2 := Lib.hid (HB1.out.alloc HB1.out.size (.cells #[.int .u8 (s.kind.toNat : Int), .slice X m d, .int .u8 0, .slice A n c] 30))
  have HS3 := Lib.hid (show Secs ((w.alloc (.cells #[.int .u8 (s.kind.toNat : Int), .slice X m d] 30)).alloc (.cells #[.int .u8 (s.kind.toNat : Int), .slice X m d, .int .u8 0, .slice A n c] 30)) ((w.alloc (.cells #[.int .u8 (s.kind.toNat : Int), .slice X m d] 30)).alloc (.cells #[.int .u8 (s.kind.toNat : Int), .slice X m d, .int .u8 0, .slice A n c] 30)).heap.size _ _ from HS2.out)
  clear HS2
  generalize ((w.alloc (.cells #[.int .u8 (s.kind.toNat : Int), .slice X m d] 30)).alloc (.cells #[.int .u8 (s.kind.toNat : Int), .slice X m d, .int .u8 0, .slice A n c] 30)) = w2 at *
  refine (great_any (some ⟨w.heap.size + 1, 0, none⟩) 2 2 [s, ⟨0, b⟩] w2 rfl (by omega) HS3.out).mono ?_
  rw [HG.out]
  rintro e w' ⟨rfl, rfl⟩
  obtain ⟨r0, r1, -, -⟩ := T2.out
  cases g with
  | true =>
    go_wp2_with (go_at_call 8; refine (awake_any _).mono ?_; rintro e w3 ⟨rfl, hb3⟩)
    go_ret
    exact ⟨rfl, HB2.out.trans (hb3.mono HB2.out.size)⟩
  | false =>
    by_cases hy0 : y.toNat = 0
    · have d1 : ((y.toNat : Int) == 0) = true := by rw [beq_iff_eq]; omega
      go_wp2_with (go_at_call 8; refine (awake_any _).mono ?_; rintro e w3 ⟨rfl, hb3⟩)
      go_ret
      exact ⟨rfl, HB2.out.trans (hb3.mono HB2.out.size)⟩
    · have d1 : ((y.toNat : Int) == 0) = false := by rw [beq_eq_false_iff_ne]; omega
      have hyz : y ≠ 0 := fun e => hy0 (by rw [e]; rfl)
      have HYZ := Lib.hid hyz
      have hsum : m + n ≤ 2000 := by
        have h := (great_false HG.out).1
        simp only [List.map_cons, List.map_nil, List.sum_cons, List.sum_nil] at h
        rw [HM.out, HB.out] at h
        omega
      clear hyz hy0
      go_wp2_with fail
      refine (fput_good none 0 0 [] X m d s w2 rfl (by omega) Rd.empty HM.out (by omega) ((HX.out.below HB2.out).more HB2.out.size)).mono ?_
      rw [List.nil_append]
      intro e w3 h
      obtain ⟨A3, q, c3, rfl, hl3, hc3, ho3, -, hb3⟩ := h.open
      have hq : q = m + 13 := by rw [← hl3, encS_length, HM.out]
      subst hq
      have HL3 := Lib.hid hl3
      have HO3 := Lib.hid (own_more ho3 HB2.out.size)
      have HB3 := Lib.hid (HB2.out.trans (hb3.mono HB2.out.size))
      clear h hl3 ho3 hb3 hc3
      by_cases hin : 0 ≤ at_ ∧ at_ < (m : Int) + 13
      · obtain ⟨hin1, hin2⟩ := hin
        obtain ⟨i, rfl⟩ := Int.eq_ofNat_of_zero_le hin1
        have hi : i < m + 13 := by omega
        have d2 : decide ((i : Int) < 0) = false := by simp
        have d3 : decide ((m : Int) + 13 ≤ (i : Int)) = false := by simp; omega
        obtain ⟨g3, cap, hA3, -, -⟩ := HO3.out.form (by omega)
        injection hA3 with hA3 _ hc3
        subst hA3 hc3
        obtain ⟨u, hu, hcu, hfu⟩ := own_at HO3.out hi
        have hu8 := u.toNat_lt
        have HU := Lib.hid hu
        have hset := own_set HO3.out i (u ^^^ y)
        rw [← xor_u8] at hset
        have HX3 := Lib.hid hset
        have HB4 := Lib.hid (HB3.out.grown hset.2 HB3.out.size (fun g e => by injection e with e; subst e; exact (HO3.out.lt _ rfl).1))
        obtain ⟨z, hz, hz0⟩ := getS_turned s b (by rw [HM.out]; omega) hu HYZ.out
        have HZ := Lib.hid hz
        have HNL := Lib.hid (show ((encS s).set i (u ^^^ y) ++ b).length = m + 13 + n by rw [List.length_append, List.length_set, HL3.out, HB.out])
        have hzb : (z != 0) = true := by rw [bne_iff_ne]; exact hz0
        clear hu hset hz hz0
        go_wp2_with (at_builtin
                     refine wpList_app rfl (.tmp 56) (.tmp 57) 25 rfl w.heap.size 5 i0 _ Try.underlying25 hi0 hz0 hz1 hz2 rfl (.slice (some ⟨g3, 0, none⟩) (m + 13) c3) (m + 13) _ rfl HX3.out.1 w.heap.size A n c b rfl HB.out (HR.out.below HB4.out) (by omega) HB4.out.size ?_
                     intro v5 w5 hown5 hg5 _)
        obtain ⟨A5, c5, rfl⟩ := own_slice hown5
        have HB5 := Lib.hid (below_app HB4.out HX3.out.1 (Nat.le_refl _) HB4.out.size hg5)
        obtain ⟨hc5, hc563⟩ := own_bounds hown5
        have HR5 := Lib.hid (Rd.of_own hown5)
        clear hown5 hg5 hcu hfu r0 r1
        refine (fget_any A5 (m + 13 + n) c5 _ w5 HNL.out hc5 hc563 HR5.out).mono ?_
        rw [HZ.out]
        rintro e w6 ⟨hb6, Y, m6, dd, rfl, hm6, -, -, -⟩
        have em : m6 = 0 := by have h1 : ([] : List UInt8).length = m6 := hm6; exact h1.symm
        subst em
        have HB6 := Lib.hid (HB5.out.trans (Below.mono hb6 HB5.out.size))
        clear hb6 hm6
        have T6 := Lib.hid (Two.new w6 (.int .u8 (noSec.kind.toNat : Int)) (.slice Y 0 dd) 30)
        have hb7 := HB6.out.alloc HB6.out.size (.cells #[.int .u8 (noSec.kind.toNat : Int), .slice Y 0 dd] 30)
        have HB7 := Lib.hid hb7
        obtain ⟨r0, r1, -, -⟩ := T6.out
        clear hb7
        go_wp2_with (go_at_call 8; refine (awake_any _).mono ?_; rintro e w8 ⟨rfl, hb8⟩; have HB8 := Lib.hid (HB7.out.trans (hb8.mono HB7.out.size)); clear hb8)
        go_ret
        exact ⟨rfl, HB8.out⟩
      · by_cases hneg : at_ < 0
        · have d2 : decide (at_ < 0) = true := by simp; omega
          clear hin
          go_wp2_with (go_at_call 8; refine (awake_any _).mono ?_; rintro e w8 ⟨rfl, hb8⟩; have HB8 := Lib.hid (HB3.out.trans (hb8.mono HB3.out.size)); clear hb8)
          go_ret
          exact ⟨rfl, HB8.out⟩
        · have d2 : decide (at_ < 0) = false := by simp; omega
          have d3 : decide ((m : Int) + 13 ≤ at_) = true := by simp; omega
          clear hin
          go_wp2_with (go_at_call 8; refine (awake_any _).mono ?_; rintro e w8 ⟨rfl, hb8⟩; have HB8 := Lib.hid (HB3.out.trans (hb8.mono HB3.out.size)); clear hb8)
          go_ret
          exact ⟨rfl, HB8.out⟩
open Go.ChangeShapes Go.WideShapes Go.ChangeAt Go.Joins
set_option maxRecDepth 100000 in
theorem frameTurned_lifted (os : Os) (started : os.Started) (H : Type) (enc : TypeId × Value → H) :
    ReturnsInHanded {} Try.checked os 5 .any (Rows.frameTurnedSpec.pre6 enc Try.prog Try.f5 Rows.frameTurnedRow.domain false) (Rows.frameTurnedSpec.post enc Try.prog Try.f5 false true false false) := by
  refine returnsInHanded_of_change (C := Try.checked) own started (by kernel_rfl) Try.func5
    (ChangeSpec.witness6 (enc := enc) (C := Try.checked) false ⟨#[], #[.agg #[.int .u8 0, .slice none 0 0], .slice none 0 0, .int .i64 0, .int .u8 0], []⟩ 8 (by kernel_rfl) (by kernel_rfl) (by kernel_rfl) (by kernel_rfl)) ?_
  intro W base args ds gs before hval0 hW hcnd _
  have hval : ∀ (j : Nat) t v, Try.f5.params[j]? = some t → args[j]? = some v → Value.okWide Try.prog W .any base t v := hval0
  have hW' := hW
  obtain ⟨p, q, hA0, hV, rfl, hfz, hnd⟩ := hW
  have hA : DataW.TrodAll enc Try.prog W 0 (fun _ => true) true Try.f5.params.toList args.toList ds p := hA0
  rw [Try.params5] at hA hval
  obtain ⟨v0, v1, v2, v3, d0, d1, d2, d3, p0, p1, p2, p3, rfl, rfl, rfl, h0, h1, h2, h3⟩ := trodAll_four hA
  obtain ⟨s, X, m, d, rfl, hm, hm63, hx⟩ := open_sec Try.underlying30 (by kernel_rfl) (by kernel_rfl) rfl rfl Try.underlying5 Try.underlying25 Try.underlying5 cells_u8 (hval 0 30 v0 rfl rfl) h0
  obtain ⟨A, n, c, b, rfl, hb, hnc, hc63, hr⟩ := open_bytes Try.underlying25 Try.underlying5 cells_u8 (hval 1 25 v1 rfl rfl) h1
  obtain ⟨at_, rfl, -, -, -⟩ := open_int Try.underlying3 (hval 2 3 v2 rfl rfl) h2
  obtain ⟨y, rfl, -, -, wy⟩ := open_int Try.underlying5 (hval 3 5 v3 rfl rfl) h3
  have hy : 0 ≤ y ∧ y < 256 := by simp [Lit.wf, IntKind.min, IntKind.max, IntKind.bits, IntKind.signed] at wy; omega
  have hy8 : y = ((UInt8.ofNat y.toNat).toNat : Int) := by rw [UInt8.toNat_ofNat']; omega
  have hwalk : Calls Try.prog 5 #[.agg #[.int .u8 (s.kind.toNat : Int), .slice X m d], .slice A n c, .int .i64 at_, .int .u8 y] W fun e w' => e = .returned (.bool true) ∧ Below W.heap.size W w' := by
    rw [hy8]
    exact fturned_walk s X m d A n c b at_ _ W hm hm63 hx hb (by omega) hr
  refine hwalk.mono fun e W' ⟨he, hb⟩ => ?_
  subst he
  exact ⟨_, rfl, Lw.post_true laidOut (by kernel_rfl) rfl rfl rfl rfl (by kernel_rfl) Try.underlying4 hW' hb⟩

/-- FrameTurned: a section of which one byte is turned, its length's too, isn't read. -/
theorem frameTurned_holds : Rows.FrameTurnedSaid :=
  OpenClaim.holds_of_wide 5 Try.f5 rfl rfl rfl rfl rfl rfl rfl ⟨rfl, rfl, rfl, rfl, rfl⟩ rfl rfl rfl rfl rfl (by kernel_rfl) Try.func5 (by kernel_rfl)
    (of_decide_eq_true (by kernel_rfl)) (by unfold Func.isWrapper; rw [if_neg (of_decide_eq_false (by kernel_rfl))]; exact ⟨rfl, rfl⟩)
    (fun os started H enc _ => frameTurned_lifted os started H enc)
#print axioms frameTurned_holds
end Go.Proofs.Ytinalnjekbfifaa
