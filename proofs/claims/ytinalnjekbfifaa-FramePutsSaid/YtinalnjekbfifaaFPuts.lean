/- FramePuts is proved: any sections' bytes, one behind the other, are the document's, and read as they were; for every input, no conditions. -/
import Derived.Test.YtinalnjekbfifaaSame
import Derived.Test.YtinalnjekbfifaaLaw
import Derived.ProofKit
import Derived.Lib.SmallJoins
namespace Go.Proofs.Ytinalnjekbfifaa
open Go.RowKit Cr Me Fr

theorem encAll_length : ∀ l : List SecD, (encAll l).length = (l.map (fun s => s.body.length)).sum + 13 * l.length
  | [] => rfl
  | s :: l => by
    rw [encAll, List.length_append, encS_length, encAll_length l]
    simp only [List.map_cons, List.sum_cons, List.length_cons]
    omega
theorem body_le : ∀ {l : List SecD} {s : SecD}, s ∈ l → s.body.length ≤ (l.map (fun s => s.body.length)).sum
  | t :: l, s, h => by
    simp only [List.map_cons, List.sum_cons]
    rcases List.mem_cons.1 h with rfl | h
    · omega
    · have := body_le h; omega
theorem encAll_take_le (l : List SecD) (k : Nat) : (encAll (l.take k)).length ≤ (encAll l).length := by
  conv => rhs; rw [← List.take_append_drop k l, encAll_append, List.length_append]
  omega
/-- What stands behind some rounds: both rows of bytes. -/
def PutsRel (w : World) (l : List SecD) (k : Nat) (bv v : Value) (wr : World) : Prop :=
  ∃ q, q ≤ 2650 ∧ (encAll (l.take k)).length = q ∧ wr.ownsRow w.heap.size 5 1 bv q (cellsOf (encAll (l.take k))) ∧ wr.ownsRow w.heap.size 5 1 v q (cellsOf (encAll (l.take k))) ∧ Below w.heap.size w wr
set_option maxRecDepth 100000 in
set_option maxHeartbeats 2000000 in
theorem fputs_law (L : Option Addr) (m d : Nat) (l : List SecD) (w : World) (hl : l.length = m) (hm : m ≤ 9223372036854775807) (ha : Secs w w.heap.size L l) (hg : greatB l = false) :
    Calls Try.prog 3 #[.slice L m d] w fun e w' => e = .returned (.bool true) ∧ Below w.heap.size w w' := by
  obtain ⟨i0, hi0, hz0, hz1, hz2⟩ := info_parts u8_info
  obtain ⟨hsum, h50⟩ := great_false hg
  have HSUM := Lib.hid hsum
  have hm50 : m ≤ 50 := by omega
  have HTOT := Lib.hid (show (encAll l).length ≤ 2650 by rw [encAll_length]; omega)
  have HL := Lib.hid hl
  have HA := Lib.hid ha
  have HG := Lib.hid hg
  have hb0 : Below w.heap.size w (w.alloc (.cells #[] 5)) := (Below.refl _ _).alloc (Nat.le_refl _) _
  have HREL := Lib.hid (show PutsRel w l 0 (.slice (some ⟨w.heap.size, 0, none⟩) 0 0) (.slice (some ⟨w.heap.size + 1, 0, none⟩) 0 0) ((w.alloc (.cells #[] 5)).alloc (.cells #[] 5)) from
    ⟨0, by omega, rfl, (own_empty w _ _ (Nat.le_refl _)).alloc _, by
      have := own_empty (w.alloc (.cells #[] 5)) w.heap.size 5 hb0.size
      rwa [World.size_alloc] at this, hb0.alloc hb0.size _⟩)
  clear hl ha hg hsum h50 hb0
  go_enter Try.func3, Try.ntmps3
  go_wp2_with fail
  refine (great_any L m d l w HL.out hm HA.out).mono ?_
  rw [HG.out]
  rintro e w' ⟨rfl, rfl⟩
  go_wp2
  go_loopw [3, 4, 5] (fun bv v i wr => ∃ k : Nat, k ≤ m ∧ i = .int .i64 k ∧ Hid (PutsRel w l k bv v wr)) (fun _ _ i _ => m - (intOf i).toNat)
  case atStart => exact ⟨0, Nat.zero_le _, rfl, HREL⟩
  case round =>
    clear HREL
    obtain ⟨k, hk, rfl, HP⟩ := hrel
    obtain ⟨q, hq, hql, hob, how, hbw⟩ := HP.out
    have HQL := Lib.hid hql
    have HOB := Lib.hid hob
    have HOW := Lib.hid how
    have HBW := Lib.hid hbw
    have hsz := hbw.size
    clear hql hob how hbw HP
    by_cases hlt : k < m
    · have hlt' : k < l.length := by rw [HL.out]; exact hlt
      obtain ⟨a, s, X, n, c, rfl, hs, hab, h0, h1, hn, -, hx⟩ := (HA.out.below HBW.out).at hlt'
      have hn1 : n ≤ 2000 := by
        have := body_le (List.mem_of_getElem? hs)
        have := HSUM.out
        omega
      have hqn : q + (n + 13) ≤ 2650 := by
        have h1 := encAll_take hs
        have h2 := encAll_take_le l (k + 1)
        rw [h1, List.length_append, encS_length, HQL.out, hn] at h2
        have := HTOT.out
        omega
      have HS := Lib.hid hs
      have HN := Lib.hid hn
      have HX := Lib.hid hx
      obtain ⟨A, c2, rfl⟩ := own_slice HOB.out
      have q0 : (0 : Int) ≤ (k : Int) := by omega
      have q1 : (k : Int) < (m : Int) := by omega
      have hs8 := s.kind.toNat_lt
      have HC := Lib.hid (And.intro h0 h1)
      clear hs hn hx hlt'
      go_wp2_with fail
      refine (fput_good A q c2 (encAll (l.take k)) X n c s wr HQL.out (by omega) (Rd.of_own HOB.out) HN.out (by omega) (HX.out.more hsz)).mono ?_
      intro e w2 h
      obtain ⟨A2, q2, c3, rfl, hl2, hc2, ho2, hr2, hb2⟩ := h.open
      rw [← encAll_take HS.out] at hl2 ho2
      have hq2 : q2 = q + (n + 13) := by
        rw [← hl2, encAll_take HS.out, List.length_append, encS_length, HQL.out, HN.out]
      subst hq2
      have HL2 := Lib.hid hl2
      have HO2 := Lib.hid ho2
      have HB2 := Lib.hid (HBW.out.trans (hb2.mono hsz))
      have HW2 := Lib.hid (own_below HOW.out hb2)
      have hb2s := hb2.size
      have k0 := (hb2.cell (p := a.add (k * 2)) (by rw [block_add]; omega)).trans HC.out.1
      have k1 := (hb2.cell (p := ⟨(a.add (k * 2)).block, (a.add (k * 2)).off + 1, none⟩) (by show (a.add (k * 2)).block < _; rw [block_add]; omega)).trans HC.out.2
      have HX2 := Lib.hid ((HX.out.below (hb2.mono hsz)).more HB2.out.size)
      clear hl2 ho2 hb2 h hr2 h0 h1
      go_wp2_with fail
      refine (ref_fput_any X n c s w2 HN.out (by omega) HX2.out).mono ?_
      intro e w3 h
      obtain ⟨Y, n3, c4, rfl, hl3, hc3, -, hr3, hb3⟩ := h.open
      have hn3 : n3 = n + 13 := by rw [← hl3, encS_length, HN.out]
      subst hn3
      have HL3 := Lib.hid hl3
      have HR3 := Lib.hid hr3
      have HB3 := Lib.hid (HB2.out.trans (hb3.mono HB2.out.size))
      have HW3 := Lib.hid (own_below HW2.out hb3)
      have HO3 := Lib.hid (own_below HO2.out hb3)
      have HWL := Lib.hid (fun g (e : u4.ownBlock = some g) => (HOW.out.lt g e).2)
      clear hl3 hr3 hb3 h
      go_wp2_with (at_builtin
                   refine wpList_app rfl (.tmp 33) (.tmp 38) 25 rfl w.heap.size 5 i0 _ Try.underlying25 hi0 hz0 hz1 hz2 rfl u4 q _ rfl HW3.out w3.heap.size Y (n + 13) c4 _ rfl HL3.out HR3.out (by omega) HB3.out.size ?_
                   intro v5 w5 hown5 hg5 _
                   have HREL := Lib.hid (show PutsRel w l (k + 1) (.slice A2 (q + (n + 13)) c3) v5 w5 from
                     ⟨q + (n + 13), hqn, HL2.out, own_more (HO3.out.kept hg5 (by
                       cases hv : (Value.slice A2 (q + (n + 13)) c3).ownBlock with
                       | none => exact .inl rfl
                       | some g =>
                         right
                         intro e
                         have h1 := (HO3.out.lt g hv).1
                         have h2 := HWL.out g e.symm
                         omega)) hsz, by rw [encAll_take HS.out]; exact hown5, below_app HB3.out HW3.out (Nat.le_refl _) HB3.out.size hg5⟩)
                   clear hown5 hg5)
      go_roundw
      case rel => exact ⟨k + 1, by omega, by go_num, HREL⟩
      case measure => simp [intOf]; omega
    · have htk : l.take k = l := List.take_of_length_le (by rw [HL.out]; omega)
      rw [htk] at HQL HOB HOW
      obtain ⟨A, c, rfl⟩ := own_slice HOB.out
      obtain ⟨A', c', rfl⟩ := own_slice HOW.out
      have HB8 := Lib.hid (fun s (hs : s ∈ l) => (show s.body.length ≤ 1048576 by have := body_le hs; have := HSUM.out; omega))
      have hcap : q ≤ c ∧ c ≤ 9223372036854775807 := by
        rcases HOB.out.2 with ⟨e, e2⟩ | ⟨g, cap, cur, e, -, -, h1, h2, -⟩
        · injection e with e1 e2 e3; omega
        · injection e with e1 e2 e3
          subst e3
          unfold maxLen at h2
          omega
      obtain ⟨hcap1, hcap2⟩ := hcap
      go_wp2_with fail
      refine (fall_any A q c (encAll l) wr HQL.out hcap1 hcap2 (by omega) (Rd.of_own HOB.out)).mono ?_
      rw [secsOf_enc l HB8.out]
      rintro e w5 ⟨hb5, M, k5, d5, rfl, hk5, hs5⟩
      have hk5m : k5 = m := by rw [← hk5, HL.out]
      subst hk5m
      have HB5 := Lib.hid (HBW.out.trans (hb5.mono hsz))
      have k1 := str_any A q c _ w5 _ HQL.out (Rd.of_own (own_below HOB.out hb5))
      have k2 := str_any A' q c' _ w5 _ HQL.out (Rd.of_own (own_below HOW.out hb5))
      have HM5 := Lib.hid (show Secs w5 w5.heap.size M l from hs5)
      have HA5 := Lib.hid ((HA.out.below HB5.out).more HB5.out.size)
      clear hb5 hs5
      go_wp2_with (first
        | (go_at_call 12; refine (ssame_any M L k5 d5 d l w5 HL.out (by omega) HM5.out HA5.out).mono ?_; rintro e w6 ⟨rfl, hb6⟩; have HB6 := Lib.hid (HB5.out.trans (hb6.mono HB5.out.size)); clear hb6)
        | (go_at_call 8; refine (awake_any w6).mono ?_; rintro e w7 ⟨rfl, hb7⟩; have HB7 := Lib.hid (HB6.out.trans (hb7.mono HB6.out.size)); clear hb7))
      go_ret
      exact ⟨rfl, HB7.out⟩
theorem fputs_great (L : Option Addr) (m d : Nat) (l : List SecD) (w : World) (hl : l.length = m) (hm : m ≤ 9223372036854775807) (ha : Secs w w.heap.size L l) (hg : greatB l = true) :
    Calls Try.prog 3 #[.slice L m d] w fun e w' => e = .returned (.bool true) ∧ Below w.heap.size w w' := by
  have HL := Lib.hid hl
  have HA := Lib.hid ha
  have HG := Lib.hid hg
  clear hl ha hg
  go_enter Try.func3, Try.ntmps3
  go_wp2_with fail
  refine (great_any L m d l w HL.out hm HA.out).mono ?_
  rw [HG.out]
  rintro e w' ⟨rfl, rfl⟩
  go_wp2_with (go_at_call 8; refine (awake_any _).mono ?_; rintro e w1 ⟨rfl, hb⟩)
  go_ret
  exact ⟨rfl, hb⟩
theorem fputs_walk (L : Option Addr) (m d : Nat) (l : List SecD) (w : World) (hl : l.length = m) (hm : m ≤ 9223372036854775807) (ha : Secs w w.heap.size L l) :
    Calls Try.prog 3 #[.slice L m d] w fun e w' => e = .returned (.bool true) ∧ Below w.heap.size w w' := by
  cases hg : greatB l with
  | true => exact fputs_great L m d l w hl hm ha hg
  | false => exact fputs_law L m d l w hl hm ha hg
open Go.ChangeShapes Go.WideShapes Go.ChangeAt Go.Joins
set_option maxRecDepth 100000 in
theorem framePuts_lifted (os : Os) (started : os.Started) (H : Type) (enc : TypeId × Value → H) :
    ReturnsInHanded {} Try.checked os 3 .any (Rows.framePutsSpec.pre6 enc Try.prog Try.f3 Rows.framePutsRow.domain false) (Rows.framePutsSpec.post enc Try.prog Try.f3 false true false false) := by
  refine returnsInHanded_of_change (C := Try.checked) own started (by kernel_rfl) Try.func3
    (ChangeSpec.witness6 (enc := enc) (C := Try.checked) false ⟨#[], #[.slice none 0 0], []⟩ 8 (by kernel_rfl) (by kernel_rfl) (by kernel_rfl) (by kernel_rfl)) ?_
  intro W base args ds gs before hval0 hW hcnd _
  have hval : ∀ (j : Nat) t v, Try.f3.params[j]? = some t → args[j]? = some v → Value.okWide Try.prog W .any base t v := hval0
  have hW' := hW
  obtain ⟨p, q, hA0, hV, rfl, hfz, hnd⟩ := hW
  have hA : DataW.TrodAll enc Try.prog W 0 (fun _ => true) true Try.f3.params.toList args.toList ds p := hA0
  rw [Try.params3] at hA hval
  obtain ⟨v0, d0, rfl, rfl, h0⟩ := trodAll_one hA
  obtain ⟨L, m, d, l, rfl, hl, hmd, hd63, ha⟩ := open_secs Try.underlying22 Try.underlying30 (by kernel_rfl) (by kernel_rfl) rfl rfl Try.underlying5 Try.underlying25 Try.underlying5 cells_u8 (hval 0 22 v0 rfl rfl) h0
  have hwalk : Calls Try.prog 3 #[.slice L m d] W fun e w' => e = .returned (.bool true) ∧ Below W.heap.size W w' := by
    exact fputs_walk L m d l W hl (by omega) ha
  refine hwalk.mono fun e W' ⟨he, hb⟩ => ?_
  subst he
  exact ⟨_, rfl, Lw.post_true laidOut (by kernel_rfl) rfl rfl rfl rfl (by kernel_rfl) Try.underlying4 hW' hb⟩

/-- FramePuts: any sections' bytes, one behind the other, are the document's, and read as they were. -/
theorem framePuts_holds : Rows.FramePutsSaid :=
  OpenClaim.holds_of_wide 3 Try.f3 rfl rfl rfl rfl rfl rfl rfl ⟨rfl, rfl, rfl, rfl, rfl⟩ rfl rfl rfl rfl rfl (by kernel_rfl) Try.func3 (by kernel_rfl)
    (of_decide_eq_true (by kernel_rfl)) (by unfold Func.isWrapper; rw [if_neg (of_decide_eq_false (by kernel_rfl))]; exact ⟨rfl, rfl⟩)
    (fun os started H enc _ => framePuts_lifted os started H enc)
#print axioms framePuts_holds
end Go.Proofs.Ytinalnjekbfifaa
