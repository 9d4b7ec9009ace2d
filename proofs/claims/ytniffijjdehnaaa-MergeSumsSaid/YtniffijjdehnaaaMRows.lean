/- MergeRows: the rows of any keys, or the error, are the document's. No condition on the input. -/
import Derived.Test.YtniffijjdehnaaaMmL
namespace Go.Proofs.Ytniffijjdehnaaa
open Go.RowKit Me Tx Ed Mg Va

theorem keysG_few : ∀ (l : List (List UInt8)) (rows : List RowR) (last : Option EdD) (k : Nat), KeysOk rows last k → KeysOk (keysG rows last l).1 none 0 ∨ ∃ last', KeysOk (keysG rows last l).1 last' (k + l.length)
  | [], rows, last, k, h => .inr ⟨last, h⟩
  | b :: l, rows, last, k, h => by
    rw [keysG_cons]
    split
    · rename_i h0
      obtain ⟨-, -, -, h4⟩ := errK_zero h0
      rcases keysG_few l _ _ (k + 1) (h.next (edB_fit b) h4) with h | ⟨last', h⟩
      · exact .inl h
      · exact .inr ⟨last', by rw [List.length_cons, show k + (l.length + 1) = k + 1 + l.length by omega]; exact h⟩
    · exact .inl KeysOk.start
theorem keysG_small (l : List (List UInt8)) (hl : l.length ≤ 1000) : ∀ r ∈ rowM (keysG [] none l).1, r.2.length ≤ 4294967296 := by
  intro r hr
  unfold rowM at hr
  rw [List.mem_reverse, List.mem_map] at hr
  obtain ⟨q, hq, rfl⟩ := hr
  show (arcM q.arcs).length ≤ _
  rw [arcM_length]
  rcases keysG_few l [] none 0 KeysOk.start with h | ⟨last', h⟩
  · have := (h.arcs q hq).2; omega
  · have := (h.arcs q hq).2; omega
set_option maxRecDepth 100000 in
set_option maxHeartbeats 2000000 in
theorem mergeRows_law (A : Option Addr) (n c : Nat) (es : List Pc) (w : World) (hl : es.length = n) (hr : BRows w w.heap.size A es) :
    Calls Try.prog 4 #[.slice A n c] w fun e w' => e = .returned (.bool true) ∧ Below w.heap.size w w' := by
  have HL := Lib.hid hl
  have HR := Lib.hid hr
  have HAW := Lib.hid awake14_any
  clear hl hr
  go_enter Try.func4, Try.ntmps4
  by_cases h2 : n ≤ 200
  · have h2' : ¬ (200 : Int) < (n : Int) := by omega
    go_wp2
    go_loopw [3] (fun i wr => ∃ k : Nat, k ≤ n ∧ i = .int .i64 (k : Int) ∧ wr = w) (fun i _ => n - (intOf i).toNat)
    case atStart => exact ⟨0, Nat.zero_le _, rfl, rfl⟩
    case round =>
      obtain ⟨k, hk, rfl, rfl⟩ := hrel
      by_cases hlt : k < n
      · obtain ⟨p, hp⟩ : ∃ p, es[k]? = some p := ⟨_, List.getElem?_eq_getElem (by rw [HL.out]; exact hlt)⟩
        obtain ⟨a, A1, n1, c1, rfl, hab, hcl, -, -, -, -⟩ := HR.out.at hp
        clear hp hab
        by_cases h3 : n1 ≤ 100
        · have h3' : ¬ (100 : Int) < (n1 : Int) := by omega
          go_wp2
          go_roundw
          case rel => exact ⟨k + 1, by omega, by go_num, by simp⟩
          case measure => simp [intOf]; omega
        · have h3' : (100 : Int) < (n1 : Int) := by omega
          go_wp2_with fail
          refine (HAW.out _).mono ?_
          rintro e w1 ⟨rfl, hb1⟩
          have HB1 := Lib.hid hb1
          clear hb1
          go_wp2
          go_ret
          exact ⟨rfl, HB1.out⟩
      · have hkn : k = n := by omega
        subst hkn
        have HM := Lib.hid (mrows_any A k c es wr HL.out (by omega) HR.out)
        have HKF := Lib.hid (keysG_small (es.map (·.2)) (by rw [List.length_map, HL.out]; omega))
        have HLN := Lib.hid (show (rowM (keysG [] none (es.map (·.2))).1).length ≤ 1000 from by
          rw [rowM_length]
          rcases keysG_few (es.map (·.2)) [] none 0 KeysOk.start with h | ⟨last', h⟩
          · have := h.few; omega
          · have := h.few; rw [List.length_map, HL.out] at this; omega)
        have HD := Lib.hid (fun W (hW : Below wr.heap.size wr W) => mkeys_any A k c es W HL.out (by omega) ((⟨(HR.out.below hW).row.more hW.size, fun p hp => by obtain ⟨A', n', c', h1, h2, h3, h4, h5⟩ := (HR.out.below hW).all p hp; exact ⟨A', n', c', h1, h2, h3, h4, h5.more hW.size⟩⟩ : BRows W W.heap.size A es)))
        obtain ⟨q, hq⟩ : ∃ q, q = keysG [] none (es.map (·.2)) := ⟨_, rfl⟩
        rw [← hq] at HM HD HKF HLN
        clear hq
        go_wp2_with fail
        refine HM.out.mono ?_
        rintro e w1 ⟨A1, n1, c1, rfl, hl1, hc1, hm1, hr1, hb1⟩
        have HB1 := Lib.hid hb1
        have HR1 := Lib.hid hr1
        have HL1 := Lib.hid hl1
        clear hb1 hr1 hl1
        go_wp2_with fail
        refine (HD.out w1 HB1.out).mono ?_
        rintro e w2 ⟨A2, n2, c2, rfl, hl2, hc2, hm2, hr2, hb2⟩
        have e12 : n1 = n2 := HL1.out.symm.trans hl2
        subst e12
        have HB2 := Lib.hid (HB1.out.trans (hb2.mono HB1.out.size))
        have HS := Lib.hid (msame_any A1 A2 n1 c1 c2 (rowM q.1) w2 hl2 (by have := HLN.out; omega) HKF.out (HR1.out.past hb2) hr2)
        have d0 : (q.2 == q.2) = true := by simp
        clear hb2 hr2 hl2 HD HM
        go_wp2_with fail
        refine HS.out.mono ?_
        rintro e w3 ⟨rfl, hb3⟩
        have HB3 := Lib.hid (HB2.out.trans (hb3.mono HB2.out.size))
        clear hb3
        go_wp2_with fail
        refine (HAW.out _).mono ?_
        rintro e w4 ⟨rfl, hb4⟩
        have HB4 := Lib.hid (HB3.out.trans (hb4.mono HB3.out.size))
        clear hb4
        go_wp2
        go_ret
        exact ⟨rfl, HB4.out⟩
  · have h2' : (200 : Int) < (n : Int) := by omega
    go_wp2_with fail
    refine (HAW.out _).mono ?_
    rintro e w1 ⟨rfl, hb1⟩
    have HB1 := Lib.hid hb1
    clear hb1
    go_wp2
    go_ret
    exact ⟨rfl, HB1.out⟩
open Go.ChangeShapes Go.WideShapes Go.ChangeAt Go.Joins
set_option maxRecDepth 100000 in
theorem mergeRows_lifted (os : Os) (started : os.Started) (H : Type) (enc : TypeId × Value → H) :
    ReturnsInHanded {} Try.checked os 4 .any (Rows.mergeRowsSpec.pre6 enc Try.prog Try.f4 Rows.mergeRowsRow.domain false) (Rows.mergeRowsSpec.post enc Try.prog Try.f4 false true false false) := by
  refine returnsInHanded_of_change (C := Try.checked) own started (by kernel_rfl) Try.func4
    (ChangeSpec.witness6 (enc := enc) (C := Try.checked) false ⟨#[], #[.slice none 0 0], []⟩ 8 (by kernel_rfl) (by kernel_rfl) (by kernel_rfl) (by kernel_rfl)) ?_
  intro W base args ds gs before hval0 hW hcnd _
  have hval : ∀ (j : Nat) t v, Try.f4.params[j]? = some t → args[j]? = some v → Value.okWide Try.prog W .any base t v := hval0
  have hW' := hW
  obtain ⟨p, q, hA0, hV, rfl, hfz, hnd⟩ := hW
  have hA : DataW.TrodAll enc Try.prog W 0 (fun _ => true) true Try.f4.params.toList args.toList ds p := hA0
  rw [Try.params4] at hA hval
  obtain ⟨v0, d0, rfl, rfl, h0⟩ := trodAll_one hA
  obtain ⟨A, n, c, es, rfl, hl, hc, hc63, hr⟩ := open_brows (hval 0 35 v0 rfl rfl) h0
  have hwalk : Calls Try.prog 4 #[.slice A n c] W fun e w' => e = .returned (.bool true) ∧ Below W.heap.size W w' := by
    exact mergeRows_law A n c es W hl hr
  refine hwalk.mono fun e W' ⟨he, hb⟩ => ?_
  subst he
  exact ⟨_, rfl, Lw.post_true laidOut (by kernel_rfl) rfl rfl rfl rfl (by kernel_rfl) Try.underlying4 hW' hb⟩

/-- MergeRows: the rows of any keys, or the error, are the document's. -/
theorem mergeRows_holds : Rows.MergeRowsSaid :=
  OpenClaim.holds_of_wide 4 Try.f4 rfl rfl rfl rfl rfl rfl rfl ⟨rfl, rfl, rfl, rfl, rfl⟩ rfl rfl rfl rfl rfl (by kernel_rfl) Try.func4 (by kernel_rfl)
    (of_decide_eq_true (by kernel_rfl)) (by unfold Func.isWrapper; rw [if_neg (of_decide_eq_false (by kernel_rfl))]; exact ⟨rfl, rfl⟩)
    (fun os started H enc _ => mergeRows_lifted os started H enc)
#print axioms mergeRows_holds
end Go.Proofs.Ytniffijjdehnaaa
