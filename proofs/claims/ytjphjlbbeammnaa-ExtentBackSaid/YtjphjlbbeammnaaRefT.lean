/- The document's taking of the lowest free blocks. -/
import Derived.Test.YtjphjlbbeammnaaRefE
namespace Go.Proofs.Ytjphjlbbeammnaa
open Go.RowKit Me Ex

/-- Blocks, those that were taken, and an error's number are answered. -/
def RTakePost (w : World) (S : Nat → Prop) (r : List Bool × List Int × Int) (e : Ending) (w' : World) : Prop :=
  ∃ A n c L m cl, e = .returned (.tuple #[.slice A n c, .slice L m cl, .int .i64 r.2.2]) ∧ r.1.length = n ∧ n ≤ c ∧ Cz w' S A (bcells r.1) ∧ r.2.1.length = m ∧ Cz w' S L (icells r.2.1) ∧ Below w.heap.size w w'
/-- Two rows do not lie in one block. -/
def Apart (u v : Value) : Prop := ∀ z, u.ownBlock = some z → v.ownBlock ≠ some z
set_option maxRecDepth 100000 in
set_option maxHeartbeats 1000000 in
theorem rtake_any {w : World} {S : Nat → Prop} {A : Option Addr} {n c : Nat} {k : List Bool} (hl : k.length = n) (hn : n ≤ 65536) (hnc : n ≤ c) (h : Cz w S A (bcells k)) (hS : ∀ j, S j → j < w.heap.size) (i : Int) :
    Calls Try.prog 20 #[.slice A n c, .int .i64 i] w (RTakePost w S (takeD k i)) := by
  obtain ⟨i0, hi0, hz0, hz1, hz2⟩ := info_parts bool_info
  obtain ⟨i1, hi1, hy0, hy1, hy2⟩ := info_parts int_info
  obtain ⟨R, hR⟩ : ∃ R, R = takeD k i := ⟨_, rfl⟩
  rw [← hR]
  have hf := rfree_any (c := c) hl hn h
  have hfl := free_le k
  obtain ⟨fk, hfk⟩ : ∃ fk, fk = free k := ⟨_, rfl⟩
  rw [← hfk] at hf hfl
  have HF := Lib.hid hf
  have HN := Lib.hid hl
  have HH := Lib.hid h
  have HS := Lib.hid hS
  have HBI := Lib.hid (show Below w.heap.size w (w.alloc (.cells #[] 3)) from (Below.refl _ _).alloc (Nat.le_refl _) _)
  by_cases h0 : i < 0
  · have d0 : decide (i < 0) = true := by simp; omega
    have HR := Lib.hid (show R = (k, [], 1) by rw [hR]; unfold takeD; rw [if_pos h0])
    clear h hf hR hl hS hfk
    go_enter Try.func20, Try.ntmps20
    go_wp2
    refine bodyPost_ret (v := .tuple #[.slice A n c, .slice (some ⟨w.heap.size, 0, none⟩) 0 0, .int .i64 1]) (by simp [results, Try.results20, go_sem]) rfl ?_
    rw [HR.out]
    exact ⟨_, _, _, _, _, _, rfl, HN.out, hnc, HH.out.past HBI.out, rfl, Cz.empty, HBI.out⟩
  · have d0 : decide (i < 0) = false := by simp; omega
    by_cases h1 : (fk : Int) < i
    · have d1 : decide ((fk : Int) < i) = true := by simp; omega
      have HR := Lib.hid (show R = (k, [], 7) by rw [hR]; unfold takeD; rw [if_neg h0, if_pos (by rw [← hfk]; exact h1)])
      clear h hf hR hl hS hfk
      go_enter Try.func20, Try.ntmps20
      go_wp2_with (go_at_call 13; refine HF.out.mono ?_; rintro e w' ⟨rfl, rfl⟩)
      refine bodyPost_ret (v := .tuple #[.slice A n c, .slice (some ⟨w.heap.size, 0, none⟩) 0 0, .int .i64 7]) (by simp [results, Try.results20, go_sem]) rfl ?_
      rw [HR.out]
      exact ⟨_, _, _, _, _, _, rfl, HN.out, hnc, HH.out.past HBI.out, rfl, Cz.empty, HBI.out⟩
    · obtain ⟨x, rfl⟩ : ∃ x : Nat, i = (x : Int) := ⟨i.toNat, by omega⟩
      have d1 : decide ((fk : Int) < (x : Int)) = false := by simp; omega
      have d2 : decide (fk < x) = false := by simp; omega
      have HR := Lib.hid (show R = ((tk k x k.length).1, (tk k x k.length).2, 0) by rw [hR]; unfold takeD; rw [if_neg h0, if_neg (by rw [← hfk]; exact h1), Int.toNat_natCast])
      have hb0 : Below w.heap.size w (w.alloc (.cells #[] 4)) := (Below.refl _ _).alloc (Nat.le_refl _) _
      have HLN := Lib.hid (show (bcells k).length = n * 1 by rw [bcells_length, hl, Nat.mul_one])
      have HRR := Lib.hid (cs_row (h.cs.below hb0))
      have HM1 := Lib.hid (show 0 + n ≤ maxLen by unfold maxLen; omega)
      have HBC := Lib.hid (bcells_one k)
      have HB0 := Lib.hid hb0
      have hxn : x ≤ n := by omega
      clear h hf hR hl hS hfk hb0
      go_enter Try.func20, Try.ntmps20
      go_wp2_with (first
        | (go_at_call 13; refine HF.out.mono ?_; rintro e w' ⟨rfl, rfl⟩)
        | (at_builtin
           refine wpList_append_row rfl (.tmp 20) (.tmp 21) 27 rfl w.heap.size 4 i0 _ 1 1 Try.underlying27 hi0 hz0 hz1 hz2 rfl (by decide) (.slice (some ⟨w.heap.size, 0, none⟩) 0 0) 0 [] rfl (own_none w _ _ _ (Nat.le_refl _)) A n c (bcells k) rfl HLN.out HRR.out HBC.out HM1.out (by omega) HB0.out.size ?_
           intro v2 w3 hown2 hg2 hat2
           obtain ⟨A2, c2, rfl, -⟩ := own_slice' hown2
           have HB3 := Lib.hid (below_app' HB0.out (own_none w w.heap.size 1 4 (Nat.le_refl _)) (Nat.le_refl _) HB0.out.size hg2)
           rw [Nat.zero_add, List.nil_append] at hown2
           have HW2 := Lib.hid hown2
           clear hat2 hg2 hown2)
        | fail)
      have hsz3 := HB3.out.size
      obtain ⟨w4, hw4⟩ : ∃ w4, w3.alloc (.cells #[] 3) = w4 := ⟨_, rfl⟩
      have hb34 : Below w3.heap.size w3 w4 := by rw [← hw4]; exact (Below.refl _ _).alloc (Nat.le_refl _) _
      have HW4 := Lib.hid (own_below' HW2.out hb34)
      have hl4 : w4.ownsRow w.heap.size 3 1 (.slice (some ⟨w3.heap.size, 0, none⟩) 0 0) 0 (icells []) := by rw [← hw4]; exact own_none w3 _ _ _ hsz3
      have HL4 := Lib.hid hl4
      have HB4 := Lib.hid (HB3.out.trans (hb34.mono hsz3))
      have HA4 := Lib.hid (show Apart (.slice A2 n c2) (.slice (some ⟨w3.heap.size, 0, none⟩) 0 0) from fun z hz e => by
        have h1 := (HW2.out.lt z hz).2
        injection e with e
        have e : w3.heap.size = z := e
        omega)
      clear hb34 hl4
      rw [hw4]
      go_loopw [26, 8] (fun y u wr => ∃ j q : Nat, y = .int .i64 (j : Int) ∧ j ≤ n ∧ q ≤ j ∧ q ≤ x ∧ ∃ L cl, u = .slice L q cl ∧ Hid ((tk k x j).2.length = q) ∧ Hid (wr.ownsRow w.heap.size 4 1 (.slice A2 n c2) n (bcells (tk k x j).1)) ∧ Hid (wr.ownsRow w.heap.size 3 1 (.slice L q cl) q (icells (tk k x j).2)) ∧ Hid (Apart (.slice A2 n c2) (.slice L q cl)) ∧ Hid (Below w.heap.size w wr)) (fun y _ _ => n - (intOf y).toNat)
      case atStart => exact ⟨0, 0, rfl, Nat.zero_le _, Nat.le_refl _, Nat.zero_le _, _, _, rfl, Lib.hid rfl, HW4, HL4, HA4, HB4⟩
      case round =>
        obtain ⟨j, q, rfl, hjn, hqj, hqx, L, cl, rfl, HQ, HO, HLr, HAp, HB⟩ := hrel
        by_cases hlt : j < n
        · have hlen := tk_length k x j
          have hj : j < k.length := by rw [HN.out]; exact hlt
          have hsame := tk_same k x j j (Nat.le_refl _)
          obtain ⟨g, rfl, e1, f1, hset⟩ := own_row HO.out hlt
          have hd : k.getD j true = (tk k x j).1.getD j false := by
            rw [List.getD_eq_getElem?_getD, List.getD_eq_getElem?_getD, hsame, List.getElem?_eq_getElem hj]; rfl
          obtain ⟨b, hb⟩ : ∃ b, b = (tk k x j).1.getD j false := ⟨_, rfl⟩
          rw [← hb] at e1 hd
          have hlti : (j : Int) < (n : Int) := by omega
          by_cases hgo : q < x ∧ b = false
          · obtain ⟨hqlt, rfl⟩ := hgo
            have d4 : decide ((q : Int) < (x : Int)) = true := by simp; omega
            have d5 : decide (q < x) = true := by simp; omega
            obtain ⟨s1, s2, s3⟩ := hset true
            have htk : tk k x (j + 1) = ((tk k x j).1.set j true, (tk k x j).2 ++ [(j : Int)]) := by rw [tk, if_pos ⟨by rw [HQ.out]; exact hqlt, hd⟩]
            have HTK := Lib.hid htk
            have hout1 : Out (fun z => z = g) wr (wr.setCell ⟨g, j, none⟩ (.bool true)) := (Out.refl (fun z => z = g) wr).setCell (p := ⟨g, j, none⟩) (.inl rfl) _
            have hw2 := own_out HLr.out hout1 (fun z hz e => HAp.out z (by rw [e]; rfl) hz)
            have hsz : (wr.setCell ⟨g, j, none⟩ (.bool true)).heap.size = wr.heap.size := by simp [World.setCell]
            have hnew := int_new (wr.setCell ⟨g, j, none⟩ (.bool true)) (j : Int) 3
            rw [hsz] at hnew
            have HNEW := Lib.hid hnew
            have HW3 := Lib.hid (hw2.alloc (.cells #[.int .i64 (j : Int)] 3))
            have HBA := Lib.hid (show w.heap.size ≤ ((wr.setCell ⟨g, j, none⟩ (.bool true)).alloc (.cells #[.int .i64 (j : Int)] 3)).heap.size by rw [World.size_alloc, hsz]; have := HB.out.size; omega)
            have HB5 := Lib.hid (((HB.out).grown s2 HB.out.size (fun z hz => by cases hz; exact s3)).alloc (by rw [hsz]; exact HB.out.size) (.cells #[.int .i64 (j : Int)] 3))
            have HO5 := Lib.hid (s1.alloc (.cells #[.int .i64 (j : Int)] 3))
            have HMX := Lib.hid (show q + 1 ≤ maxLen by unfold maxLen; omega)
            have HI1 := Lib.hid (icells_one [(j : Int)])
            clear hset s1 s2 htk hd hb hw2 hnew hsz hout1 hsame hlen hj
            go_wp2_with (at_builtin
                         refine wpList_append_own_at (w := (wr.setCell ⟨g, j, none⟩ (.bool true)).alloc (.cells #[.int .i64 (j : Int)] 3)) rfl (.tmp 43) (.tmp 45) 32 rfl w.heap.size 3 i1 _ 1 8 Try.underlying32 hi1 hy0 hy1 hy2 rfl (by decide) (.slice L q cl) q _ rfl HW3.out ⟨wr.heap.size, 0, none⟩ 1 1 (icells [(j : Int)]) rfl rfl HNEW.out HI1.out HMX.out (by omega) HBA.out ?_
                         intro v2 w5 hown2 hg2 hnil2 hat2
                         have HW6 := Lib.hid hown2
                         have HG2 := Lib.hid hg2
                         have HAT := Lib.hid hat2
                         clear hown2 hg2 hnil2 hat2)
            obtain ⟨L2, cl2, hv2, -⟩ := own_slice' HW6.out
            subst hv2
            have hout : Out (fun z => ((Value.slice L q cl).ownBlock = some z)) ((wr.setCell ⟨g, j, none⟩ (.bool true)).alloc (.cells #[.int .i64 (j : Int)] 3)) w5 := Out.of_grown HG2.out (fun _ e _ => e)
            have HN := Lib.hid (show (tk k x (j + 1)).2.length = q + 1 ∧ w5.ownsRow w.heap.size 4 1 (.slice (some ⟨g, 0, none⟩) n c2) n (bcells (tk k x (j + 1)).1) ∧ w5.ownsRow w.heap.size 3 1 (.slice L2 (q + 1) cl2) (q + 1) (icells (tk k x (j + 1)).2) ∧ Apart (.slice (some ⟨g, 0, none⟩) n c2) (.slice L2 (q + 1) cl2) ∧ Below w.heap.size w w5 from by
              rw [HTK.out]
              refine ⟨by simp [HQ.out], own_out HO5.out hout (fun z hz e => HAp.out z hz e), ?_, fun z hz e => ?_, below_app' HB5.out HW3.out (Nat.le_refl _) HB5.out.size HG2.out⟩
              · show w5.ownsRow w.heap.size 3 1 (.slice L2 (q + 1) cl2) (q + 1) (icells ((tk k x j).2 ++ [(j : Int)]))
                rw [icells_append]
                exact HW6.out
              · rcases HAT.out with h | h
                · exact HAp.out z hz (by rw [← h]; exact e)
                · rw [h] at e
                  have h1 := (HO5.out.lt z hz).2
                  injection e with e
                  omega)
            clear hout
            go_roundw
            case rel => exact ⟨j + 1, q + 1, by go_num, by omega, by omega, by omega, L2, cl2, rfl, Lib.hid HN.out.1, Lib.hid HN.out.2.1, Lib.hid HN.out.2.2.1, Lib.hid HN.out.2.2.2.1, Lib.hid HN.out.2.2.2.2⟩
            case measure => simp [intOf]; omega
          · have htk : tk k x (j + 1) = tk k x j := by
              rw [tk, if_neg (by rw [HQ.out, hd]; exact hgo)]
            have HNX := Lib.hid (show (tk k x (j + 1)).2.length = q ∧ wr.ownsRow w.heap.size 4 1 (.slice (some ⟨g, 0, none⟩) n c2) n (bcells (tk k x (j + 1)).1) ∧ wr.ownsRow w.heap.size 3 1 (.slice L q cl) q (icells (tk k x (j + 1)).2) from by rw [htk]; exact ⟨HQ.out, HO.out, HLr.out⟩)
            have hway : (decide ((q : Int) < (x : Int)) = false ∧ decide (q < x) = false) ∨ (decide ((q : Int) < (x : Int)) = true ∧ decide (q < x) = true ∧ b = true) := by
              by_cases h : q < x
              · exact .inr ⟨by simp; omega, by simp; omega, by cases b; exact absurd ⟨h, rfl⟩ hgo; rfl⟩
              · exact .inl ⟨by simp; omega, by simp; omega⟩
            clear hset htk hd hb hsame hlen hj hgo
            rcases hway with ⟨d4, d5⟩ | ⟨d4, d5, rfl⟩
            all_goals
              go_wp2
              go_roundw
              case rel => exact ⟨j + 1, q, by go_num, by omega, by omega, by omega, L, cl, rfl, Lib.hid HNX.out.1, Lib.hid HNX.out.2.1, Lib.hid HNX.out.2.2, HAp, HB⟩
              case measure => simp [intOf]; omega
        · have hjn' : j = k.length := by rw [HN.out]; omega
          have hje : j = n := by rw [hjn', HN.out]
          have HX := Lib.hid (show R = ((tk k x j).1, (tk k x j).2, 0) by rw [HR.out, hjn'])
          clear hjn'
          subst hje
          go_wp2
          refine bodyPost_ret (v := .tuple #[.slice A2 j c2, .slice L q cl, .int .i64 0]) (by simp [results, Try.results20, go_sem]) rfl ?_
          rw [HX.out]
          have hno : ∀ z, w.heap.size ≤ z → z < wr.heap.size → ¬ S z := fun z hz _ hs => by have := HS.out z hs; omega
          exact ⟨_, _, _, _, _, _, rfl, by rw [tk_length]; exact HN.out, own_cap' HO.out, Cz.of_own HO.out hno, HQ.out, Cz.of_own HLr.out hno, HB.out⟩
end Go.Proofs.Ytjphjlbbeammnaa
