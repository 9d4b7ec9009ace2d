/- The lowest free blocks are taken. -/
import Derived.Test.YtjphjlbbeammnaaTurn
import Derived.Test.YtjphjlbbeammnaaAppRow
namespace Go.Proofs.Ytjphjlbbeammnaa
open Go.RowKit Me Ex

/-- Numbers of one's own, and an error's number, are answered. -/
def TakePost (w : World) (B D : Nat) (k : List Bool) (own : Nat → Prop) (r : List Bool × List Int × Int) (e : Ending) (w' : World) : Prop :=
  ∃ A n c, e = .returned (.tuple #[.slice A n c, .int .i64 r.2.2]) ∧ r.2.1.length = n ∧ n ≤ c ∧ n ≤ k.length ∧ w'.ownsRow w.heap.size 3 1 (.slice A n c) n (icells r.2.1) ∧ Cz w' own A (icells r.2.1) ∧ MPost w B D r.1 own w'
theorem own_cz {w w' : World} {B D n : Nat} {k : List Bool} {own : Nat → Prop} {A : Option Addr} {c : Nat} {vs : List Value} {e : TypeId} {size : Nat} (h : MapAt w B D k own) (ho : w'.ownsRow w.heap.size e size (.slice A n c) n vs) : Cz w' own A vs :=
  Cz.of_own ho fun j hj _ hown => by have := (h.lt hown).2; omega
theorem tk_zero (k : List Bool) : ∀ i, tk k 0 i = (k, [])
  | 0 => rfl
  | i + 1 => by rw [tk, tk_zero k i]; simp
theorem take_end {k : List Bool} {n j : Nat} (hj : j ≤ k.length) (h : (tk k n j).2.length = n) : tk k n k.length = tk k n j := by
  have := tk_stop k n j h (k.length - j)
  rwa [show j + (k.length - j) = k.length by omega] at this
theorem int_new (w : World) (z : Int) (t : TypeId) : ∀ j u, (icells [z])[j]? = some u → (w.alloc (.cells #[.int .i64 z] t)).cell? ((⟨w.heap.size, 0, none⟩ : Addr).add j) = some u := cell_one_new w (.int .i64 z) t
set_option maxRecDepth 100000 in
set_option maxHeartbeats 1000000 in
theorem take_any {w : World} {B D : Nat} {k : List Bool} {own : Nat → Prop} (h : MapAt w B D k own) (i : Int) :
    Calls Try.prog 15 #[.pointer (some ⟨D, 0, none⟩), .int .i64 i] w (TakePost w B D k own (takeD k i)) := by
  obtain ⟨i0, hi0, hz0, hz1, hz2⟩ := info_parts int_info
  have hf := free_any h
  have hfl := free_le k
  obtain ⟨R, hR⟩ : ∃ R, R = takeD k i := ⟨_, rfl⟩
  rw [← hR]
  have HH := Lib.hid h
  have HF := Lib.hid hf
  by_cases h0 : i < 0
  · have d0 : decide (i < 0) = true := by simp; omega
    have HR := Lib.hid (show R = (k, [], 1) by rw [hR]; unfold takeD; rw [if_pos h0])
    clear h hf hR
    go_enter Try.func15, Try.ntmps15
    go_wp2
    refine bodyPost_ret (v := .tuple #[.slice none 0 0, .int .i64 1]) (by simp [results, Try.results15, go_sem]) rfl ?_
    rw [HR.out]
    exact ⟨none, 0, 0, rfl, rfl, Nat.le_refl _, Nat.zero_le _, World.ownsRow_nil _ _ _ _, Cz.empty, HH.out, Out.refl _ _⟩
  · have d0 : decide (i < 0) = false := by simp; omega
    obtain ⟨fk, hfk⟩ : ∃ fk, fk = free k := ⟨_, rfl⟩
    rw [← hfk] at HF hfl
    by_cases h1 : (fk : Int) < i
    · have d1 : decide ((fk : Int) < i) = true := by simp; omega
      have HR := Lib.hid (show R = (k, [], 7) by rw [hR]; unfold takeD; rw [if_neg h0, if_pos (by rw [← hfk]; exact h1)])
      clear h hf hR hfk
      go_enter Try.func15, Try.ntmps15
      go_wp2_with (go_at_call 12; refine HF.out.mono ?_; rintro e w' ⟨rfl, rfl⟩)
      refine bodyPost_ret (v := .tuple #[.slice none 0 0, .int .i64 7]) (by simp [results, Try.results15, go_sem]) rfl ?_
      rw [HR.out]
      exact ⟨none, 0, 0, rfl, rfl, Nat.le_refl _, Nat.zero_le _, World.ownsRow_nil _ _ _ _, Cz.empty, HH.out, Out.refl _ _⟩
    · have d1 : decide ((fk : Int) < i) = false := by simp; omega
      obtain ⟨n, rfl⟩ : ∃ n : Nat, i = (n : Int) := ⟨i.toNat, by omega⟩
      have HR := Lib.hid (show R = ((tk k n k.length).1, (tk k n k.length).2, 0) by rw [hR]; unfold takeD; rw [if_neg h0, if_neg (by rw [← hfk]; exact h1), Int.toNat_natCast])
      have HFK := Lib.hid hfk
      have hm := h.most
      have hnf : n ≤ fk := by omega
      have d2 : decide (fk < n) = false := by simp; omega
      have HLT := Lib.hid (fun j => h.lt (j := j))
      clear h hf hR hfk
      go_enter Try.func15, Try.ntmps15
      go_wp2_with (first | (go_at_call 12; refine HF.out.mono ?_; rintro e w' ⟨rfl, rfl⟩) | fail)
      go_loopw [6, 7] (fun x y wr => ∃ j q : Nat, y = .int .i64 (j : Int) ∧ j ≤ k.length ∧ q ≤ j ∧ q ≤ n ∧ ∃ A c, x = .slice A q c ∧ Hid ((tk k n j).2.length = q) ∧ Hid (wr.ownsRow w.heap.size 3 1 (.slice A q c) q (icells (tk k n j).2)) ∧ Hid (MapAt wr B D (tk k n j).1 own) ∧ Hid (Out own w wr)) (fun _ y _ => k.length - (intOf y).toNat)
      case atStart => exact ⟨0, 0, rfl, Nat.zero_le _, Nat.le_refl _, Nat.zero_le _, none, 0, rfl, Lib.hid rfl, Lib.hid (World.ownsRow_nil _ _ _ _), HH, Lib.hid (Out.refl _ _)⟩
      case round =>
        obtain ⟨j, q, rfl, hjk, hqj, hqn, A, c, rfl, HQ, HW, HK, HO⟩ := hrel
        by_cases hlt : q < n
        · have hj : j < k.length := by
            rcases Nat.lt_or_ge j k.length with hh | hh
            · exact hh
            · exfalso
              have e : j = k.length := by omega
              have := tk_count k n j hjk
              rw [HQ.out, e, List.take_length, ← HFK.out] at this
              omega
          have hlen := tk_length k n j
          have hj' : j < (tk k n j).1.length := by rw [hlen]; exact hj
          have hsame := tk_same k n j j (Nat.le_refl _)
          have hd : k.getD j true = (tk k n j).1.getD j false := by
            rw [List.getD_eq_getElem?_getD, List.getD_eq_getElem?_getD, hsame, List.getElem?_eq_getElem hj]; rfl
          obtain ⟨Pv, hK⟩ := HK.out
          obtain ⟨g, c', hv, hog, hgd, hat⟩ := hK.at hj'
          obtain ⟨e1, f1⟩ := hat j hj'
          obtain ⟨hk2, ho2⟩ := hK.set hv hgd j true
          have c0 := hK.blk.cell (i := 0) rfl
          obtain ⟨b, hb⟩ : ∃ b, b = (tk k n j).1.getD j false := ⟨_, rfl⟩
          obtain ⟨kn, hkn⟩ : ∃ kn, kn = (tk k n j).1.length := ⟨_, rfl⟩
          rw [hv, ← hkn] at c0
          rw [← hb] at e1 hd
          have hlti : (j : Int) < (kn : Int) := by rw [← hkn] at hj'; omega
          have hltq : (q : Int) < (n : Int) := by omega
          cases b with
          | true =>
            have htk : tk k n (j + 1) = tk k n j := by rw [tk, if_neg (by rw [hd]; simp)]
            have HN := Lib.hid (show (tk k n (j + 1)).2.length = q ∧ wr.ownsRow w.heap.size 3 1 (.slice A q c) q (icells (tk k n (j + 1)).2) ∧ MapAt wr B D (tk k n (j + 1)).1 own from by rw [htk]; exact ⟨HQ.out, HW.out, HK.out⟩)
            clear htk hd hb hk2 ho2 hat hv hog hgd hK hsame hlen hkn hj'
            go_wp2
            go_roundw
            case rel => exact ⟨j + 1, q, by go_num, by omega, by omega, by omega, A, c, rfl, Lib.hid HN.out.1, Lib.hid HN.out.2.1, Lib.hid HN.out.2.2, HO⟩
            case measure => simp [intOf]; omega
          | false =>
            have htk : tk k n (j + 1) = ((tk k n j).1.set j true, (tk k n j).2 ++ [(j : Int)]) := by rw [tk, if_pos ⟨by rw [HQ.out]; exact hlt, hd⟩]
            have HO2 := Lib.hid (HO.out.trans ho2)
            have HK2 := Lib.hid hk2
            have HTK := Lib.hid htk
            have hw2 := own_out HW.out ho2 (fun z hz hown => by have := (HW.out.lt z hz).1; have := (HLT.out z hown).2; omega)
            have hsz : (wr.setCell ⟨g, j, none⟩ (.bool true)).heap.size = wr.heap.size := by simp [World.setCell]
            have hnew := int_new (wr.setCell ⟨g, j, none⟩ (.bool true)) (j : Int) 3
            rw [hsz] at hnew
            have HNEW := Lib.hid hnew
            have HW3 := Lib.hid (hw2.alloc (.cells #[.int .i64 (j : Int)] 3))
            have HBA := Lib.hid (show w.heap.size ≤ ((wr.setCell ⟨g, j, none⟩ (.bool true)).alloc (.cells #[.int .i64 (j : Int)] 3)).heap.size by rw [World.size_alloc, hsz]; have := HO.out.size; omega)
            have HO3 := Lib.hid (HO2.out.alloc (.cells #[.int .i64 (j : Int)] 3))
            have HK3 := Lib.hid (show MapAt ((wr.setCell ⟨g, j, none⟩ (.bool true)).alloc (.cells #[.int .i64 (j : Int)] 3)) B D ((tk k n j).1.set j true) own from MapAt.past ⟨Pv, HK2.out⟩ ((Below.refl _ _).alloc (Nat.le_refl _) _))
            have HMX := Lib.hid (show q + 1 ≤ maxLen by unfold maxLen; omega)
            have HI1 := Lib.hid (icells_one [(j : Int)])
            clear htk hd hb hk2 ho2 hat hv hog hgd hK hsame hlen hkn hj' hw2 hnew hsz
            go_wp2_with (at_builtin
                         refine wpList_append_own_at (w := (wr.setCell ⟨g, j, none⟩ (.bool true)).alloc (.cells #[.int .i64 (j : Int)] 3)) rfl (.tmp 36) (.tmp 38) 32 rfl w.heap.size 3 i0 _ 1 8 Try.underlying32 hi0 hz0 hz1 hz2 rfl (by decide) (.slice A q c) q _ rfl HW3.out ⟨wr.heap.size, 0, none⟩ 1 1 (icells [(j : Int)]) rfl rfl HNEW.out HI1.out HMX.out (by omega) HBA.out ?_
                         intro v2 w3 hown2 hg2 hnil2 hat2
                         have HW4 := Lib.hid hown2
                         have HG2 := Lib.hid hg2
                         clear hown2 hg2 hnil2 hat2)
            obtain ⟨A2, c2, hv2, -⟩ := own_slice' HW4.out
            subst hv2
            have hout : Out (fun z => ((Value.slice A q c).ownBlock = some z)) ((wr.setCell ⟨g, j, none⟩ (.bool true)).alloc (.cells #[.int .i64 (j : Int)] 3)) w3 := Out.of_grown HG2.out (fun _ e _ => e)
            have hnl : ∀ z, (Value.slice A q c).ownBlock = some z → w.heap.size ≤ z := fun z hz => (HW.out.lt z hz).1
            have HN := Lib.hid (show (tk k n (j + 1)).2.length = q + 1 ∧ w3.ownsRow w.heap.size 3 1 (.slice A2 (q + 1) c2) (q + 1) (icells (tk k n (j + 1)).2) ∧ MapAt w3 B D (tk k n (j + 1)).1 own ∧ Out own w w3 from by
              rw [HTK.out]
              refine ⟨by simp [HQ.out], ?_, HK3.out.out hout (fun z hz e => ?_), HO3.out.trans' hout (fun z hz => .inr (hnl z hz))⟩
              · show w3.ownsRow w.heap.size 3 1 (.slice A2 (q + 1) c2) (q + 1) (icells ((tk k n j).2 ++ [(j : Int)]))
                rw [icells_append]
                exact HW4.out
              · have := (HLT.out z hz).2
                have := hnl z e
                omega)
            clear hout hnl
            go_roundw
            case rel => exact ⟨j + 1, q + 1, by go_num, by omega, by omega, by omega, A2, c2, rfl, Lib.hid HN.out.1, Lib.hid HN.out.2.1, Lib.hid HN.out.2.2.1, Lib.hid HN.out.2.2.2⟩
            case measure => simp [intOf]; omega
        · have hqn' : q = n := by omega
          subst hqn'
          have he := take_end hjk HQ.out
          have HX := Lib.hid (show R = ((tk k q j).1, (tk k q j).2, 0) by rw [HR.out, he])
          clear he
          go_wp2
          refine bodyPost_ret (v := .tuple #[.slice A q c, .int .i64 0]) (by simp [results, Try.results15, go_sem]) rfl ?_
          rw [HX.out]
          exact ⟨A, q, c, rfl, HQ.out, own_cap' HW.out, by omega, HW.out, own_cz HH.out HW.out, HK.out, HO.out⟩
end Go.Proofs.Ytjphjlbbeammnaa
