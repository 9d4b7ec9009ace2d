/- A region by phases, whose last operations wait for all that stand ahead of them: the others by XPhase's way, then these, one behind the other. -/
import Derived.Test.YtpdhnkmihlgdjaaPhase
import Derived.Test.YtpdhnkmihlgdjaaTail
namespace Go.Proofs.Ytpdhnkmihlgdjaa.Gw
open Go.RowKit

section
variable {P : Program} {ops : Array Oper} {wrs : List Nat} {R : World → World → Prop} {I : Nat → World → Prop} {G : Fact} {n : Nat}
theorem any_of_invPT (hRr : ∀ w, R w w) (hRt : ∀ a b c, R a b → R b c → R a c) {a0 : Act} {w0 : World} {Q : Exit → Act → World → Prop} (hB : flowB ops a0.tmps.size = true) (hO : ownB ops wrs = true) (hT : tailB ops n = true) (hn : n ≤ ops.size) (hwn : ∀ i ∈ wrs, i < n)
    (hreq : PReq P R I G w0 (ops.toList.take n) ((rowsOf ops wrs).take n))
    (hend : ∀ a w, (∀ listed : Array Bool, (∀ j, j < n → listed.getD j false = true) → InvP ops wrs R I G a0 w0 wrs.length listed a w → (∀ k, n ≤ k → listed.getD k false = false) → seqTail P Q (ops.toList.drop n) a w)) :
    ∀ (fuel p : Nat) (listed : Array Bool) (a : Act) (w : World), p ≤ wrs.length → listed.toList.count false ≤ fuel → (∀ k, n ≤ k → listed.getD k false = false) → InvP ops wrs R I G a0 w0 p listed a w → wpAny P .any ops Q fuel listed a w := by
  have done : ∀ (fuel p : Nat) (listed : Array Bool) (a : Act) (w : World), p ≤ wrs.length → listed.toList.count false ≤ fuel → (∀ k, n ≤ k → listed.getD k false = false) → InvP ops wrs R I G a0 w0 p listed a w → (∀ j, j < n → listed.getD j false = true) → wpAny P .any ops Q fuel listed a w := fun fuel p listed a w hp hc hno h hall => by
    have e : p = wrs.length := by
      rcases Nat.lt_or_ge p wrs.length with hlt | hge
      · exfalso
        have hk : wrs[p]? = some wrs[p] := List.getElem?_eq_getElem hlt
        have := (h.here p _ hk).1 (hall _ (hwn _ (List.getElem_mem hlt)))
        omega
      · omega
    subst e
    have hcnt := count_rest listed.toList n (fun k hk => by have := hno k hk; simpa using this)
    rw [Array.length_toList, h.listedSize] at hcnt
    exact tail_seq hB hT _ n listed a w (Nat.le_refl _) hn h.listedSize (fun k _ => ⟨fun hk => Nat.lt_of_not_le fun h1 => (by rw [hno k h1] at hk; cases hk), hall k⟩) (by omega) (hend a w listed hall h hno)
  intro fuel
  induction fuel with
  | zero =>
    intro p listed a w hp hc hno h
    refine done 0 p listed a w hp hc hno h fun j hj => ?_
    cases hl : listed.getD j false with
    | true => rfl
    | false =>
      exfalso
      have hb : j < listed.size := by rw [h.listedSize]; omega
      have : (false : Bool) ∈ listed.toList := by
        have e : listed[j] = false := by simpa [hb] using hl
        rw [← e]
        exact Array.getElem_mem_toList hb
      have := List.count_pos_iff.2 this
      omega
  | succ fuel ih =>
    intro p listed a w hp hc hno h
    by_cases hal : ∀ j, j < n → listed.getD j false = true
    · exact done _ p listed a w hp hc hno h hal
    have hready : Region.ready .any ops listed ≠ [] := fun hr => hal fun j => by
      induction j using Nat.strongRecOn with
      | _ j ihj =>
        intro hj
        cases hl : listed.getD j false with
        | true => rfl
        | false =>
          exfalso
          have hjo : ops[j]? = some ops[j] := Array.getElem?_eq_getElem (by omega)
          have : j ∈ Region.ready .any ops listed := mem_ready.2 ⟨by rw [listed_two (by rw [h.listedSize]; omega)]; exact hl, ops[j], hjo, fun e he hb => by
            have hlt := (flow_at hB hjo).1 e he hb
            exact ihj e.on hlt (by omega)⟩
          rw [hr] at this
          cases this
    refine ⟨fun hr => absurd hr hready, fun i hm => ?_⟩
    obtain ⟨hu, o, ho, hall⟩ := ready_at h.listedSize hm
    have hil : i < ops.size := (Array.getElem?_eq_some_iff.1 ho).1
    have hin : i < n := by
      rcases Nat.lt_or_ge i n with h1 | h1
      · exact h1
      · exact absurd (fun j hj => waits_listed h.closed _ _ _ o ho hall ((tail_at hT ho h1).2 j (by omega))) hal
    have hlt : i < listed.size := by rw [h.listedSize]; exact hil
    have hcount : (listed.setIfInBounds i true).toList.count false ≤ fuel := by
      have e : listed.toList[i]? = some false := by
        have : listed[i] = false := by simpa [hlt] using hu
        simp [hlt, this]
      have := count_set listed.toList i e
      simp only [Array.toList_setIfInBounds]
      omega
    obtain ⟨hacyc, hguard, hdlt, hflow⟩ := flow_at hB ho
    have hph := may_of h hp ho hu hall hO
    obtain ⟨m, hm1, hm2⟩ := preq_at (ops.toList.take n) ((rowsOf ops wrs).take n) hreq i o (by rw [List.getElem?_take, if_pos hin]; simpa using ho)
    have hme : m = (o.looksAt ops, guardOf ops o, phasesOf ops wrs i, wrs.contains i) := by
      rw [List.getElem?_take, if_pos hin] at hm1
      unfold rowsOf at hm1
      rw [List.getElem?_map, List.getElem?_range hil] at hm1
      simp only [Option.map_some] at hm1
      injection hm1 with hm1
      rw [← hm1]
      unfold rowOf
      rw [ho]
    subst hme
    have hk : Knows G a w (o.looksAt ops) := knows_of _ fun t ht => (h.facts t fun j q hj hq => by
      obtain ⟨e, he, hb, rfl⟩ := (hflow j q t hj hq).1 ht
      exact hall e he hb) w (hRr w)
    have hreq' := hm2 p hph a w h.reach h.inv hk
    have hle : (bif wrs.contains i then p + 1 else p) ≤ wrs.length := by
      cases hc : wrs.contains i with
      | false => exact hp
      | true =>
        rw [List.contains_iff_mem] at hc
        obtain ⟨k', hk'⟩ := List.mem_iff_getElem?.1 hc
        have h1 := (own_at_wr hO hk').1
        rw [h1] at hph
        have hpk : p = k' := by simpa using hph
        subst hpk
        have := (List.getElem?_eq_some_iff.1 hk').1
        simp only [cond_true]
        omega
    unfold wpOp
    simp only [ho]
    have go : ∀ v w', PPost R I G (bif wrs.contains i then p + 1 else p) o.dst w v w' → wpAny P .any ops Q fuel (listed.setIfInBounds i true) (a.put o.dst v) w' := fun v w' hq =>
      ih _ _ _ _ hle hcount (fun k hk => by rw [getD_set_ne false (by omega)]; exact hno k hk) (invP_put hRt hB hO ho hph hall h hq)
    unfold POpReq guardOf at hreq'
    cases hgd : o.guard with
    | none =>
      rw [hgd] at hreq'
      have hw : Region.wanted o (yielded ops a.tmps) = true := by unfold Region.wanted; rw [hgd]
      rw [if_pos hw]
      exact .inl (wp_of_okP hreq' go)
    | some gb =>
      obtain ⟨g, b⟩ := gb
      obtain ⟨q, d, hq, hqd⟩ := hguard g b hgd
      rw [hgd] at hreq'
      have hbind : (ops[g]?).bind (·.dst) = some d := by rw [hq]; exact hqd
      simp only [hbind, Option.map_some] at hreq'
      rw [← eval_slot] at hreq'
      rcases hreq' with ⟨he, hok⟩ | ⟨he, hp'⟩
      · have hw := wanted_of (ops := ops) hgd hbind he
        rw [if_pos (by rw [hw]; simp)]
        exact .inl (wp_of_okP hok go)
      · have hw := wanted_of (ops := ops) hgd hbind he
        rw [if_neg (by rw [hw]; cases b <;> simp)]
        exact go _ _ hp'

/-- **The law**. -/
theorem wp_region_phase_tail {id : Nat} {Q : Exit → Act → World → Prop} {a0 : Act} {w : World} {l tail : List Oper} (n : Nat) (R : World → World → Prop) (hRr : ∀ w, R w w) (hRt : ∀ a b c, R a b → R b c → R a c) (I : Nat → World → Prop) (G : Fact) (wrs : List Nat) (dsts : List Tmp) (ms : List Row) (size m : Nat) (hm : P.follows .mixedOrders = true)
    (hB : (flowB l.toArray size && ownB l.toArray wrs && (rowsOf l.toArray wrs == ms) && (dstsOf l.toArray == dsts) && (wrs.length == m) && tailB l.toArray n && decide (n ≤ l.length) && wrs.all (fun i => decide (i < n)) && (l.drop n).all (fun o => o.dst.isNone)) = true) (hsz : a0.tmps.size = size)
    (hRd : R w w.drew) (hI0 : I 0 w.drew) (h0 : ∀ t W, t ∉ dsts → R w W → G t (a0.eval (.tmp t)) W) (hreq : PReq P R I G w (l.take n) (ms.take n)) (htail : l.drop n = tail)
    (hend : ∀ (x : Tmp → Value) (w' : World), R w w' → I m w' → (∀ d ∈ dsts, HoldsR R G d (x d) w') → seqTail P Q tail (putAll x dsts a0) w') : (Code.region id l.toArray true).wp P Q a0 w := by
  simp only [Bool.and_eq_true, beq_iff_eq, decide_eq_true_eq] at hB
  obtain ⟨⟨⟨⟨⟨⟨⟨⟨hf, hO⟩, hme⟩, hde⟩, hwm⟩, hT⟩, hn⟩, hwn⟩, hdn⟩ := hB
  have hwn' : ∀ i ∈ wrs, i < n := fun i hi => by have := List.all_eq_true.1 hwn i hi; simpa using this
  subst hsz hwm htail
  have hmem : ∀ t : Tmp, t ∈ dsts ↔ ∃ (j : Nat) (o : Oper), l.toArray[j]? = some o ∧ o.dst = some t := fun t => by
    rw [← hde]
    unfold dstsOf
    simp only [List.mem_filterMap]
    constructor
    · rintro ⟨o, ho, hd⟩
      obtain ⟨j, hj⟩ := List.mem_iff_getElem?.1 ho
      exact ⟨j, o, by simpa using hj, hd⟩
    · rintro ⟨j, o, hj, hd⟩
      exact ⟨o, List.mem_iff_getElem?.2 ⟨j, by simpa using hj⟩, hd⟩
  refine wp_region_any hm (any_of_invPT (n := n) (wrs := wrs) (I := I) (G := G) (a0 := a0) (w0 := w) hRr hRt hf hO hT (by simpa using hn) hwn' (by rw [hme]; simpa using hreq) ?_ _ 0 _ _ _ (Nat.zero_le _) ?_ ?_ ?_)
  · intro a w' listed hall hinv hno
    have e : a = putAll (fun t => a.eval (.tmp t)) dsts a0 := by
      have hsz := hinv.size
      have hdf := hinv.defers
      have ht : a.tmps = (putAll (fun t => a.eval (.tmp t)) dsts a0).tmps := by
        apply Array.ext_getElem?
        intro t
        by_cases hlt : t < a0.tmps.size
        · rw [putAll_get _ _ _ _ hlt]
          have hat : a.tmps[t]? = some (a.eval (.tmp t)) := by
            have : t < a.tmps.size := by rw [hsz]; exact hlt
            simp [Act.eval, this]
          by_cases hd : t ∈ dsts
          · rw [if_pos hd, hat]
          · rw [if_neg hd, hat, hinv.others t (fun j o hj hq => hd ((hmem t).2 ⟨j, o, hj, hq⟩))]
            simp [Act.eval, hlt]
        · rw [Array.getElem?_eq_none (by rw [hsz]; omega), Array.getElem?_eq_none (by rw [putAll_size]; omega)]
      have hdd : a.defers = (putAll (fun t => a.eval (.tmp t)) dsts a0).defers := by rw [putAll_defers, hdf]
      exact act_ext ht hdd
    rw [e]
    refine hend _ _ hinv.reach hinv.inv fun d hd => ?_
    refine hinv.facts d fun j o hj hq => hall j ?_
    rcases Nat.lt_or_ge j n with h1 | h1
    · exact h1
    · have hm : o ∈ l.drop n := by
        refine List.mem_iff_getElem?.2 ⟨j - n, ?_⟩
        rw [List.getElem?_drop, show n + (j - n) = j by omega]
        simpa using hj
      have := List.all_eq_true.1 hdn o hm
      rw [hq] at this
      simp at this
  · simp
  · intro k hk
    by_cases hlt : k < l.length
    · simp [hlt]
    · simp [hlt]
  · refine ⟨hRd, hI0, rfl, rfl, fun t ht => ?_, fun _ _ => rfl, by simp, fun k o hk hl => ?_, fun k i hk => ?_⟩
    · have hnd : t ∉ dsts := fun hd => by
        obtain ⟨j, o, hj, hq⟩ := (hmem t).1 hd
        have := ht j o hj hq
        have hlt := (Array.getElem?_eq_some_iff.1 hj).1
        simp at hlt
        simp [hlt] at this
      exact fun W hW => h0 t W hnd (hRt _ _ _ hRd hW)
    · have hlt := (Array.getElem?_eq_some_iff.1 hk).1
      simp at hlt
      simp [hlt] at hl
    · by_cases hlt : i < l.length
      · simp [hlt]
      · simp [hlt]
end
end Go.Proofs.Ytpdhnkmihlgdjaa.Gw
