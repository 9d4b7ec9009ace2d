/- A region that draws its order ahead of a tail, whose tail may write what was looked at. -/
import Derived.Test.YtniffijjdehnaaaGen
namespace Go.Proofs.Ytniffijjdehnaaa.Gw
open Go.RowKit

/-- .. as far as the first m operations: each slot is written once, and whoever looks at it waits for that; an operation waits for those ahead of it alone; each guard has a slot. -/
def flowT (ops : Array Oper) (n m : Nat) : Bool :=
  (List.range ops.size).all fun i =>
    match ops[i]? with
    | none => true
    | some o =>
      (o.after.all fun e => !Region.binds .any e || decide (e.on < i)) &&
      (match o.guard with | some (g, _) => ((ops[g]?).bind (·.dst)).isSome | none => true) &&
      (match o.dst with | some d => decide (d < n) | none => true) &&
      (List.range m).all fun j =>
        match ops[j]? with
        | none => true
        | some q =>
          match q.dst with
          | none => true
          | some d => (!(o.looksAt ops).contains d || o.after.any fun e => Region.binds .any e && e.on == j) && (i == j || o.dst != some d)


section
variable {P : Program} {ops : Array Oper} {n : Nat}
theorem flowT_at {m : Nat} (hm : m ≤ ops.size) (h : flowT ops n m = true) {i : Nat} {o : Oper} (hi : ops[i]? = some o) :
    (∀ e ∈ o.after, Region.binds .any e = true → e.on < i) ∧ (∀ g b, o.guard = some (g, b) → ∃ q d, ops[g]? = some q ∧ q.dst = some d) ∧ (∀ d, o.dst = some d → d < n) ∧
    (∀ (j : Nat) (q : Oper) (d : Tmp), j < m → ops[j]? = some q → q.dst = some d → (d ∈ o.looksAt ops → ∃ e ∈ o.after, Region.binds .any e = true ∧ e.on = j) ∧ (i ≠ j → o.dst ≠ some d)) := by
  have hlt : i < ops.size := (Array.getElem?_eq_some_iff.1 hi).1
  have h1 := List.all_eq_true.1 h i (List.mem_range.2 hlt)
  simp only [hi, Bool.and_eq_true] at h1
  obtain ⟨⟨⟨ha, hg⟩, hd⟩, hq⟩ := h1
  refine ⟨fun e he hb => ?_, fun g b hgb => ?_, fun d hdd => ?_, fun j q d hjm hj hqd => ?_⟩
  · have := Array.all_eq_true_iff_forall_mem.1 ha e he
    simpa [hb] using this
  · rw [hgb] at hg
    simp only at hg
    cases hgo : ops[g]? with
    | none => simp [hgo] at hg
    | some q =>
      simp only [hgo, Option.bind_some] at hg
      cases hqd : q.dst with
      | none => simp [hqd] at hg
      | some d => exact ⟨q, d, rfl, hqd⟩
  · rw [hdd] at hd
    simpa using hd
  · have hjlt : j < ops.size := (Array.getElem?_eq_some_iff.1 hj).1
    have h2 := List.all_eq_true.1 hq j (List.mem_range.2 hjm)
    simp only [hj, hqd, Bool.and_eq_true] at h2
    refine ⟨fun hm => ?_, fun hne he => ?_⟩
    · have h3 := h2.1
      have hc : (o.looksAt ops).contains d = true := by simpa using hm
      rw [hc] at h3
      rw [Bool.not_true, Bool.false_or, Array.any_eq_true] at h3
      obtain ⟨x, hx, h3⟩ := h3
      simp only [Bool.and_eq_true, beq_iff_eq] at h3
      exact ⟨o.after[x], Array.getElem_mem hx, h3.1, h3.2⟩
    · have h3 := h2.2
      simp [hne, he] at h3

end
section
variable {P : Program} {ops : Array Oper} {n size : Nat}
theorem tail_seqT {Q : Exit → Act → World → Prop} (hF : flowT ops size n = true) (hT : tailB ops n = true) (hnn : n ≤ ops.size) : ∀ (fuel m : Nat) (listed : Array Bool) (a : Act) (w : World), n ≤ m → m ≤ ops.size → listed.size = ops.size →
    (∀ k, k < ops.size → (listed.getD k false = true ↔ k < m)) → ops.size - m ≤ fuel → seqTail P Q (ops.toList.drop m) a w → wpAny P .any ops Q fuel listed a w := by
  intro fuel
  induction fuel with
  | zero =>
    intro m listed a w hn hm hs hl hf h
    have e : m = ops.size := by omega
    subst e
    rw [List.drop_of_length_le (by simp)] at h
    refine ⟨?_, h⟩
    cases hr : Region.ready .any ops listed with
    | nil => rfl
    | cons i r =>
      exfalso
      obtain ⟨hu, o, ho, -⟩ := ready_at hs (show i ∈ Region.ready .any ops listed by rw [hr]; simp)
      have hlt := (Array.getElem?_eq_some_iff.1 ho).1
      rw [(hl i hlt).2 hlt] at hu
      cases hu
  | succ fuel ih =>
    intro m listed a w hn hm hs hl hf h
    have closed : Closed ops listed := fun k o hk hlk e he hb => by
      have hkl := (Array.getElem?_eq_some_iff.1 hk).1
      have h1 := (flowT_at hnn hF hk).1 e he hb
      exact (hl e.on (by omega)).2 (by have := (hl k hkl).1 hlk; omega)
    refine ⟨fun hr => ?_, fun i hi => ?_⟩
    · by_cases e : m = ops.size
      · subst e
        rw [List.drop_of_length_le (by simp)] at h
        exact h
      · exfalso
        have hlt : m < ops.size := by omega
        have ho : ops[m]? = some ops[m] := Array.getElem?_eq_getElem hlt
        have : m ∈ Region.ready .any ops listed := mem_ready.2 ⟨by
          rw [listed_two (by omega)]
          cases hx : listed.getD m false with
          | false => rfl
          | true => exact absurd ((hl m hlt).1 hx) (Nat.lt_irrefl _), _, ho, fun e he hb => by
          have h1 := (flowT_at hnn hF ho).1 e he hb
          exact (hl e.on (by omega)).2 h1⟩
        rw [hr] at this
        cases this
    · obtain ⟨hu, o, ho, hall⟩ := ready_at hs hi
      have hlt := (Array.getElem?_eq_some_iff.1 ho).1
      have him : m ≤ i := by
        rcases Nat.lt_or_ge i m with h1 | h1
        · rw [(hl i hlt).2 h1] at hu; cases hu
        · exact h1
      obtain ⟨hg, hw⟩ := tail_at hT ho (by omega)
      have hei : i = m := by
        rcases Nat.lt_or_ge m i with h1 | h1
        · have := waits_listed closed _ _ _ o ho hall (hw m h1)
          exact absurd ((hl m (by omega)).1 this) (Nat.lt_irrefl _)
        · omega
      subst hei
      have hd : ops.toList.drop i = o :: ops.toList.drop (i + 1) := by
        rw [List.drop_eq_getElem_cons (by simpa using hlt)]
        congr 1
        have := (Array.getElem?_eq_some_iff.1 ho).2
        simpa using this
      rw [hd] at h
      unfold wpOp
      simp only [ho]
      have hwt : Region.wanted o (yielded ops a.tmps) = true := by unfold Region.wanted; rw [hg]
      rw [if_pos hwt]
      refine .inl (Oper.wp_mono (fun a' w' hK => ?_) h)
      refine ih (i + 1) _ _ _ (by omega) (by omega) (by simpa using hs) (fun k hk => ?_) (by omega) hK
      by_cases hki : i = k
      · subst hki
        have hx : i < listed.size := by omega
        simp [hx]
      · rw [getD_set_ne false hki, hl k hk]
        omega


theorem invTT_put {G : Fact} {a0 : Act} {w0 : World} {listed : Array Bool} {a : Act} {w w' : World} {i : Nat} {o : Oper} {v : Value} (hB : flowT ops a0.tmps.size n = true) (hnn : n ≤ ops.size) (hin : i < n) (hi : ops[i]? = some o)
    (hall : ∀ e ∈ o.after, Region.binds .any e = true → listed.getD e.on false = true)
    (h : InvT ops n G a0 w0 listed a w) (hg : Grows w w') (hp : Post G o.dst v w') : InvT ops n G a0 w0 (listed.setIfInBounds i true) (a.put o.dst v) w' := by
  obtain ⟨hac, -, hlt, hone⟩ := flowT_at hnn hB hi
  have hil : i < listed.size := by rw [h.listedSize]; exact (Array.getElem?_eq_some_iff.1 hi).1
  refine ⟨h.grows.trans hg, by rw [defers_put, h.defers], by rw [size_put, h.size], fun t ht => ?_, fun t ht => ?_, by simpa using h.listedSize, fun k q hk hlk e he hb => ?_, fun k hk => ?_⟩
  · by_cases hd : o.dst = some t
    · rw [hd] at hp ⊢
      rw [eval_put_same (by rw [h.size]; exact hlt t hd)]
      exact hp
    · rw [eval_put_other hd]
      refine (h.facts t fun j q hjn hj hq => ?_).grow hg
      have hne : i ≠ j := fun e => by
        subst e
        rw [hi] at hj
        injection hj with hj
        subst hj
        exact hd hq
      have := ht j q hjn hj hq
      rwa [getD_set_ne false hne] at this
  · rw [eval_put_other (ht i o hin hi)]
    exact h.others t ht
  · have hold : listed.getD e.on false = true → (listed.setIfInBounds i true).getD e.on false = true := getD_set_true
    by_cases hki : i = k
    · subst hki
      rw [hi] at hk
      injection hk with hk
      subst hk
      exact hold (hall e he hb)
    · rw [getD_set_ne false hki] at hlk
      exact hold (h.closed k q hk hlk e he hb)
  · rw [getD_set_ne false (by omega)]
    exact h.none k hk

theorem any_of_invTT {G : Fact} {a0 : Act} {w0 : World} {Q : Exit → Act → World → Prop} {ms : List (List Tmp × Option (Tmp × Bool))} (hB : flowT ops a0.tmps.size n = true) (hT : tailB ops n = true) (hn : n ≤ ops.size) (hms : ms = (metaOf ops).take n) (hreq : Req P G w0 (ops.toList.take n) ms)
    (hend : ∀ a w, (∀ listed : Array Bool, (∀ j, j < n → listed.getD j false = true) → InvT ops n G a0 w0 listed a w → seqTail P Q (ops.toList.drop n) a w) ) :
    ∀ (fuel : Nat) (listed : Array Bool) (a : Act) (w : World), listed.toList.count false ≤ fuel → InvT ops n G a0 w0 listed a w → wpAny P .any ops Q fuel listed a w := by
  intro fuel
  induction fuel with
  | zero =>
    intro listed a w hc h
    have hcnt := count_rest listed.toList n (fun k hk => by have := h.none k hk; simpa using this)
    rw [Array.length_toList, h.listedSize] at hcnt
    have hall : ∀ j, j < n → listed.getD j false = true := fun j hj => by
      cases hl : listed.getD j false with
      | true => rfl
      | false =>
        exfalso
        have hb : j < listed.size := by rw [h.listedSize]; omega
        have : (false : Bool) ∈ listed.toList := by
          have e : listed[j] = false := by simpa [hb] using hl
          rw [← e]
          exact Array.getElem_mem_toList hb
        have := List.count_pos_iff.2 this
        omega
    exact tail_seqT hB hT hn 0 n listed a w (Nat.le_refl _) hn h.listedSize (fun k _ => ⟨fun hk => Nat.lt_of_not_le fun h1 => (by rw [h.none k h1] at hk; cases hk), hall k⟩) (by omega) (hend a w listed hall h)
  | succ fuel ih =>
    intro listed a w hc h
    have hcnt := count_rest listed.toList n (fun k hk => by have := h.none k hk; simpa using this)
    rw [Array.length_toList, h.listedSize] at hcnt
    by_cases hall : ∀ j, j < n → listed.getD j false = true
    · exact tail_seqT hB hT hn _ n listed a w (Nat.le_refl _) hn h.listedSize (fun k _ => ⟨fun hk => Nat.lt_of_not_le fun h1 => (by rw [h.none k h1] at hk; cases hk), hall k⟩) (by omega) (hend a w listed hall h)
    · have hready : Region.ready .any ops listed ≠ [] := fun hr => hall fun j => by
        induction j using Nat.strongRecOn with
        | _ j ihj =>
          intro hj
          cases hl : listed.getD j false with
          | true => rfl
          | false =>
            exfalso
            have hjo : ops[j]? = some ops[j] := Array.getElem?_eq_getElem (by omega)
            have : j ∈ Region.ready .any ops listed := mem_ready.2 ⟨by rw [listed_two (by rw [h.listedSize]; omega)]; exact hl, ops[j], hjo, fun e he hb => by
              have hlt := (flowT_at hn hB hjo).1 e he hb
              exact ihj e.on hlt (by omega)⟩
            rw [hr] at this
            cases this
      refine ⟨fun hr => absurd hr hready, fun i hm => ?_⟩
      obtain ⟨hu, o, ho, hal⟩ := ready_at h.listedSize hm
      have hil : i < ops.size := (Array.getElem?_eq_some_iff.1 ho).1
      have hin : i < n := by
        rcases Nat.lt_or_ge i n with h1 | h1
        · exact h1
        · exact absurd (fun j hj => waits_listed h.closed _ _ _ o ho hal ((tail_at hT ho h1).2 j (by omega))) hall
      have hlt : i < listed.size := by rw [h.listedSize]; exact hil
      have hcount : (listed.setIfInBounds i true).toList.count false ≤ fuel := by
        have e : listed.toList[i]? = some false := by
          have : listed[i] = false := by simpa [hlt] using hu
          simp [hlt, this]
        have := count_set listed.toList i e
        simp only [Array.toList_setIfInBounds]
        omega
      obtain ⟨hacyc, hguard, hdlt, hflow⟩ := flowT_at hn hB ho
      obtain ⟨m, hm1, hm2⟩ := req_at (ops.toList.take n) ms hreq i o (by rw [List.getElem?_take, if_pos hin]; simpa using ho)
      have hme : m = (o.looksAt ops, guardOf ops o) := by
        rw [hms, List.getElem?_take, if_pos hin] at hm1
        unfold metaOf at hm1
        rw [List.getElem?_map] at hm1
        have : ops.toList[i]? = some o := by simpa using ho
        rw [this] at hm1
        simpa using hm1.symm
      subst hme
      have hk : Knows G a w (o.looksAt ops) := knows_of _ fun t ht => (h.facts t fun j q hjn hj hq => by
        obtain ⟨e, he, hb, rfl⟩ := (hflow j q t hjn hj hq).1 ht
        exact hal e he hb).now
      have hreq' := hm2 a w h.grows hk
      unfold wpOp
      simp only [ho]
      have go : ∀ v w', Grows w w' → Post G o.dst v w' → wpAny P .any ops Q fuel (listed.setIfInBounds i true) (a.put o.dst v) w' := fun v w' hg hp =>
        ih _ _ _ hcount (invTT_put hB hn hin ho hal h hg hp)
      unfold OpReq guardOf at hreq'
      cases hgd : o.guard with
      | none =>
        rw [hgd] at hreq'
        have hw : Region.wanted o (yielded ops a.tmps) = true := by unfold Region.wanted; rw [hgd]
        rw [if_pos hw]
        exact .inl (wp_of_ok hreq' go)
      | some gb =>
        obtain ⟨g, b⟩ := gb
        obtain ⟨q, d, hq, hqd⟩ := hguard g b hgd
        rw [hgd] at hreq'
        have hbind : (ops[g]?).bind (·.dst) = some d := by rw [hq]; exact hqd
        simp only [hbind, Option.map_some] at hreq'
        rw [← eval_slot] at hreq'
        rcases hreq' with ⟨he, hok⟩ | ⟨he, hp⟩
        · have hw := wanted_of (ops := ops) hgd hbind he
          rw [if_pos (by rw [hw]; simp)]
          exact .inl (wp_of_ok hok go)
        · have hw := wanted_of (ops := ops) hgd hbind he
          rw [if_neg (by rw [hw]; cases b <;> simp)]
          exact go _ _ (Grows.refl w) hp


/-- **The law**: of each operation's slot ahead of the tail is known what was to be shown, whatever the order; then the tail. -/
theorem wp_region_tailT {id : Nat} {Q : Exit → Act → World → Prop} {a0 : Act} {w : World} {l tail : List Oper} (n : Nat) (G : Fact) (dsts : List Tmp) (ms : List (List Tmp × Option (Tmp × Bool))) (size : Nat) (hm : P.follows .mixedOrders = true)
    (hB : (flowT l.toArray size n && tailB l.toArray n && decide (n ≤ l.length) && (ms == (metaOf l.toArray).take n) && ((l.take n).filterMap (·.dst) == dsts)) = true) (hsz : a0.tmps.size = size)
    (h0 : ∀ t W, t ∉ dsts → Grows w W → G t (a0.eval (.tmp t)) W) (hreq : Req P G w (l.take n) ms)
    (htail : l.drop n = tail)
    (hend : ∀ (x : Tmp → Value) (w' : World), Grows w w' → (∀ d ∈ dsts, Holds G d (x d) w') → seqTail P Q tail (putAll x dsts a0) w') : (Code.region id l.toArray true).wp P Q a0 w := by
  simp only [Bool.and_eq_true, beq_iff_eq, decide_eq_true_eq] at hB
  obtain ⟨⟨⟨⟨hf, hT⟩, hn⟩, hme⟩, hde⟩ := hB
  subst hsz htail
  have hmem : ∀ t : Tmp, t ∈ dsts ↔ ∃ (j : Nat) (o : Oper), j < n ∧ l.toArray[j]? = some o ∧ o.dst = some t := fun t => by
    rw [← hde]
    simp only [List.mem_filterMap]
    constructor
    · rintro ⟨o, ho, hd⟩
      obtain ⟨j, hj⟩ := List.mem_iff_getElem?.1 ho
      rw [List.getElem?_take] at hj
      split at hj
      · rename_i hjn
        exact ⟨j, o, hjn, by simpa using hj, hd⟩
      · cases hj
    · rintro ⟨j, o, hjn, hj, hd⟩
      exact ⟨o, List.mem_iff_getElem?.2 ⟨j, by rw [List.getElem?_take, if_pos hjn]; simpa using hj⟩, hd⟩
  refine wp_region_any hm (any_of_invTT (n := n) (ms := ms) (G := G) (a0 := a0) (w0 := w) hf hT (by simpa using hn) hme (by simpa using hreq) ?_ _ _ _ _ ?_ ?_)
  · intro a w' listed hall hinv
    have e : a = putAll (fun t => a.eval (.tmp t)) dsts a0 := by
      have hsz := hinv.size
      have hdf := hinv.defers
      have ht : a.tmps = (putAll (fun t => a.eval (.tmp t)) dsts a0).tmps := by
        apply Array.ext_getElem?
        intro t
        by_cases hlt : t < a0.tmps.size
        · rw [putAll_get _ _ _ _ hlt]
          have hat : a.tmps[t]? = some (a.eval (.tmp t)) := by
            have : t < a.tmps.size := by rw [hsz]; exact hlt
            simp [Act.eval, this]
          by_cases hd : t ∈ dsts
          · rw [if_pos hd, hat]
          · rw [if_neg hd, hat, hinv.others t (fun j o hjn hj hq => hd ((hmem t).2 ⟨j, o, hjn, hj, hq⟩))]
            simp [Act.eval, hlt]
        · rw [Array.getElem?_eq_none (by rw [hsz]; omega), Array.getElem?_eq_none (by rw [putAll_size]; omega)]
      have hdd : a.defers = (putAll (fun t => a.eval (.tmp t)) dsts a0).defers := by rw [putAll_defers, hdf]
      exact act_ext ht hdd
    rw [e]
    have := hend (fun t => a.eval (.tmp t)) w' hinv.grows fun d hd => hinv.facts d fun j o hjn _ _ => hall j hjn
    simpa using this
  · simp
  · refine ⟨⟨rfl, rfl, rfl, Nat.le_refl _, fun _ _ => rfl⟩, rfl, rfl, fun t ht => ?_, fun _ _ => rfl, by simp, fun k o hk hl => ?_, fun k _ => ?_⟩
    · have hnd : t ∉ dsts := fun hd => by
        obtain ⟨j, o, hjn, hj, hq⟩ := (hmem t).1 hd
        have := ht j o hjn hj hq
        have hlt := (Array.getElem?_eq_some_iff.1 hj).1
        simp at hlt
        simp [hlt] at this
      exact fun W hW => h0 t W hnd ⟨hW.os, hW.tape, hW.output, hW.size, hW.block⟩
    · have hlt := (Array.getElem?_eq_some_iff.1 hk).1
      simp at hlt
      simp [hlt] at hl
    · by_cases hlt : k < l.length
      · simp [hlt]
      · simp [hlt]

end
end Go.Proofs.Ytniffijjdehnaaa.Gw
namespace Go.Proofs.Ytniffijjdehnaaa
open Go.RowKit
/-- Its tail behind a name. -/
theorem wp_region_tlT {P : Program} {id : Nat} {Q : Exit → Act → World → Prop} {a0 : Act} {w : World} {l tail : List Oper} (n : Nat) (G : Gw.Fact) (dsts : List Tmp) (ms : List (List Tmp × Option (Tmp × Bool))) (size : Nat) (hm : P.follows .mixedOrders = true)
    (hB : (Gw.flowT l.toArray size n && Gw.tailB l.toArray n && decide (n ≤ l.length) && (ms == (Gw.metaOf l.toArray).take n) && ((l.take n).filterMap (·.dst) == dsts)) = true) (hsz : a0.tmps.size = size)
    (h0 : ∀ t W, t ∉ dsts → Gw.Grows w W → G t (a0.eval (.tmp t)) W) (hreq : Gw.Req P G w (l.take n) ms)
    (htail : l.drop n = tail)
    (hend : ∀ (x : Tmp → Value) (w' : World), Gw.Grows w w' → (∀ d ∈ dsts, Gw.Holds G d (x d) w') → Tl (Gw.seqTail P Q tail (Gw.putAll x dsts a0) w')) : (Code.region id l.toArray true).wp P Q a0 w :=
  Gw.wp_region_tailT n G dsts ms size hm hB hsz h0 hreq htail fun x w' hg hx => (hend x w' hg hx).out
end Go.Proofs.Ytniffijjdehnaaa
