/- The law of a region whose operations make memory at most, where an operation's guard may itself have been left out. -/
import Derived.Test.YtniffijjdehnaaaGen
namespace Go.Proofs.Ytniffijjdehnaaa.Gw
open Go.RowKit

/-- An operation, its guard's slot. -/
def OpReq2 (P : Program) (G : Fact) (o : Oper) (g : Option (Tmp × Bool)) (a : Act) (w : World) : Prop :=
  match g with
  | none => Ok P o a w (Post G o.dst)
  | some (d, b) => (a.tmps[d]?.getD undef = .bool b ∧ Ok P o a w (Post G o.dst)) ∨ (a.tmps[d]?.getD undef = .bool (!b) ∧ Post G o.dst undef w) ∨ ((∀ c, a.tmps[d]?.getD undef ≠ .bool c) ∧ Post G o.dst undef w)
/-- All operations, one behind the other; each with the slots that it looks at. -/
def Req2 (P : Program) (G : Fact) (w0 : World) : List Oper → List (List Tmp × Option (Tmp × Bool)) → Prop
  | [], [] => True
  | o :: os, m :: ms => (∀ a w, Grows w0 w → Knows G a w m.1 → OpReq2 P G o m.2 a w) ∧ Req2 P G w0 os ms
  | _, _ => False
section
variable {P : Program} {ops : Array Oper} {n : Nat}
theorem req_at2 {G : Fact} {w0 : World} : ∀ (os : List Oper) (ms : List (List Tmp × Option (Tmp × Bool))), Req2 P G w0 os ms → ∀ (i : Nat) (o : Oper), os[i]? = some o → ∃ m : List Tmp × Option (Tmp × Bool), ms[i]? = some m ∧ ∀ a w, Grows w0 w → Knows G a w m.1 → OpReq2 P G o m.2 a w
  | [], _, _, i, o, h => by simp at h
  | o :: os, [], hr, _, _, _ => hr.elim
  | o :: os, m :: ms, hr, 0, _, h => ⟨m, rfl, by simp at h; subst h; exact hr.1⟩
  | o :: os, m :: ms, hr, i + 1, o', h => by
    obtain ⟨m', h1, h2⟩ := req_at2 os ms hr.2 i o' (by simpa using h)
    exact ⟨m', by simpa using h1, h2⟩
theorem wanted_no {o : Oper} {a : Act} {d : Tmp} {b : Bool} {g : Nat} (hg : o.guard = some (g, b)) (hd : (ops[g]?).bind (·.dst) = some d) (he : ∀ c, a.eval (.tmp d) ≠ .bool c) : Region.wanted o (yielded ops a.tmps) = false := by
  unfold Region.wanted
  rw [hg]
  simp only
  unfold yielded
  rw [hd]
  simp only [Option.bind_some]
  cases hx : a.tmps[d]? with
  | none => rfl
  | some x =>
    cases x with
    | bool c => exact absurd (show a.tmps.getD d undef = .bool c by rw [Array.getD_eq_getD_getElem?, hx]; rfl) (he c)
    | _ => rfl
theorem any_of_inv2 {G : Fact} {a0 : Act} {w0 : World} {Q : Exit → Act → World → Prop} (hB : flowB ops a0.tmps.size = true) (hreq : Req2 P G w0 ops.toList (metaOf ops))
    (hend : ∀ a w, (∀ listed : Array Bool, (∀ j, j < ops.size → listed.getD j true = true) → Inv ops G a0 w0 listed a w → Q .normal a w) ) :
    ∀ (fuel : Nat) (listed : Array Bool) (a : Act) (w : World), listed.toList.count false ≤ fuel → Inv ops G a0 w0 listed a w → wpAny P .any ops Q fuel listed a w := by
  have fin : ∀ (listed : Array Bool) (a : Act) (w : World), Inv ops G a0 w0 listed a w → Region.ready .any ops listed = [] → ∀ j, j < ops.size → listed.getD j true = true := fun listed a w h hr => by
    intro j
    induction j using Nat.strongRecOn with
    | _ j ih =>
      intro hj
      cases hl : listed.getD j true with
      | true => rfl
      | false =>
        exfalso
        have hjo : ops[j]? = some ops[j] := Array.getElem?_eq_getElem hj
        have : j ∈ Region.ready .any ops listed := mem_ready.2 ⟨hl, ops[j], hjo, fun e he hb => by
          have hlt := (flow_at hB hjo).1 e he hb
          have h1 := ih e.on hlt (by omega)
          have hb : e.on < listed.size := by rw [h.listedSize]; omega
          simpa [hb] using h1⟩
        rw [hr] at this
        cases this
  intro fuel
  induction fuel with
  | zero =>
    intro listed a w hc h
    have h0 : ∀ j, j < ops.size → listed.getD j true = true := fun j hj => by
      cases hl : listed.getD j true with
      | true => rfl
      | false =>
        exfalso
        have hb : j < listed.size := by rw [h.listedSize]; exact hj
        have : (false : Bool) ∈ listed.toList := by
          have e : listed[j] = false := by simpa [hb] using hl
          rw [← e]
          exact Array.getElem_mem_toList hb
        have := List.count_pos_iff.2 this
        omega
    refine ⟨?_, hend a w listed h0 h⟩
    cases hr : Region.ready .any ops listed with
    | nil => rfl
    | cons i r =>
      exfalso
      have hm : i ∈ Region.ready .any ops listed := by rw [hr]; simp
      obtain ⟨hu, o, ho, -⟩ := mem_ready.1 hm
      rw [h0 i (Array.getElem?_eq_some_iff.1 ho).1] at hu
      cases hu
  | succ fuel ih =>
    intro listed a w hc h
    refine ⟨fun hr => hend a w listed (fin listed a w h hr) h, fun i hm => ?_⟩
    obtain ⟨hu, o, ho, hall⟩ := mem_ready.1 hm
    have hlt : i < listed.size := by rw [h.listedSize]; exact (Array.getElem?_eq_some_iff.1 ho).1
    have hcount : (listed.setIfInBounds i true).toList.count false ≤ fuel := by
      have e : listed.toList[i]? = some false := by
        have : listed[i] = false := by simpa [hlt] using hu
        simp [hlt, this]
      have := count_set listed.toList i e
      simp only [Array.toList_setIfInBounds]
      omega
    obtain ⟨hacyc, hguard, hdlt, hflow⟩ := flow_at hB ho
    obtain ⟨m, hm1, hm2⟩ := req_at2 ops.toList (metaOf ops) hreq i o (by simpa using ho)
    have hme : m = (o.looksAt ops, guardOf ops o) := by
      unfold metaOf at hm1
      rw [List.getElem?_map] at hm1
      have : ops.toList[i]? = some o := by simpa using ho
      rw [this] at hm1
      simpa using hm1.symm
    subst hme
    have hk : Knows G a w (o.looksAt ops) := knows_of _ fun t ht => (h.facts t fun j q hj hq => by
      obtain ⟨e, he, hb, rfl⟩ := (hflow j q t hj hq).1 ht
      have h1 := hall e he hb
      have hjl : e.on < listed.size := by rw [h.listedSize]; exact (Array.getElem?_eq_some_iff.1 hj).1
      simpa [hjl] using h1).now
    have hreq' := hm2 a w h.grows hk
    unfold wpOp
    simp only [ho]
    have go : ∀ v w', Grows w w' → Post G o.dst v w' → wpAny P .any ops Q fuel (listed.setIfInBounds i true) (a.put o.dst v) w' := fun v w' hg hp =>
      ih _ _ _ hcount (inv_put hB ho h hg hp)
    unfold OpReq2 guardOf at hreq'
    cases hgd : o.guard with
    | none =>
      rw [hgd] at hreq'
      have hw : Region.wanted o (yielded ops a.tmps) = true := by unfold Region.wanted; rw [hgd]
      rw [if_pos hw]
      exact .inl (wp_of_ok hreq' go)
    | some gb =>
      obtain ⟨g, b⟩ := gb
      obtain ⟨q, d, hq, hqd⟩ := hguard g b hgd
      rw [hgd] at hreq'
      have hbind : (ops[g]?).bind (·.dst) = some d := by rw [hq]; exact hqd
      simp only [hbind, Option.map_some] at hreq'
      rw [← eval_slot] at hreq'
      rcases hreq' with ⟨he, hok⟩ | ⟨he, hp⟩ | ⟨he, hp⟩
      · have hw := wanted_of (ops := ops) hgd hbind he
        rw [if_pos (by rw [hw]; simp)]
        exact .inl (wp_of_ok hok go)
      · have hw := wanted_of (ops := ops) hgd hbind he
        rw [if_neg (by rw [hw]; cases b <;> simp)]
        exact go _ _ (Grows.refl w) hp
      · have hw := wanted_no (ops := ops) hgd hbind he
        rw [if_neg (by rw [hw]; simp)]
        exact go _ _ (Grows.refl w) hp

/-- **The law**: behind the region, whatever the order, of each operation's slot is known what was to be shown. -/
theorem wp_region_grow2 {id : Nat} {Q : Exit → Act → World → Prop} {a0 : Act} {w : World} {l : List Oper} (G : Fact) (dsts : List Tmp) (ms : List (List Tmp × Option (Tmp × Bool))) (size : Nat) (hm : P.follows .mixedOrders = true)
    (hB : (flowB l.toArray size && (metaOf l.toArray == ms) && (dstsOf l.toArray == dsts)) = true) (hsz : a0.tmps.size = size)
    (h0 : ∀ t W, t ∉ dsts → Grows w W → G t (a0.eval (.tmp t)) W) (hreq : Req2 P G w l ms)
    (hend : ∀ (x : Tmp → Value) (w' : World), Grows w w' → (∀ d ∈ dsts, Holds G d (x d) w') → Q .normal (putAll x dsts a0) w') : (Code.region id l.toArray true).wp P Q a0 w := by
  simp only [Bool.and_eq_true, beq_iff_eq] at hB
  obtain ⟨⟨hf, hme⟩, hde⟩ := hB
  subst hsz
  have hmem : ∀ t : Tmp, t ∈ dsts ↔ ∃ (j : Nat) (o : Oper), l.toArray[j]? = some o ∧ o.dst = some t := fun t => by
    rw [← hde]
    unfold dstsOf
    simp only [List.mem_filterMap]
    constructor
    · rintro ⟨o, ho, hd⟩
      obtain ⟨j, hj⟩ := List.mem_iff_getElem?.1 ho
      exact ⟨j, o, by simpa using hj, hd⟩
    · rintro ⟨j, o, hj, hd⟩
      exact ⟨o, List.mem_iff_getElem?.2 ⟨j, by simpa using hj⟩, hd⟩
  refine wp_region_any hm (any_of_inv2 (G := G) (a0 := a0) (w0 := w) hf (by rw [hme]; exact hreq) ?_ _ _ _ _ ?_ ?_)
  · intro a w' listed hall hinv
    have e : a = putAll (fun t => a.eval (.tmp t)) dsts a0 := by
      have hsz := hinv.size
      have hdf := hinv.defers
      have ht : a.tmps = (putAll (fun t => a.eval (.tmp t)) dsts a0).tmps := by
        apply Array.ext_getElem?
        intro t
        by_cases hlt : t < a0.tmps.size
        · rw [putAll_get _ _ _ _ hlt]
          have hat : a.tmps[t]? = some (a.eval (.tmp t)) := by
            have : t < a.tmps.size := by rw [hsz]; exact hlt
            simp [Act.eval, this]
          by_cases hd : t ∈ dsts
          · rw [if_pos hd, hat]
          · rw [if_neg hd, hat, hinv.others t (fun j o hj hq => hd ((hmem t).2 ⟨j, o, hj, hq⟩))]
            simp [Act.eval, hlt]
        · rw [Array.getElem?_eq_none (by rw [hsz]; omega), Array.getElem?_eq_none (by rw [putAll_size]; omega)]
      have hdd : a.defers = (putAll (fun t => a.eval (.tmp t)) dsts a0).defers := by rw [putAll_defers, hdf]
      exact act_ext ht hdd
    rw [e]
    refine hend _ _ hinv.grows fun d hd => ?_
    exact hinv.facts d fun j o hj _ => hall j (Array.getElem?_eq_some_iff.1 hj).1
  · simp
  · refine ⟨⟨rfl, rfl, rfl, Nat.le_refl _, fun _ _ => rfl⟩, rfl, rfl, fun t ht => ?_, fun _ _ => rfl, by simp⟩
    have hnd : t ∉ dsts := fun hd => by
      obtain ⟨j, o, hj, hq⟩ := (hmem t).1 hd
      have := ht j o hj hq
      have hlt := (Array.getElem?_eq_some_iff.1 hj).1
      simp at hlt
      simp [hlt] at this
    exact fun W hW => h0 t W hnd ⟨hW.os, hW.tape, hW.output, hW.size, hW.block⟩
end
end Go.Proofs.Ytniffijjdehnaaa.Gw
