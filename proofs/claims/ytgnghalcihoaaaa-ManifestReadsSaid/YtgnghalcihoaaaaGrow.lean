/- A region that draws its order, whose operations make memory at most: what is known of each operation's value, given what is known of those it looks at, is known behind the region, whatever the order. -/
import Derived.Orders
import Derived.Below
import Derived.BigFrame
namespace Go.Proofs.Ytgnghalcihoaaaa.Gw
open Go.RowKit

/-- Memory that was there is as it was. -/
def Grows (w w' : World) : Prop := Below w.heap.size w w'
theorem Grows.refl (w : World) : Grows w w := Below.refl _ _
theorem Grows.trans {a b c : World} (h : Grows a b) (k : Grows b c) : Grows a c := Below.trans h (Below.mono k h.size)

/-- What is known of a slot's value: a slot, the value, the world. -/
abbrev Fact := Tmp → Value → World → Prop
/-- Known from here on. -/
def Holds (G : Fact) (t : Tmp) (v : Value) (w : World) : Prop := ∀ W, Grows w W → G t v W
theorem Holds.grow {G : Fact} {t : Tmp} {v : Value} {w w' : World} (h : Holds G t v w) (hg : Grows w w') : Holds G t v w' := fun W hW => h W (hg.trans hW)
theorem Holds.now {G : Fact} {t : Tmp} {v : Value} {w : World} (h : Holds G t v w) : G t v w := h w (Grows.refl w)

/-- What is known of some slots. -/
def Knows (G : Fact) (a : Act) (w : World) : List Tmp → Prop
  | [] => True
  | t :: l => G t (a.tmps[t]?.getD undef) w ∧ Knows G a w l
/-- What is asked of an operation that is carried out: a value of which this is known, in a world that has grown. -/
def Ok (P : Program) (o : Oper) (a : Act) (w : World) (p : Value → World → Prop) : Prop :=
  match (execOp a.eval o).run P w with
  | .ok (.value v) w' => Grows w w' ∧ p v w'
  | .ok .skip w' => Grows w w' ∧ p undef w'
  | .ok (.enter f args) w' => Grows w w' ∧ Calls P f args w' fun e w'' => ∃ v, e = .returned v ∧ Grows w' w'' ∧ p v w''
  | _ => False
/-- What is to be known of an operation's own slot. -/
def Post (G : Fact) (dst : Option Tmp) (v : Value) (w : World) : Prop :=
  match dst with
  | some d => Holds G d v w
  | none => True
theorem Post.grow {G : Fact} {d : Option Tmp} {v : Value} {w w' : World} (h : Post G d v w) (hg : Grows w w') : Post G d v w' := by
  cases d with
  | none => trivial
  | some d => exact Holds.grow h hg
/-- An operation, its guard's slot. -/
def OpReq (P : Program) (G : Fact) (o : Oper) (g : Option (Tmp × Bool)) (a : Act) (w : World) : Prop :=
  match g with
  | none => Ok P o a w (Post G o.dst)
  | some (d, b) => (a.tmps[d]?.getD undef = .bool b ∧ Ok P o a w (Post G o.dst)) ∨ (a.tmps[d]?.getD undef = .bool (!b) ∧ Post G o.dst undef w)
/-- All operations, one behind the other; each with the slots that it looks at. -/
def Req (P : Program) (G : Fact) (w0 : World) : List Oper → List (List Tmp × Option (Tmp × Bool)) → Prop
  | [], [] => True
  | o :: os, m :: ms => (∀ a w, Grows w0 w → Knows G a w m.1 → OpReq P G o m.2 a w) ∧ Req P G w0 os ms
  | _, _ => False

/-- The slot of an operation's guard. -/
def guardOf (ops : Array Oper) (o : Oper) : Option (Tmp × Bool) :=
  match o.guard with
  | some (g, b) => ((ops[g]?).bind (·.dst)).map fun d => (d, b)
  | none => none
def metaOf (ops : Array Oper) : List (List Tmp × Option (Tmp × Bool)) := ops.toList.map fun o => (o.looksAt ops, guardOf ops o)
/-- The slots that the operations write. -/
def dstsOf (ops : Array Oper) : List Tmp := ops.toList.filterMap (·.dst)
/-- Each slot is written once, and whoever looks at it waits for that; an operation waits for those ahead of it alone; each guard has a slot. -/
def flowB (ops : Array Oper) (n : Nat) : Bool :=
  (List.range ops.size).all fun i =>
    match ops[i]? with
    | none => true
    | some o =>
      (o.after.all fun e => !Region.binds .any e || decide (e.on < i)) &&
      (match o.guard with | some (g, _) => ((ops[g]?).bind (·.dst)).isSome | none => true) &&
      (match o.dst with | some d => decide (d < n) | none => true) &&
      (List.range ops.size).all fun j =>
        match ops[j]? with
        | none => true
        | some q =>
          match q.dst with
          | none => true
          | some d => (!(o.looksAt ops).contains d || o.after.any fun e => Region.binds .any e && e.on == j) && (i == j || o.dst != some d)

section
variable {P : Program} {ops : Array Oper} {n : Nat}
theorem flow_at (h : flowB ops n = true) {i : Nat} {o : Oper} (hi : ops[i]? = some o) :
    (∀ e ∈ o.after, Region.binds .any e = true → e.on < i) ∧ (∀ g b, o.guard = some (g, b) → ∃ q d, ops[g]? = some q ∧ q.dst = some d) ∧ (∀ d, o.dst = some d → d < n) ∧
    (∀ (j : Nat) (q : Oper) (d : Tmp), ops[j]? = some q → q.dst = some d → (d ∈ o.looksAt ops → ∃ e ∈ o.after, Region.binds .any e = true ∧ e.on = j) ∧ (i ≠ j → o.dst ≠ some d)) := by
  have hlt : i < ops.size := (Array.getElem?_eq_some_iff.1 hi).1
  have h1 := List.all_eq_true.1 h i (List.mem_range.2 hlt)
  simp only [hi, Bool.and_eq_true] at h1
  obtain ⟨⟨⟨ha, hg⟩, hd⟩, hq⟩ := h1
  refine ⟨fun e he hb => ?_, fun g b hgb => ?_, fun d hdd => ?_, fun j q d hj hqd => ?_⟩
  · have := Array.all_eq_true_iff_forall_mem.1 ha e he
    simpa [hb] using this
  · rw [hgb] at hg
    simp only at hg
    cases hgo : ops[g]? with
    | none => simp [hgo] at hg
    | some q =>
      simp only [hgo, Option.bind_some] at hg
      cases hqd : q.dst with
      | none => simp [hqd] at hg
      | some d => exact ⟨q, d, rfl, hqd⟩
  · rw [hdd] at hd
    simpa using hd
  · have hjlt : j < ops.size := (Array.getElem?_eq_some_iff.1 hj).1
    have h2 := List.all_eq_true.1 hq j (List.mem_range.2 hjlt)
    simp only [hj, hqd, Bool.and_eq_true] at h2
    refine ⟨fun hm => ?_, fun hne he => ?_⟩
    · have h3 := h2.1
      have hc : (o.looksAt ops).contains d = true := by simpa using hm
      rw [hc] at h3
      rw [Bool.not_true, Bool.false_or, Array.any_eq_true] at h3
      obtain ⟨x, hx, h3⟩ := h3
      simp only [Bool.and_eq_true, beq_iff_eq] at h3
      exact ⟨o.after[x], Array.getElem_mem hx, h3.1, h3.2⟩
    · have h3 := h2.2
      simp [hne, he] at h3

theorem req_at {G : Fact} {w0 : World} : ∀ (os : List Oper) (ms : List (List Tmp × Option (Tmp × Bool))), Req P G w0 os ms → ∀ (i : Nat) (o : Oper), os[i]? = some o → ∃ m : List Tmp × Option (Tmp × Bool), ms[i]? = some m ∧ ∀ a w, Grows w0 w → Knows G a w m.1 → OpReq P G o m.2 a w
  | [], _, _, i, o, h => by simp at h
  | o :: os, [], hr, _, _, _ => hr.elim
  | o :: os, m :: ms, hr, 0, _, h => ⟨m, rfl, by simp at h; subst h; exact hr.1⟩
  | o :: os, m :: ms, hr, i + 1, o', h => by
    obtain ⟨m', h1, h2⟩ := req_at os ms hr.2 i o' (by simpa using h)
    exact ⟨m', by simpa using h1, h2⟩
theorem eval_slot (a : Act) (t : Tmp) : a.eval (.tmp t) = a.tmps[t]?.getD undef := Array.getD_eq_getD_getElem? ..
theorem knows_of {G : Fact} {a : Act} {w : World} : ∀ (l : List Tmp), (∀ t ∈ l, G t (a.eval (.tmp t)) w) → Knows G a w l
  | [], _ => trivial
  | t :: l, h => ⟨by rw [← eval_slot]; exact h t (by simp), knows_of l fun t' ht' => h t' (by simp [ht'])⟩

theorem eval_put_same {a : Act} {d : Tmp} {v : Value} (hd : d < a.tmps.size) : (a.put (some d) v).eval (.tmp d) = v := by
  simp [Act.eval, Act.put, hd]
theorem eval_put_other {a : Act} {d : Option Tmp} {t : Tmp} {v : Value} (hd : d ≠ some t) : (a.put d v).eval (.tmp t) = a.eval (.tmp t) :=
  Act.eval_put (fun d' hd' he => hd (by cases he; exact hd'))
theorem size_put (a : Act) (d : Option Tmp) (v : Value) : (a.put d v).tmps.size = a.tmps.size := by cases d <;> simp [Act.put]
theorem defers_put (a : Act) (d : Option Tmp) (v : Value) : (a.put d v).defers = a.defers := by cases d <;> rfl

theorem wanted_of {o : Oper} {a : Act} {d : Tmp} {b c : Bool} {g : Nat} (hg : o.guard = some (g, b)) (hd : (ops[g]?).bind (·.dst) = some d) (he : a.eval (.tmp d) = .bool c) : Region.wanted o (yielded ops a.tmps) = (c == b) := by
  unfold Region.wanted
  rw [hg]
  simp only
  unfold yielded
  rw [hd]
  have : a.tmps[d]? = some (.bool c) := by
    have h : a.tmps.getD d undef = .bool c := he
    rw [Array.getD_eq_getD_getElem?] at h
    cases hx : a.tmps[d]? with
    | none => rw [hx] at h; simp [undef] at h
    | some x => rw [hx] at h; simp at h; rw [h]
  simp only [Option.bind_some, this]
  cases c <;> cases b <;> rfl

/-- What holds while the operations come up. -/
structure Inv (ops : Array Oper) (G : Fact) (a0 : Act) (w0 : World) (listed : Array Bool) (a : Act) (w : World) : Prop where
  grows : Grows w0 w
  defers : a.defers = a0.defers
  size : a.tmps.size = a0.tmps.size
  facts : ∀ t, (∀ (j : Nat) (o : Oper), ops[j]? = some o → o.dst = some t → listed.getD j true = true) → Holds G t (a.eval (.tmp t)) w
  others : ∀ t, (∀ (j : Nat) (o : Oper), ops[j]? = some o → o.dst ≠ some t) → a.eval (.tmp t) = a0.eval (.tmp t)
  listedSize : listed.size = ops.size

theorem wp_of_ok {o : Oper} {a : Act} {w : World} {K : Act → World → Prop} {Q : Exit → Act → World → Prop} {p : Value → World → Prop} (h : Ok P o a w p) (hK : ∀ v w', Grows w w' → p v w' → K (a.put o.dst v) w') : o.wp P a w K Q := by
  unfold Ok at h
  unfold Oper.wp
  generalize (execOp a.eval o).run P w = r at *
  cases r with
  | ok nx w' =>
    cases nx with
    | value v => exact hK _ _ h.1 h.2
    | skip => exact hK _ _ h.1 h.2
    | enter f args => exact h.2.mono fun e w'' ⟨v, he, hg, hp⟩ => by subst he; exact hK _ _ (h.1.trans hg) hp
    | _ => exact h.elim
  | halt x w' => exact h.elim

theorem inv_put {G : Fact} {a0 : Act} {w0 : World} {listed : Array Bool} {a : Act} {w w' : World} {i : Nat} {o : Oper} {v : Value} (hB : flowB ops a0.tmps.size = true) (hi : ops[i]? = some o)
    (h : Inv ops G a0 w0 listed a w) (hg : Grows w w') (hp : Post G o.dst v w') : Inv ops G a0 w0 (listed.setIfInBounds i true) (a.put o.dst v) w' := by
  obtain ⟨-, -, hlt, hone⟩ := flow_at hB hi
  refine ⟨h.grows.trans hg, by rw [defers_put, h.defers], by rw [size_put, h.size], fun t ht => ?_, fun t ht => ?_, by simpa using h.listedSize⟩
  · by_cases hd : o.dst = some t
    · rw [hd] at hp ⊢
      rw [eval_put_same (by rw [h.size]; exact hlt t hd)]
      exact hp
    · rw [eval_put_other hd]
      refine (h.facts t fun j q hj hq => ?_).grow hg
      have hne : i ≠ j := fun e => by
        subst e
        rw [hi] at hj
        injection hj with hj
        subst hj
        exact hd hq
      have := ht j q hj hq
      rwa [getD_set_ne true hne] at this
  · rw [eval_put_other (ht i o hi)]
    exact h.others t ht

theorem count_set : ∀ (l : List Bool) (i : Nat), l[i]? = some false → (l.set i true).count false + 1 = l.count false
  | [], i, h => by simp at h
  | b :: l, 0, h => by simp at h; subst h; simp
  | b :: l, i + 1, h => by
    have := count_set l i (by simpa using h)
    simp only [List.set_cons_succ, List.count_cons]
    omega

theorem any_of_inv {G : Fact} {a0 : Act} {w0 : World} {Q : Exit → Act → World → Prop} (hB : flowB ops a0.tmps.size = true) (hreq : Req P G w0 ops.toList (metaOf ops))
    (hend : ∀ a w, (∀ listed : Array Bool, (∀ j, j < ops.size → listed.getD j true = true) → Inv ops G a0 w0 listed a w → Q .normal a w) ) :
    ∀ (fuel : Nat) (listed : Array Bool) (a : Act) (w : World), listed.toList.count false ≤ fuel → Inv ops G a0 w0 listed a w → wpAny P .any ops Q fuel listed a w := by
  have fin : ∀ (listed : Array Bool) (a : Act) (w : World), Inv ops G a0 w0 listed a w → Region.ready .any ops listed = [] → ∀ j, j < ops.size → listed.getD j true = true := fun listed a w h hr => by
    intro j
    induction j using Nat.strongRecOn with
    | _ j ih =>
      intro hj
      cases hl : listed.getD j true with
      | true => rfl
      | false =>
        exfalso
        have hjo : ops[j]? = some ops[j] := Array.getElem?_eq_getElem hj
        have : j ∈ Region.ready .any ops listed := mem_ready.2 ⟨hl, ops[j], hjo, fun e he hb => by
          have hlt := (flow_at hB hjo).1 e he hb
          have h1 := ih e.on hlt (by omega)
          have hb : e.on < listed.size := by rw [h.listedSize]; omega
          simpa [hb] using h1⟩
        rw [hr] at this
        cases this
  intro fuel
  induction fuel with
  | zero =>
    intro listed a w hc h
    have h0 : ∀ j, j < ops.size → listed.getD j true = true := fun j hj => by
      cases hl : listed.getD j true with
      | true => rfl
      | false =>
        exfalso
        have hb : j < listed.size := by rw [h.listedSize]; exact hj
        have : (false : Bool) ∈ listed.toList := by
          have e : listed[j] = false := by simpa [hb] using hl
          rw [← e]
          exact Array.getElem_mem_toList hb
        have := List.count_pos_iff.2 this
        omega
    refine ⟨?_, hend a w listed h0 h⟩
    cases hr : Region.ready .any ops listed with
    | nil => rfl
    | cons i r =>
      exfalso
      have hm : i ∈ Region.ready .any ops listed := by rw [hr]; simp
      obtain ⟨hu, o, ho, -⟩ := mem_ready.1 hm
      rw [h0 i (Array.getElem?_eq_some_iff.1 ho).1] at hu
      cases hu
  | succ fuel ih =>
    intro listed a w hc h
    refine ⟨fun hr => hend a w listed (fin listed a w h hr) h, fun i hm => ?_⟩
    obtain ⟨hu, o, ho, hall⟩ := mem_ready.1 hm
    have hlt : i < listed.size := by rw [h.listedSize]; exact (Array.getElem?_eq_some_iff.1 ho).1
    have hcount : (listed.setIfInBounds i true).toList.count false ≤ fuel := by
      have e : listed.toList[i]? = some false := by
        have : listed[i] = false := by simpa [hlt] using hu
        simp [hlt, this]
      have := count_set listed.toList i e
      simp only [Array.toList_setIfInBounds]
      omega
    obtain ⟨hacyc, hguard, hdlt, hflow⟩ := flow_at hB ho
    obtain ⟨m, hm1, hm2⟩ := req_at ops.toList (metaOf ops) hreq i o (by simpa using ho)
    have hme : m = (o.looksAt ops, guardOf ops o) := by
      unfold metaOf at hm1
      rw [List.getElem?_map] at hm1
      have : ops.toList[i]? = some o := by simpa using ho
      rw [this] at hm1
      simpa using hm1.symm
    subst hme
    have hk : Knows G a w (o.looksAt ops) := knows_of _ fun t ht => (h.facts t fun j q hj hq => by
      obtain ⟨e, he, hb, rfl⟩ := (hflow j q t hj hq).1 ht
      have h1 := hall e he hb
      have hjl : e.on < listed.size := by rw [h.listedSize]; exact (Array.getElem?_eq_some_iff.1 hj).1
      simpa [hjl] using h1).now
    have hreq' := hm2 a w h.grows hk
    unfold wpOp
    simp only [ho]
    have go : ∀ v w', Grows w w' → Post G o.dst v w' → wpAny P .any ops Q fuel (listed.setIfInBounds i true) (a.put o.dst v) w' := fun v w' hg hp =>
      ih _ _ _ hcount (inv_put hB ho h hg hp)
    unfold OpReq guardOf at hreq'
    cases hgd : o.guard with
    | none =>
      rw [hgd] at hreq'
      have hw : Region.wanted o (yielded ops a.tmps) = true := by unfold Region.wanted; rw [hgd]
      rw [if_pos hw]
      exact .inl (wp_of_ok hreq' go)
    | some gb =>
      obtain ⟨g, b⟩ := gb
      obtain ⟨q, d, hq, hqd⟩ := hguard g b hgd
      rw [hgd] at hreq'
      have hbind : (ops[g]?).bind (·.dst) = some d := by rw [hq]; exact hqd
      simp only [hbind, Option.map_some] at hreq'
      rw [← eval_slot] at hreq'
      rcases hreq' with ⟨he, hok⟩ | ⟨he, hp⟩
      · have hw := wanted_of (ops := ops) hgd hbind he
        rw [if_pos (by rw [hw]; simp)]
        exact .inl (wp_of_ok hok go)
      · have hw := wanted_of (ops := ops) hgd hbind he
        rw [if_neg (by rw [hw]; cases b <;> simp)]
        exact go _ _ (Grows.refl w) hp

theorem act_ext {a b : Act} (h1 : a.tmps = b.tmps) (h2 : a.defers = b.defers) : a = b := by
  cases a; cases b
  simp at h1 h2
  rw [h1, h2]
/-- The frame with these slots laid anew. -/
def putAll (x : Tmp → Value) : List Tmp → Act → Act
  | [], a => a
  | d :: l, a => putAll x l (a.put (some d) (x d))
theorem putAll_size (x : Tmp → Value) : ∀ (l : List Tmp) (a : Act), (putAll x l a).tmps.size = a.tmps.size
  | [], _ => rfl
  | d :: l, a => by rw [putAll, putAll_size x l, size_put]
theorem putAll_defers (x : Tmp → Value) : ∀ (l : List Tmp) (a : Act), (putAll x l a).defers = a.defers
  | [], _ => rfl
  | d :: l, a => by rw [putAll, putAll_defers x l, defers_put]
theorem putAll_get (x : Tmp → Value) : ∀ (l : List Tmp) (a : Act) (t : Tmp), t < a.tmps.size → (putAll x l a).tmps[t]? = if t ∈ l then some (x t) else a.tmps[t]?
  | [], a, t, _ => by simp [putAll]
  | d :: l, a, t, ht => by
    rw [putAll, putAll_get x l _ t (by rw [size_put]; exact ht)]
    by_cases h : t ∈ l
    · simp [h]
    · by_cases hd : t = d
      · subst hd; simp [h, Act.put, ht]
      · simp [h, hd, Act.put, Array.getElem?_setIfInBounds_ne (Ne.symm hd)]

/-- **The law**: behind the region, whatever the order, of each operation's slot is known what was to be shown. -/
theorem wp_region_grow {id : Nat} {Q : Exit → Act → World → Prop} {a0 : Act} {w : World} {l : List Oper} (G : Fact) (dsts : List Tmp) (ms : List (List Tmp × Option (Tmp × Bool))) (size : Nat) (hm : P.follows .mixedOrders = true)
    (hB : (flowB l.toArray size && (metaOf l.toArray == ms) && (dstsOf l.toArray == dsts)) = true) (hsz : a0.tmps.size = size)
    (h0 : ∀ t W, t ∉ dsts → Grows w W → G t (a0.eval (.tmp t)) W) (hreq : Req P G w l ms)
    (hend : ∀ (x : Tmp → Value) (w' : World), Grows w w' → (∀ d ∈ dsts, Holds G d (x d) w') → Q .normal (putAll x dsts a0) w') : (Code.region id l.toArray true).wp P Q a0 w := by
  simp only [Bool.and_eq_true, beq_iff_eq] at hB
  obtain ⟨⟨hf, hme⟩, hde⟩ := hB
  subst hsz
  have hmem : ∀ t : Tmp, t ∈ dsts ↔ ∃ (j : Nat) (o : Oper), l.toArray[j]? = some o ∧ o.dst = some t := fun t => by
    rw [← hde]
    unfold dstsOf
    simp only [List.mem_filterMap]
    constructor
    · rintro ⟨o, ho, hd⟩
      obtain ⟨j, hj⟩ := List.mem_iff_getElem?.1 ho
      exact ⟨j, o, by simpa using hj, hd⟩
    · rintro ⟨j, o, hj, hd⟩
      exact ⟨o, List.mem_iff_getElem?.2 ⟨j, by simpa using hj⟩, hd⟩
  refine wp_region_any hm (any_of_inv (G := G) (a0 := a0) (w0 := w) hf (by rw [hme]; exact hreq) ?_ _ _ _ _ ?_ ?_)
  · intro a w' listed hall hinv
    have e : a = putAll (fun t => a.eval (.tmp t)) dsts a0 := by
      have hsz := hinv.size
      have hdf := hinv.defers
      have ht : a.tmps = (putAll (fun t => a.eval (.tmp t)) dsts a0).tmps := by
        apply Array.ext_getElem?
        intro t
        by_cases hlt : t < a0.tmps.size
        · rw [putAll_get _ _ _ _ hlt]
          have hat : a.tmps[t]? = some (a.eval (.tmp t)) := by
            have : t < a.tmps.size := by rw [hsz]; exact hlt
            simp [Act.eval, this]
          by_cases hd : t ∈ dsts
          · rw [if_pos hd, hat]
          · rw [if_neg hd, hat, hinv.others t (fun j o hj hq => hd ((hmem t).2 ⟨j, o, hj, hq⟩))]
            simp [Act.eval, hlt]
        · rw [Array.getElem?_eq_none (by rw [hsz]; omega), Array.getElem?_eq_none (by rw [putAll_size]; omega)]
      have hdd : a.defers = (putAll (fun t => a.eval (.tmp t)) dsts a0).defers := by rw [putAll_defers, hdf]
      exact act_ext ht hdd
    rw [e]
    refine hend _ _ hinv.grows fun d hd => ?_
    exact hinv.facts d fun j o hj _ => hall j (Array.getElem?_eq_some_iff.1 hj).1
  · simp
  · refine ⟨⟨rfl, rfl, rfl, Nat.le_refl _, fun _ _ => rfl⟩, rfl, rfl, fun t ht => ?_, fun _ _ => rfl, by simp⟩
    have hnd : t ∉ dsts := fun hd => by
      obtain ⟨j, o, hj, hq⟩ := (hmem t).1 hd
      have := ht j o hj hq
      have hlt := (Array.getElem?_eq_some_iff.1 hj).1
      simp at hlt
      simp [hlt] at this
    exact fun W hW => h0 t W hnd ⟨hW.os, hW.tape, hW.output, hW.size, hW.block⟩
end
end Go.Proofs.Ytgnghalcihoaaaa.Gw
