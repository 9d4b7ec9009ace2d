/- A region that draws its order and writes memory: its writers come one behind the other; whatever else there is comes ahead of them, between or behind them, as its edges let it. -/
import Derived.Test.YtgnghalcihoaaaaTail
namespace Go.Proofs.Ytgnghalcihoaaaa.Gw
open Go.RowKit

/-- May operation i be carried out when so many writers have been? -/
def mayB (ops : Array Oper) (wrs : List Nat) (i p : Nat) : Bool :=
  (List.range wrs.length).all fun k => match wrs[k]? with
    | none => true
    | some j => (!waitsB ops ops.size i j || decide (k < p)) && (!decide (k < p) || (!waitsB ops ops.size j i && j != i))
def phasesOf (ops : Array Oper) (wrs : List Nat) (i : Nat) : List Nat := (List.range (wrs.length + 1)).filter (mayB ops wrs i)
/-- What is laid down of an operation: the slots that it looks at, its guard, when it may come, whether it writes. -/
abbrev Row := List Tmp × Option (Tmp × Bool) × List Nat × Bool
def rowOf (ops : Array Oper) (wrs : List Nat) (i : Nat) : Row :=
  match ops[i]? with
  | none => ([], none, [], false)
  | some o => (o.looksAt ops, guardOf ops o, phasesOf ops wrs i, wrs.contains i)
def rowsOf (ops : Array Oper) (wrs : List Nat) : List Row := (List.range ops.size).map (rowOf ops wrs)
/-- Each writer has a phase of its own. -/
def ownB (ops : Array Oper) (wrs : List Nat) : Bool := (List.range wrs.length).all fun k => match wrs[k]? with
  | none => true
  | some i => (phasesOf ops wrs i == [k]) && decide (i < ops.size)

/-- Known from here on, as far as R leads. -/
def HoldsR (R : World → World → Prop) (G : Fact) (t : Tmp) (v : Value) (w : World) : Prop := ∀ W, R w W → G t v W
/-- What is asked of an operation that is carried out. -/
def OkP (P : Program) (o : Oper) (a : Act) (w : World) (p : Value → World → Prop) : Prop :=
  match (execOp a.eval o).run P w with
  | .ok (.value v) w' => p v w'
  | .ok .skip w' => p undef w'
  | .ok (.enter f args) w' => Calls P f args w' fun e w'' => ∃ v, e = .returned v ∧ p v w''
  | _ => False
/-- What holds behind an operation. -/
def PPost (R : World → World → Prop) (I : Nat → World → Prop) (G : Fact) (p : Nat) (dst : Option Tmp) (w : World) (v : Value) (w' : World) : Prop :=
  R w w' ∧ I p w' ∧ match dst with
    | some d => HoldsR R G d v w'
    | none => True
def POpReq (P : Program) (R : World → World → Prop) (I : Nat → World → Prop) (G : Fact) (o : Oper) (g : Option (Tmp × Bool)) (p : Nat) (a : Act) (w : World) : Prop :=
  match g with
  | none => OkP P o a w (PPost R I G p o.dst w)
  | some (d, b) => (a.tmps[d]?.getD undef = .bool b ∧ OkP P o a w (PPost R I G p o.dst w)) ∨ (a.tmps[d]?.getD undef = .bool (!b) ∧ PPost R I G p o.dst w undef w)
def AllIn : List Nat → (Nat → Prop) → Prop
  | [], _ => True
  | p :: l, f => f p ∧ AllIn l f
theorem AllIn.at {f : Nat → Prop} : ∀ {l : List Nat} {p : Nat}, AllIn l f → p ∈ l → f p
  | _ :: _, p, h, hm => by
    rcases List.mem_cons.1 hm with rfl | hm
    · exact h.1
    · exact h.2.at hm
def PReq (P : Program) (R : World → World → Prop) (I : Nat → World → Prop) (G : Fact) (w0 : World) : List Oper → List Row → Prop
  | [], [] => True
  | o :: os, (ts, g, ph, wr) :: ms => AllIn ph (fun p => ∀ a w, R w0 w → I p w → Knows G a w ts → POpReq P R I G o g (bif wr then p + 1 else p) a w) ∧ PReq P R I G w0 os ms
  | _, _ => False

section
variable {P : Program} {ops : Array Oper} {wrs : List Nat} {R : World → World → Prop} {I : Nat → World → Prop} {G : Fact}
theorem HoldsR.reach (hRt : ∀ a b c, R a b → R b c → R a c) {t : Tmp} {v : Value} {w w' : World} (h : HoldsR R G t v w) (hg : R w w') : HoldsR R G t v w' := fun W hW => h W (hRt _ _ _ hg hW)
theorem preq_at {w0 : World} : ∀ (os : List Oper) (ms : List Row), PReq P R I G w0 os ms → ∀ (i : Nat) (o : Oper), os[i]? = some o → ∃ m : Row, ms[i]? = some m ∧ ∀ p ∈ m.2.2.1, ∀ a w, R w0 w → I p w → Knows G a w m.1 → POpReq P R I G o m.2.1 (bif m.2.2.2 then p + 1 else p) a w
  | [], _, _, i, o, h => by simp at h
  | o :: os, [], hr, _, _, _ => hr.elim
  | o :: os, (ts, g, ph, wr) :: ms, hr, 0, _, h => ⟨_, rfl, by
      simp at h
      subst h
      intro p hp
      exact hr.1.at hp⟩
  | o :: os, (ts, g, ph, wr) :: ms, hr, i + 1, o', h => by
    obtain ⟨m', h1, h2⟩ := preq_at os ms hr.2 i o' (by simpa using h)
    exact ⟨m', by simpa using h1, h2⟩

/-- What holds while the operations come up. -/
structure InvP (ops : Array Oper) (wrs : List Nat) (R : World → World → Prop) (I : Nat → World → Prop) (G : Fact) (a0 : Act) (w0 : World) (p : Nat) (listed : Array Bool) (a : Act) (w : World) : Prop where
  reach : R w0 w
  inv : I p w
  defers : a.defers = a0.defers
  size : a.tmps.size = a0.tmps.size
  facts : ∀ t, (∀ (j : Nat) (o : Oper), ops[j]? = some o → o.dst = some t → listed.getD j false = true) → HoldsR R G t (a.eval (.tmp t)) w
  others : ∀ t, (∀ (j : Nat) (o : Oper), ops[j]? = some o → o.dst ≠ some t) → a.eval (.tmp t) = a0.eval (.tmp t)
  listedSize : listed.size = ops.size
  closed : Closed ops listed
  here : ∀ (k i : Nat), wrs[k]? = some i → (listed.getD i false = true ↔ k < p)

theorem own_at_wr (h : ownB ops wrs = true) {k i : Nat} (hk : wrs[k]? = some i) : phasesOf ops wrs i = [k] ∧ i < ops.size := by
  have hlt := (List.getElem?_eq_some_iff.1 hk).1
  have h1 := List.all_eq_true.1 h k (List.mem_range.2 hlt)
  simp only [hk, Bool.and_eq_true, beq_iff_eq, decide_eq_true_eq] at h1
  exact h1
theorem may_of {a0 : Act} {w0 : World} {p : Nat} {listed : Array Bool} {a : Act} {w : World} {i : Nat} {o : Oper} (h : InvP ops wrs R I G a0 w0 p listed a w) (hp : p ≤ wrs.length) (hi : ops[i]? = some o) (hu : listed.getD i false = false)
    (hall : ∀ e ∈ o.after, Region.binds .any e = true → listed.getD e.on false = true) (hO : ownB ops wrs = true) : p ∈ phasesOf ops wrs i := by
  unfold phasesOf
  rw [List.mem_filter]
  refine ⟨List.mem_range.2 (by omega), ?_⟩
  unfold mayB
  rw [List.all_eq_true]
  intro k hk
  have hk := List.mem_range.1 hk
  have hwk : wrs[k]? = some wrs[k] := List.getElem?_eq_getElem hk
  rw [hwk]
  simp only [Bool.and_eq_true, Bool.or_eq_true, Bool.not_eq_true', decide_eq_true_eq, decide_eq_false_iff_not, bne_iff_ne, ne_eq]
  have hw := h.here k _ hwk
  refine ⟨?_, ?_⟩
  · cases hb : waitsB ops ops.size i wrs[k] with
    | false => exact .inl rfl
    | true => exact .inr (hw.1 (waits_listed h.closed _ _ _ o hi hall hb))
  · by_cases hkp : k < p
    · right
      have hl := hw.2 hkp
      refine ⟨?_, fun e => ?_⟩
      · cases hb : waitsB ops ops.size wrs[k] i with
        | false => rfl
        | true =>
          exfalso
          have hlt := (own_at_wr hO hwk).2
          have hok : ops[wrs[k]]? = some ops[wrs[k]] := Array.getElem?_eq_getElem hlt
          have := waits_listed h.closed _ _ _ _ hok (h.closed _ _ hok hl) hb
          rw [hu] at this
          cases this
      · rw [e, hu] at hl
        cases hl
    · exact .inl hkp

theorem wp_of_okP {o : Oper} {a : Act} {w : World} {K : Act → World → Prop} {Q : Exit → Act → World → Prop} {p : Value → World → Prop} (h : OkP P o a w p) (hK : ∀ v w', p v w' → K (a.put o.dst v) w') : o.wp P a w K Q := by
  unfold OkP at h
  unfold Oper.wp
  generalize (execOp a.eval o).run P w = r at *
  cases r with
  | ok nx w' =>
    cases nx with
    | value v => exact hK _ _ h
    | skip => exact hK _ _ h
    | enter f args => exact h.mono fun e w'' ⟨v, he, hp⟩ => by subst he; exact hK _ _ hp
    | _ => exact h.elim
  | halt x w' => exact h.elim

theorem invP_put (hRt : ∀ a b c, R a b → R b c → R a c) {a0 : Act} {w0 : World} {p : Nat} {listed : Array Bool} {a : Act} {w w' : World} {i : Nat} {o : Oper} {v : Value} (hB : flowB ops a0.tmps.size = true) (hO : ownB ops wrs = true) (hi : ops[i]? = some o)
    (hph : p ∈ phasesOf ops wrs i)
    (hall : ∀ e ∈ o.after, Region.binds .any e = true → listed.getD e.on false = true)
    (h : InvP ops wrs R I G a0 w0 p listed a w) (hp : PPost R I G (bif wrs.contains i then p + 1 else p) o.dst w v w') : InvP ops wrs R I G a0 w0 (bif wrs.contains i then p + 1 else p) (listed.setIfInBounds i true) (a.put o.dst v) w' := by
  obtain ⟨hac, -, hlt, hone⟩ := flow_at hB hi
  obtain ⟨hr, hI, hd⟩ := hp
  have hil : i < listed.size := by rw [h.listedSize]; exact (Array.getElem?_eq_some_iff.1 hi).1
  refine ⟨hRt _ _ _ h.reach hr, hI, by rw [defers_put, h.defers], by rw [size_put, h.size], fun t ht => ?_, fun t ht => ?_, by simpa using h.listedSize, fun k q hk hlk e he hb => ?_, fun k j hk => ?_⟩
  · by_cases hdt : o.dst = some t
    · rw [hdt] at hd ⊢
      rw [eval_put_same (by rw [h.size]; exact hlt t hdt)]
      exact hd
    · rw [eval_put_other hdt]
      refine (h.facts t fun j q hj hq => ?_).reach hRt hr
      have hne : i ≠ j := fun e => by
        subst e
        rw [hi] at hj
        injection hj with hj
        subst hj
        exact hdt hq
      have := ht j q hj hq
      rwa [getD_set_ne false hne] at this
  · rw [eval_put_other (ht i o hi)]
    exact h.others t ht
  · have hold : listed.getD e.on false = true → (listed.setIfInBounds i true).getD e.on false = true := getD_set_true
    by_cases hki : i = k
    · subst hki
      rw [hi] at hk
      injection hk with hk
      subst hk
      exact hold (hall e he hb)
    · rw [getD_set_ne false hki] at hlk
      exact hold (h.closed k q hk hlk e he hb)
  · have hw := h.here k j hk
    by_cases hij : i = j
    · subst hij
      have hc : wrs.contains i = true := by
        rw [List.contains_iff_mem]
        exact List.mem_of_getElem? hk
      rw [hc]
      have := (own_at_wr hO hk).1
      rw [this] at hph
      have hpk : p = k := by simpa using hph
      subst hpk
      simp [hil]
    · rw [getD_set_ne false hij, hw]
      cases hc : wrs.contains i with
      | false => simp
      | true =>
        rw [List.contains_iff_mem] at hc
        obtain ⟨k', hk'⟩ := List.mem_iff_getElem?.1 hc
        have := (own_at_wr hO hk').1
        rw [this] at hph
        have hpk : p = k' := by simpa using hph
        subst hpk
        have hne : k ≠ p := fun e => by
          subst e
          rw [hk] at hk'
          injection hk' with hk'
          exact hij hk'.symm
        simp only [cond_true]
        omega

theorem any_of_invP (hRr : ∀ w, R w w) (hRt : ∀ a b c, R a b → R b c → R a c) {a0 : Act} {w0 : World} {Q : Exit → Act → World → Prop} (hB : flowB ops a0.tmps.size = true) (hO : ownB ops wrs = true) (hreq : PReq P R I G w0 ops.toList (rowsOf ops wrs))
    (hend : ∀ a w, (∀ listed : Array Bool, (∀ j, j < ops.size → listed.getD j false = true) → InvP ops wrs R I G a0 w0 wrs.length listed a w → Q .normal a w)) :
    ∀ (fuel p : Nat) (listed : Array Bool) (a : Act) (w : World), p ≤ wrs.length → listed.toList.count false ≤ fuel → InvP ops wrs R I G a0 w0 p listed a w → wpAny P .any ops Q fuel listed a w := by
  have fin : ∀ (p : Nat) (listed : Array Bool) (a : Act) (w : World), InvP ops wrs R I G a0 w0 p listed a w → Region.ready .any ops listed = [] → ∀ j, j < ops.size → listed.getD j false = true := fun p listed a w h hr => by
    intro j
    induction j using Nat.strongRecOn with
    | _ j ih =>
      intro hj
      cases hl : listed.getD j false with
      | true => rfl
      | false =>
        exfalso
        have hjo : ops[j]? = some ops[j] := Array.getElem?_eq_getElem hj
        have : j ∈ Region.ready .any ops listed := mem_ready.2 ⟨by rw [listed_two (by rw [h.listedSize]; exact hj)]; exact hl, ops[j], hjo, fun e he hb => by
          have hlt := (flow_at hB hjo).1 e he hb
          exact ih e.on hlt (by omega)⟩
        rw [hr] at this
        cases this
  have done : ∀ (p : Nat) (listed : Array Bool) (a : Act) (w : World), p ≤ wrs.length → InvP ops wrs R I G a0 w0 p listed a w → (∀ j, j < ops.size → listed.getD j false = true) → Q .normal a w := fun p listed a w hp h hall => by
    have e : p = wrs.length := by
      rcases Nat.lt_or_ge p wrs.length with hlt | hge
      · exfalso
        have hk : wrs[p]? = some wrs[p] := List.getElem?_eq_getElem hlt
        have := (h.here p _ hk).1 (hall _ (own_at_wr hO hk).2)
        omega
      · omega
    subst e
    exact hend a w listed hall h
  intro fuel
  induction fuel with
  | zero =>
    intro p listed a w hp hc h
    have h0 : ∀ j, j < ops.size → listed.getD j false = true := fun j hj => by
      cases hl : listed.getD j false with
      | true => rfl
      | false =>
        exfalso
        have hb : j < listed.size := by rw [h.listedSize]; exact hj
        have : (false : Bool) ∈ listed.toList := by
          have e : listed[j] = false := by simpa [hb] using hl
          rw [← e]
          exact Array.getElem_mem_toList hb
        have := List.count_pos_iff.2 this
        omega
    refine ⟨?_, done p listed a w hp h h0⟩
    cases hr : Region.ready .any ops listed with
    | nil => rfl
    | cons i r =>
      exfalso
      obtain ⟨hu, o, ho, -⟩ := ready_at h.listedSize (show i ∈ Region.ready .any ops listed by rw [hr]; simp)
      rw [h0 i (Array.getElem?_eq_some_iff.1 ho).1] at hu
      cases hu
  | succ fuel ih =>
    intro p listed a w hp hc h
    refine ⟨fun hr => done p listed a w hp h (fin p listed a w h hr), fun i hm => ?_⟩
    obtain ⟨hu, o, ho, hall⟩ := ready_at h.listedSize hm
    have hil : i < ops.size := (Array.getElem?_eq_some_iff.1 ho).1
    have hlt : i < listed.size := by rw [h.listedSize]; exact hil
    have hcount : (listed.setIfInBounds i true).toList.count false ≤ fuel := by
      have e : listed.toList[i]? = some false := by
        have : listed[i] = false := by simpa [hlt] using hu
        simp [hlt, this]
      have := count_set listed.toList i e
      simp only [Array.toList_setIfInBounds]
      omega
    obtain ⟨hacyc, hguard, hdlt, hflow⟩ := flow_at hB ho
    have hph := may_of h hp ho hu hall hO
    obtain ⟨m, hm1, hm2⟩ := preq_at ops.toList (rowsOf ops wrs) hreq i o (by simpa using ho)
    have hme : m = (o.looksAt ops, guardOf ops o, phasesOf ops wrs i, wrs.contains i) := by
      unfold rowsOf at hm1
      rw [List.getElem?_map, List.getElem?_range hil] at hm1
      simp only [Option.map_some] at hm1
      injection hm1 with hm1
      rw [← hm1]
      unfold rowOf
      rw [ho]
    subst hme
    have hk : Knows G a w (o.looksAt ops) := knows_of _ fun t ht => (h.facts t fun j q hj hq => by
      obtain ⟨e, he, hb, rfl⟩ := (hflow j q t hj hq).1 ht
      exact hall e he hb) w (hRr w)
    have hreq' := hm2 p hph a w h.reach h.inv hk
    have hle : (bif wrs.contains i then p + 1 else p) ≤ wrs.length := by
      cases hc : wrs.contains i with
      | false => exact hp
      | true =>
        rw [List.contains_iff_mem] at hc
        obtain ⟨k', hk'⟩ := List.mem_iff_getElem?.1 hc
        have h1 := (own_at_wr hO hk').1
        rw [h1] at hph
        have hpk : p = k' := by simpa using hph
        subst hpk
        have := (List.getElem?_eq_some_iff.1 hk').1
        simp only [cond_true]
        omega
    unfold wpOp
    simp only [ho]
    have go : ∀ v w', PPost R I G (bif wrs.contains i then p + 1 else p) o.dst w v w' → wpAny P .any ops Q fuel (listed.setIfInBounds i true) (a.put o.dst v) w' := fun v w' hq =>
      ih _ _ _ _ hle hcount (invP_put hRt hB hO ho hph hall h hq)
    unfold POpReq guardOf at hreq'
    cases hgd : o.guard with
    | none =>
      rw [hgd] at hreq'
      have hw : Region.wanted o (yielded ops a.tmps) = true := by unfold Region.wanted; rw [hgd]
      rw [if_pos hw]
      exact .inl (wp_of_okP hreq' go)
    | some gb =>
      obtain ⟨g, b⟩ := gb
      obtain ⟨q, d, hq, hqd⟩ := hguard g b hgd
      rw [hgd] at hreq'
      have hbind : (ops[g]?).bind (·.dst) = some d := by rw [hq]; exact hqd
      simp only [hbind, Option.map_some] at hreq'
      rw [← eval_slot] at hreq'
      rcases hreq' with ⟨he, hok⟩ | ⟨he, hp'⟩
      · have hw := wanted_of (ops := ops) hgd hbind he
        rw [if_pos (by rw [hw]; simp)]
        exact .inl (wp_of_okP hok go)
      · have hw := wanted_of (ops := ops) hgd hbind he
        rw [if_neg (by rw [hw]; cases b <;> simp)]
        exact go _ _ hp'

/-- **The law**: behind the region, whatever the order, all writers have been, and of each operation's slot is known what was to be shown. -/
theorem wp_region_phase {id : Nat} {Q : Exit → Act → World → Prop} {a0 : Act} {w : World} {l : List Oper} (R : World → World → Prop) (hRr : ∀ w, R w w) (hRt : ∀ a b c, R a b → R b c → R a c) (I : Nat → World → Prop) (G : Fact) (wrs : List Nat) (dsts : List Tmp) (ms : List Row) (size m : Nat) (hm : P.follows .mixedOrders = true)
    (hB : (flowB l.toArray size && ownB l.toArray wrs && (rowsOf l.toArray wrs == ms) && (dstsOf l.toArray == dsts) && (wrs.length == m)) = true) (hsz : a0.tmps.size = size)
    (hRd : R w w.drew) (hI0 : I 0 w.drew) (h0 : ∀ t W, t ∉ dsts → R w W → G t (a0.eval (.tmp t)) W) (hreq : PReq P R I G w l ms)
    (hend : ∀ (x : Tmp → Value) (w' : World), R w w' → I m w' → (∀ d ∈ dsts, HoldsR R G d (x d) w') → Q .normal (putAll x dsts a0) w') : (Code.region id l.toArray true).wp P Q a0 w := by
  simp only [Bool.and_eq_true, beq_iff_eq] at hB
  obtain ⟨⟨⟨⟨hf, hO⟩, hme⟩, hde⟩, hwm⟩ := hB
  subst hsz hwm
  have hmem : ∀ t : Tmp, t ∈ dsts ↔ ∃ (j : Nat) (o : Oper), l.toArray[j]? = some o ∧ o.dst = some t := fun t => by
    rw [← hde]
    unfold dstsOf
    simp only [List.mem_filterMap]
    constructor
    · rintro ⟨o, ho, hd⟩
      obtain ⟨j, hj⟩ := List.mem_iff_getElem?.1 ho
      exact ⟨j, o, by simpa using hj, hd⟩
    · rintro ⟨j, o, hj, hd⟩
      exact ⟨o, List.mem_iff_getElem?.2 ⟨j, by simpa using hj⟩, hd⟩
  refine wp_region_any hm (any_of_invP (wrs := wrs) (I := I) (G := G) (a0 := a0) (w0 := w) hRr hRt hf hO (by rw [hme]; simpa using hreq) ?_ _ 0 _ _ _ (Nat.zero_le _) ?_ ?_)
  · intro a w' listed hall hinv
    have e : a = putAll (fun t => a.eval (.tmp t)) dsts a0 := by
      have hsz := hinv.size
      have hdf := hinv.defers
      have ht : a.tmps = (putAll (fun t => a.eval (.tmp t)) dsts a0).tmps := by
        apply Array.ext_getElem?
        intro t
        by_cases hlt : t < a0.tmps.size
        · rw [putAll_get _ _ _ _ hlt]
          have hat : a.tmps[t]? = some (a.eval (.tmp t)) := by
            have : t < a.tmps.size := by rw [hsz]; exact hlt
            simp [Act.eval, this]
          by_cases hd : t ∈ dsts
          · rw [if_pos hd, hat]
          · rw [if_neg hd, hat, hinv.others t (fun j o hj hq => hd ((hmem t).2 ⟨j, o, hj, hq⟩))]
            simp [Act.eval, hlt]
        · rw [Array.getElem?_eq_none (by rw [hsz]; omega), Array.getElem?_eq_none (by rw [putAll_size]; omega)]
      have hdd : a.defers = (putAll (fun t => a.eval (.tmp t)) dsts a0).defers := by rw [putAll_defers, hdf]
      exact act_ext ht hdd
    rw [e]
    refine hend _ _ hinv.reach hinv.inv fun d hd => ?_
    exact hinv.facts d fun j o hj _ => hall j (Array.getElem?_eq_some_iff.1 hj).1
  · simp
  · refine ⟨hRd, hI0, rfl, rfl, fun t ht => ?_, fun _ _ => rfl, by simp, fun k o hk hl => ?_, fun k i hk => ?_⟩
    · have hnd : t ∉ dsts := fun hd => by
        obtain ⟨j, o, hj, hq⟩ := (hmem t).1 hd
        have := ht j o hj hq
        have hlt := (Array.getElem?_eq_some_iff.1 hj).1
        simp at hlt
        simp [hlt] at this
      exact fun W hW => h0 t W hnd (hRt _ _ _ hRd hW)
    · have hlt := (Array.getElem?_eq_some_iff.1 hk).1
      simp at hlt
      simp [hlt] at hl
    · by_cases hlt : i < l.length
      · simp [hlt]
      · simp [hlt]
end
end Go.Proofs.Ytgnghalcihoaaaa.Gw
