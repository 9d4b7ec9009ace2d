/- A region that draws its order, in a round of an iterator's loop, where one of its operations may call yield. -/
import Derived.Test.YtbedepnmgnlijaaDoorPhaseI
namespace Go.Proofs.YtbedepnmgnlijaaDoor.Gw
open Go.RowKit

/-- What is asked of an operation that is carried out, in a round. -/
def OkO (l n : Nat) (P : Program) (o : Oper) (a : Act) (w : World) (p : Value → World → Prop) : Prop :=
  ∀ (K : Act → World → Prop) (Q : Exit → Act → World → Prop), (∀ v w', p v w' → K (a.put o.dst v) w') → o.wpIn (Fence.wide.inRound l) n P a w K Q
theorem OkO.plain {l n : Nat} {P : Program} {o : Oper} {a : Act} {w : World} {p : Value → World → Prop} (hd : ∀ c, o.op ≠ .defer c) (h : OkP P o a w p) : OkO l n P o a w p := fun _ _ hK => wpIn_of_okP hd h hK
/-- yield is called. -/
theorem OkO.round {l n : Nat} {P : Program} {o : Oper} {a : Act} {w : World} {p : Value → World → Prop} (hd : ∀ c, o.op ≠ .defer c) {l' m : Nat} {f : FuncId} {tmps : Array Value} {assign body : Code} (he : (execOp a.eval o).run P w = .ok (.round l' f tmps assign body) w)
    (h : RoundIn Fence.wide m P l' f tmps assign body w fun e w' => ∃ v, e = .returned v ∧ p v w') : OkO l n P o a w p := fun K Q hK => by
  unfold Oper.wpIn
  rw [Fence.inRound_round, Oper.semAt_eq _ _ _ hd, he]
  refine ⟨fun _ _ => trivial, ?_⟩
  rw [Oper.uponIn_round]
  refine ⟨fun e => by simp [Fence.wide, Fence.inRound] at e, ?_⟩
  refine RoundIn.mono ⟨trivial, fun c cs _ => h.2 c cs (fun d e => by simp [Fence.wide] at e)⟩ ?_
  rintro e w'' ⟨v, rfl, hp⟩
  exact hK _ _ hp
def POpReqO (l n : Nat) (P : Program) (R : World → World → Prop) (I : Nat → World → Prop) (G : Fact) (o : Oper) (g : Option (Tmp × Bool)) (p : Nat) (a : Act) (w : World) : Prop :=
  match g with
  | none => OkO l n P o a w (PPost R I G p o.dst w)
  | some (d, b) => (a.tmps[d]?.getD undef = .bool b ∧ OkO l n P o a w (PPost R I G p o.dst w)) ∨ (a.tmps[d]?.getD undef = .bool (!b) ∧ PPost R I G p o.dst w undef w)
def PReqO (l n : Nat) (P : Program) (R : World → World → Prop) (I : Nat → World → Prop) (G : Fact) (w0 : World) : List Oper → List Row → Prop
  | [], [] => True
  | o :: os, (ts, g, ph, wr) :: ms => AllIn ph (fun p => ∀ a w, R w0 w → I p w → Knows G a w ts → POpReqO l n P R I G o g (bif wr then p + 1 else p) a w) ∧ PReqO l n P R I G w0 os ms
  | _, _ => False
section
variable {P : Program} {ops : Array Oper} {wrs : List Nat} {R : World → World → Prop} {I : Nat → World → Prop} {G : Fact}
theorem preqO_at {l n : Nat} {w0 : World} : ∀ (os : List Oper) (ms : List Row), PReqO l n P R I G w0 os ms → ∀ (i : Nat) (o : Oper), os[i]? = some o → ∃ m : Row, ms[i]? = some m ∧ ∀ p ∈ m.2.2.1, ∀ a w, R w0 w → I p w → Knows G a w m.1 → POpReqO l n P R I G o m.2.1 (bif m.2.2.2 then p + 1 else p) a w
  | [], _, _, i, o, h => by simp at h
  | o :: os, [], hr, _, _, _ => hr.elim
  | o :: os, (ts, g, ph, wr) :: ms, hr, 0, _, h => ⟨_, rfl, by
      simp at h
      subst h
      intro p hp
      exact hr.1.at hp⟩
  | o :: os, (ts, g, ph, wr) :: ms, hr, i + 1, o', h => by
    obtain ⟨m', h1, h2⟩ := preqO_at os ms hr.2 i o' (by simpa using h)
    exact ⟨m', by simpa using h1, h2⟩
theorem any_of_invP_inO {n : Nat} {l : Nat} (hRr : ∀ w, R w w) (hRt : ∀ a b c, R a b → R b c → R a c) {a0 : Act} {w0 : World} {Q : Exit → Act → World → Prop} (hnd : noDefer ops = true) (hB : flowB ops a0.tmps.size = true) (hO : ownB ops wrs = true) (hreq : PReqO l n P R I G w0 ops.toList (rowsOf ops wrs))
    (hend : ∀ a w, (∀ listed : Array Bool, (∀ j, j < ops.size → listed.getD j false = true) → InvP ops wrs R I G a0 w0 wrs.length listed a w → Q .normal a w)) :
    ∀ (fuel p : Nat) (listed : Array Bool) (a : Act) (w : World), p ≤ wrs.length → listed.toList.count false ≤ fuel → InvP ops wrs R I G a0 w0 p listed a w → wpAnyIn (Fence.wide.inRound l) n P .any ops Q fuel listed a w := by
  have fin : ∀ (p : Nat) (listed : Array Bool) (a : Act) (w : World), InvP ops wrs R I G a0 w0 p listed a w → Region.ready .any ops listed = [] → ∀ j, j < ops.size → listed.getD j false = true := fun p listed a w h hr => by
    intro j
    induction j using Nat.strongRecOn with
    | _ j ih =>
      intro hj
      cases hl : listed.getD j false with
      | true => rfl
      | false =>
        exfalso
        have hjo : ops[j]? = some ops[j] := Array.getElem?_eq_getElem hj
        have : j ∈ Region.ready .any ops listed := mem_ready.2 ⟨by rw [listed_two (by rw [h.listedSize]; exact hj)]; exact hl, ops[j], hjo, fun e he hb => by
          have hlt := (flow_at hB hjo).1 e he hb
          exact ih e.on hlt (by omega)⟩
        rw [hr] at this
        cases this
  have done : ∀ (p : Nat) (listed : Array Bool) (a : Act) (w : World), p ≤ wrs.length → InvP ops wrs R I G a0 w0 p listed a w → (∀ j, j < ops.size → listed.getD j false = true) → Q .normal a w := fun p listed a w hp h hall => by
    have e : p = wrs.length := by
      rcases Nat.lt_or_ge p wrs.length with hlt | hge
      · exfalso
        have hk : wrs[p]? = some wrs[p] := List.getElem?_eq_getElem hlt
        have := (h.here p _ hk).1 (hall _ (own_at_wr hO hk).2)
        omega
      · omega
    subst e
    exact hend a w listed hall h
  intro fuel
  induction fuel with
  | zero =>
    intro p listed a w hp hc h
    have h0 : ∀ j, j < ops.size → listed.getD j false = true := fun j hj => by
      cases hl : listed.getD j false with
      | true => rfl
      | false =>
        exfalso
        have hb : j < listed.size := by rw [h.listedSize]; exact hj
        have : (false : Bool) ∈ listed.toList := by
          have e : listed[j] = false := by simpa [hb] using hl
          rw [← e]
          exact Array.getElem_mem_toList hb
        have := List.count_pos_iff.2 this
        omega
    refine ⟨?_, done p listed a w hp h h0⟩
    cases hr : Region.ready .any ops listed with
    | nil => rfl
    | cons i r =>
      exfalso
      obtain ⟨hu, o, ho, -⟩ := ready_at h.listedSize (show i ∈ Region.ready .any ops listed by rw [hr]; simp)
      rw [h0 i (Array.getElem?_eq_some_iff.1 ho).1] at hu
      cases hu
  | succ fuel ih =>
    intro p listed a w hp hc h
    refine ⟨fun hr => done p listed a w hp h (fin p listed a w h hr), fun i hm => ?_⟩
    obtain ⟨hu, o, ho, hall⟩ := ready_at h.listedSize hm
    have hil : i < ops.size := (Array.getElem?_eq_some_iff.1 ho).1
    have hlt : i < listed.size := by rw [h.listedSize]; exact hil
    have hcount : (listed.setIfInBounds i true).toList.count false ≤ fuel := by
      have e : listed.toList[i]? = some false := by
        have : listed[i] = false := by simpa [hlt] using hu
        simp [hlt, this]
      have := count_set listed.toList i e
      simp only [Array.toList_setIfInBounds]
      omega
    obtain ⟨hacyc, hguard, hdlt, hflow⟩ := flow_at hB ho
    have hph := may_of h hp ho hu hall hO
    obtain ⟨m, hm1, hm2⟩ := preqO_at ops.toList (rowsOf ops wrs) hreq i o (by simpa using ho)
    have hme : m = (o.looksAt ops, guardOf ops o, phasesOf ops wrs i, wrs.contains i) := by
      unfold rowsOf at hm1
      rw [List.getElem?_map, List.getElem?_range hil] at hm1
      simp only [Option.map_some] at hm1
      injection hm1 with hm1
      rw [← hm1]
      unfold rowOf
      rw [ho]
    subst hme
    have hk : Knows G a w (o.looksAt ops) := knows_of _ fun t ht => (h.facts t fun j q hj hq => by
      obtain ⟨e, he, hb, rfl⟩ := (hflow j q t hj hq).1 ht
      exact hall e he hb) w (hRr w)
    have hreq' := hm2 p hph a w h.reach h.inv hk
    have hle : (bif wrs.contains i then p + 1 else p) ≤ wrs.length := by
      cases hc : wrs.contains i with
      | false => exact hp
      | true =>
        rw [List.contains_iff_mem] at hc
        obtain ⟨k', hk'⟩ := List.mem_iff_getElem?.1 hc
        have h1 := (own_at_wr hO hk').1
        rw [h1] at hph
        have hpk : p = k' := by simpa using hph
        subst hpk
        have := (List.getElem?_eq_some_iff.1 hk').1
        simp only [cond_true]
        omega
    unfold wpOpIn
    simp only [ho]
    have go : ∀ v w', PPost R I G (bif wrs.contains i then p + 1 else p) o.dst w v w' → wpAnyIn (Fence.wide.inRound l) n P .any ops Q fuel (listed.setIfInBounds i true) (a.put o.dst v) w' := fun v w' hq =>
      ih _ _ _ _ hle hcount (invP_put hRt hB hO ho hph hall h hq)
    unfold POpReqO guardOf at hreq'
    cases hgd : o.guard with
    | none =>
      rw [hgd] at hreq'
      have hw : Region.wanted o (yielded ops a.tmps) = true := by unfold Region.wanted; rw [hgd]
      rw [if_pos hw]
      exact hreq' _ _ go
    | some gb =>
      obtain ⟨g, b⟩ := gb
      obtain ⟨q, d, hq, hqd⟩ := hguard g b hgd
      rw [hgd] at hreq'
      have hbind : (ops[g]?).bind (·.dst) = some d := by rw [hq]; exact hqd
      simp only [hbind, Option.map_some] at hreq'
      rw [← eval_slot] at hreq'
      rcases hreq' with ⟨he, hok⟩ | ⟨he, hp'⟩
      · have hw := wanted_of (ops := ops) hgd hbind he
        rw [if_pos (by rw [hw]; simp)]
        exact hok _ _ go
      · have hw := wanted_of (ops := ops) hgd hbind he
        rw [if_neg (by rw [hw]; cases b <;> simp)]
        exact ⟨fun _ _ => trivial, go _ _ hp'⟩


theorem wpIn_region_phaseO {n l0 : Nat} {id : Nat} {Q : Exit → Act → World → Prop} {a0 : Act} {w : World} {l : List Oper} (R : World → World → Prop) (hRr : ∀ w, R w w) (hRt : ∀ a b c, R a b → R b c → R a c) (I : Nat → World → Prop) (G : Fact) (wrs : List Nat) (dsts : List Tmp) (ms : List Row) (size m : Nat) (hm : P.follows .mixedOrders = true)
    (hB : (noDefer l.toArray && flowB l.toArray size && ownB l.toArray wrs && (rowsOf l.toArray wrs == ms) && (dstsOf l.toArray == dsts) && (wrs.length == m)) = true) (hsz : a0.tmps.size = size)
    (hRd : R w w.drew) (hI0 : I 0 w.drew) (h0 : ∀ t W, t ∉ dsts → R w W → G t (a0.eval (.tmp t)) W) (hreq : PReqO l0 n P R I G w l ms)
    (hend : ∀ (x : Tmp → Value) (w' : World), R w w' → I m w' → (∀ d ∈ dsts, HoldsR R G d (x d) w') → Q .normal (putAll x dsts a0) w') : (Code.region id l.toArray true).wpIn (Fence.wide.inRound l0) n P Q a0 w := by
  simp only [Bool.and_eq_true, beq_iff_eq] at hB
  obtain ⟨⟨⟨⟨⟨hnd, hf⟩, hO⟩, hme⟩, hde⟩, hwm⟩ := hB
  subst hsz hwm
  have hmem : ∀ t : Tmp, t ∈ dsts ↔ ∃ (j : Nat) (o : Oper), l.toArray[j]? = some o ∧ o.dst = some t := fun t => by
    rw [← hde]
    unfold dstsOf
    simp only [List.mem_filterMap]
    constructor
    · rintro ⟨o, ho, hd⟩
      obtain ⟨j, hj⟩ := List.mem_iff_getElem?.1 ho
      exact ⟨j, o, by simpa using hj, hd⟩
    · rintro ⟨j, o, hj, hd⟩
      exact ⟨o, List.mem_iff_getElem?.2 ⟨j, by simpa using hj⟩, hd⟩
  refine wpIn_region_any hm (any_of_invP_inO (wrs := wrs) (I := I) (G := G) (a0 := a0) (w0 := w) hRr hRt hnd hf hO (by rw [hme]; simpa using hreq) ?_ _ 0 _ _ _ (Nat.zero_le _) ?_ ?_)
  · intro a w' listed hall hinv
    have e : a = putAll (fun t => a.eval (.tmp t)) dsts a0 := by
      have hsz := hinv.size
      have hdf := hinv.defers
      have ht : a.tmps = (putAll (fun t => a.eval (.tmp t)) dsts a0).tmps := by
        apply Array.ext_getElem?
        intro t
        by_cases hlt : t < a0.tmps.size
        · rw [putAll_get _ _ _ _ hlt]
          have hat : a.tmps[t]? = some (a.eval (.tmp t)) := by
            have : t < a.tmps.size := by rw [hsz]; exact hlt
            simp [Act.eval, this]
          by_cases hd : t ∈ dsts
          · rw [if_pos hd, hat]
          · rw [if_neg hd, hat, hinv.others t (fun j o hj hq => hd ((hmem t).2 ⟨j, o, hj, hq⟩))]
            simp [Act.eval, hlt]
        · rw [Array.getElem?_eq_none (by rw [hsz]; omega), Array.getElem?_eq_none (by rw [putAll_size]; omega)]
      have hdd : a.defers = (putAll (fun t => a.eval (.tmp t)) dsts a0).defers := by rw [putAll_defers, hdf]
      exact act_ext ht hdd
    rw [e]
    refine hend _ _ hinv.reach hinv.inv fun d hd => ?_
    exact hinv.facts d fun j o hj _ => hall j (Array.getElem?_eq_some_iff.1 hj).1
  · simp
  · refine ⟨hRd, hI0, rfl, rfl, fun t ht => ?_, fun _ _ => rfl, by simp, fun k o hk hl => ?_, fun k i hk => ?_⟩
    · have hnd : t ∉ dsts := fun hd => by
        obtain ⟨j, o, hj, hq⟩ := (hmem t).1 hd
        have := ht j o hj hq
        have hlt := (Array.getElem?_eq_some_iff.1 hj).1
        simp at hlt
        simp [hlt] at this
      exact fun W hW => h0 t W hnd (hRt _ _ _ hRd hW)
    · have hlt := (Array.getElem?_eq_some_iff.1 hk).1
      simp at hlt
      simp [hlt] at hl
    · by_cases hlt : i < l.length
      · simp [hlt]
      · simp [hlt]
end
end Go.Proofs.YtbedepnmgnlijaaDoor.Gw
