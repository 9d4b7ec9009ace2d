/- Rows of edges that are sorted: plain mathematics. -/
import Derived.Test.YtniffijjdehnaaaEdP
namespace Go.Proofs.Ytniffijjdehnaaa.Mg
open Ed

/-- An arc, a row. -/
structure ArcR where
  dst : Nat
  wgt : Nat
deriving DecidableEq
structure RowR where
  src : Nat
  arcs : List ArcR
deriving DecidableEq
/-- An edge is below another one. -/
def lowE (a b : EdD) : Bool := decide (a.src < b.src) || (decide (a.src = b.src) && (decide (a.dst < b.dst) || (decide (a.dst = b.dst) && decide (a.wgt < b.wgt))))
theorem lowE_iff {a b : EdD} : lowE a b = true ↔ a.src < b.src ∨ (a.src = b.src ∧ (a.dst < b.dst ∨ (a.dst = b.dst ∧ a.wgt < b.wgt))) := by simp [lowE]
theorem lowE_no {a b : EdD} : lowE a b = false ↔ b.src < a.src ∨ (a.src = b.src ∧ (b.dst < a.dst ∨ (a.dst = b.dst ∧ b.wgt ≤ a.wgt))) := by
  rw [← Bool.not_eq_true, lowE_iff]
  omega
/-- An edge among sorted ones, behind those that are not above it. -/
def insE (x : EdD) : List EdD → List EdD
  | [] => [x]
  | y :: l => if lowE x y then x :: y :: l else y :: insE x l
def sortE (l : List EdD) : List EdD := l.foldl (fun out x => insE x out) []
/-- Each is not below those ahead of it. -/
def Srt (l : List EdD) : Prop := l.Pairwise fun a b => lowE b a = false
theorem mem_insE {x y : EdD} : ∀ {l : List EdD}, y ∈ insE x l ↔ y = x ∨ y ∈ l
  | [] => by simp [insE]
  | z :: l => by
    rw [insE]
    split
    · simp
    · rw [List.mem_cons, List.mem_cons, mem_insE (l := l)]
      constructor
      · rintro (h | h | h) <;> simp [h]
      · rintro (h | h | h) <;> simp [h]
theorem srt_ins {x : EdD} : ∀ {l : List EdD}, Srt l → Srt (insE x l)
  | [], _ => List.pairwise_singleton _ _
  | y :: l, h => by
    have hp := List.pairwise_cons.1 h
    rw [insE]
    cases q : lowE x y with
    | true =>
      rw [if_pos rfl]
      refine List.pairwise_cons.2 ⟨fun z hz => ?_, h⟩
      have h1 := lowE_iff.1 q
      rcases List.mem_cons.1 hz with rfl | hz
      · rw [lowE_no]; omega
      · have h2 := lowE_no.1 (hp.1 z hz)
        rw [lowE_no]; omega
    | false =>
      rw [if_neg (by simp)]
      refine List.pairwise_cons.2 ⟨fun z hz => ?_, srt_ins hp.2⟩
      rcases mem_insE.1 hz with rfl | hz
      · exact q
      · exact hp.1 z hz
theorem srt_sort (l : List EdD) : Srt (sortE l) := by
  have key : ∀ (l acc : List EdD), Srt acc → Srt (l.foldl (fun out x => insE x out) acc) := fun l => by
    induction l with
    | nil => exact fun _ h => h
    | cons x l ih => exact fun acc h => ih _ (srt_ins h)
  exact key l [] List.Pairwise.nil
/-- The weight of a pair of vertices; of a vertex. -/
def wt (f t : Nat) : List EdD → Nat
  | [] => 0
  | x :: l => (if x.src = f ∧ x.dst = t then x.wgt else 0) + wt f t l
def wf (f : Nat) : List EdD → Nat
  | [] => 0
  | x :: l => (if x.src = f then x.wgt else 0) + wf f l
theorem wt_ins (f t : Nat) (x : EdD) : ∀ l : List EdD, wt f t (insE x l) = wt f t (x :: l)
  | [] => rfl
  | y :: l => by
    rw [insE]
    split
    · rfl
    · rw [wt, wt_ins f t x l, wt, wt, wt]; omega
theorem wf_ins (f : Nat) (x : EdD) : ∀ l : List EdD, wf f (insE x l) = wf f (x :: l)
  | [] => rfl
  | y :: l => by
    rw [insE]
    split
    · rfl
    · rw [wf, wf_ins f x l, wf, wf, wf]; omega
theorem wt_append (f t : Nat) : ∀ a b : List EdD, wt f t (a ++ b) = wt f t a + wt f t b
  | [], b => by rw [List.nil_append, wt, Nat.zero_add]
  | x :: a, b => by rw [List.cons_append, wt, wt, wt_append f t a b, Nat.add_assoc]
theorem wf_append (f : Nat) : ∀ a b : List EdD, wf f (a ++ b) = wf f a + wf f b
  | [], b => by rw [List.nil_append, wf, Nat.zero_add]
  | x :: a, b => by rw [List.cons_append, wf, wf, wf_append f a b, Nat.add_assoc]
theorem wt_sort (f t : Nat) (l : List EdD) : wt f t (sortE l) = wt f t l := by
  have key : ∀ (l acc : List EdD), wt f t (l.foldl (fun out x => insE x out) acc) = wt f t acc + wt f t l := fun l => by
    induction l with
    | nil => exact fun acc => rfl
    | cons x l ih =>
      intro acc
      rw [List.foldl_cons, ih, wt_ins, wt, wt]
      omega
  rw [sortE, key l [], wt, Nat.zero_add]
theorem wf_sort (f : Nat) (l : List EdD) : wf f (sortE l) = wf f l := by
  have key : ∀ (l acc : List EdD), wf f (l.foldl (fun out x => insE x out) acc) = wf f acc + wf f l := fun l => by
    induction l with
    | nil => exact fun acc => rfl
    | cons x l ih =>
      intro acc
      rw [List.foldl_cons, ih, wf_ins, wf, wf]
      omega
  rw [sortE, key l [], wf, Nat.zero_add]
theorem mem_sort {y : EdD} (l : List EdD) : y ∈ sortE l ↔ y ∈ l := by
  have key : ∀ (l acc : List EdD), y ∈ l.foldl (fun out x => insE x out) acc ↔ y ∈ acc ∨ y ∈ l := fun l => by
    induction l with
    | nil => exact fun acc => by simp
    | cons x l ih =>
      intro acc
      rw [List.foldl_cons, ih, mem_insE, List.mem_cons]
      constructor
      · rintro ((h | h) | h) <;> simp [h]
      · rintro (h | h | h) <;> simp [h]
  rw [sortE, key l []]
  simp
/-- All of an arcs' list. -/
def sumA (l : List ArcR) : Nat := (l.map ArcR.wgt).sum
/-- Rows with an edge more: they are given the last one first. -/
def addA (x : EdD) : List ArcR → List ArcR
  | [] => [⟨x.dst, x.wgt⟩]
  | a :: l => if a.dst = x.dst then ⟨a.dst, a.wgt + x.wgt⟩ :: l else ⟨x.dst, x.wgt⟩ :: a :: l
def addR (x : EdD) : List RowR → List RowR
  | [] => [⟨x.src, [⟨x.dst, x.wgt⟩]⟩]
  | r :: l => if r.src = x.src then ⟨r.src, addA x r.arcs⟩ :: l else ⟨x.src, [⟨x.dst, x.wgt⟩]⟩ :: r :: l
def hasR (x : EdD) : List RowR → Nat
  | [] => 0
  | r :: _ => if r.src = x.src then sumA r.arcs else 0
/-- The weights that rows tell. -/
def wtA (t : Nat) : List ArcR → Nat
  | [] => 0
  | a :: l => (if a.dst = t then a.wgt else 0) + wtA t l
def wtR (f t : Nat) : List RowR → Nat
  | [] => 0
  | r :: l => (if r.src = f then wtA t r.arcs else 0) + wtR f t l
def wfR (f : Nat) : List RowR → Nat
  | [] => 0
  | r :: l => (if r.src = f then sumA r.arcs else 0) + wfR f l
theorem wtA_add (t : Nat) (x : EdD) : ∀ l : List ArcR, wtA t (addA x l) = wtA t l + if x.dst = t then x.wgt else 0
  | [] => by simp [addA, wtA]
  | a :: l => by
    rw [addA]
    by_cases e : a.dst = x.dst
    · rw [if_pos e, wtA, wtA]
      dsimp only
      rw [e]
      split <;> omega
    · rw [if_neg e, wtA, wtA]
      dsimp only
      omega
theorem sumA_add (x : EdD) : ∀ l : List ArcR, sumA (addA x l) = sumA l + x.wgt
  | [] => by simp [addA, sumA]
  | a :: l => by
    rw [addA]
    split <;> simp [sumA] <;> omega
theorem wtR_add (f t : Nat) (x : EdD) : ∀ l : List RowR, wtR f t (addR x l) = wtR f t l + if x.src = f ∧ x.dst = t then x.wgt else 0
  | [] => by by_cases h1 : x.src = f <;> by_cases h2 : x.dst = t <;> simp [addR, wtR, wtA, h1, h2]
  | r :: l => by
    rw [addR]
    by_cases e : r.src = x.src
    · rw [if_pos e, wtR, wtR, wtA_add, e]
      by_cases h1 : x.src = f <;> by_cases h2 : x.dst = t <;> simp [h1, h2] <;> omega
    · rw [if_neg e, wtR, wtR, wtA, wtA]
      by_cases h1 : x.src = f <;> by_cases h2 : x.dst = t <;> simp [h1, h2] <;> omega
theorem wfR_add (f : Nat) (x : EdD) : ∀ l : List RowR, wfR f (addR x l) = wfR f l + if x.src = f then x.wgt else 0
  | [] => by by_cases h1 : x.src = f <;> simp [addR, wfR, h1, sumA]
  | r :: l => by
    rw [addR]
    by_cases e : r.src = x.src
    · rw [if_pos e, wfR, wfR, sumA_add, e]
      by_cases h1 : x.src = f <;> simp [h1] <;> omega
    · rw [if_neg e, wfR, wfR]
      by_cases h1 : x.src = f <;> simp [h1, sumA] <;> omega
/-- Rows as they must be, the last one first. -/
structure RowsOk (l : List RowR) : Prop where
  srcs : l.Pairwise fun a b => b.src < a.src
  full : ∀ r ∈ l, r.arcs ≠ []
  dsts : ∀ r ∈ l, r.arcs.Pairwise fun a b => b.dst < a.dst
  pos : ∀ r ∈ l, ∀ a ∈ r.arcs, 0 < a.wgt
/-- The edge that came last stands at the front. -/
def Front (l : List RowR) (y : EdD) : Prop := ∃ r L a A, l = r :: L ∧ r.arcs = a :: A ∧ r.src = y.src ∧ a.dst = y.dst
theorem RowsOk.nil : RowsOk [] := ⟨List.Pairwise.nil, fun _ h => (by cases h), fun _ h => (by cases h), fun _ h => (by cases h)⟩
theorem wfR_zero {f : Nat} : ∀ {l : List RowR}, (∀ r ∈ l, r.src ≠ f) → wfR f l = 0
  | [], _ => rfl
  | r :: l, h => by rw [wfR, if_neg (h r (by simp)), wfR_zero (l := l) fun q hq => h q (by simp [hq])]
/-- What a vertex has lies in the front row. -/
theorem RowsOk.has {l : List RowR} (h : RowsOk l) {x : EdD} (hf : ∀ r ∈ l, r.src ≤ x.src) : hasR x l = wfR x.src l := by
  cases l with
  | nil => rfl
  | cons r l =>
    have hp := (List.pairwise_cons.1 h.srcs).1
    have hr := hf r (by simp)
    rw [hasR, wfR, wfR_zero (l := l) fun q hq => by have := hp q hq; omega, Nat.add_zero]
theorem RowsOk.add {l : List RowR} (h : RowsOk l) {x : EdD} (hw : 0 < x.wgt) (hx : l = [] ∨ ∃ y, Front l y ∧ lowE x y = false) : RowsOk (addR x l) ∧ Front (addR x l) x := by
  cases l with
  | nil =>
    rw [addR]
    refine ⟨⟨List.pairwise_singleton _ _, fun r hr => ?_, fun r hr => ?_, fun r hr a ha => ?_⟩, _, _, _, _, rfl, rfl, rfl, rfl⟩
    · rw [List.mem_singleton.1 hr]; simp
    · rw [List.mem_singleton.1 hr]; exact List.pairwise_singleton _ _
    · rw [List.mem_singleton.1 hr] at ha
      rw [List.mem_singleton.1 ha]; exact hw
  | cons r l =>
    rcases hx with q | ⟨y, ⟨r', L, a, A, e, e1, e2, e3⟩, hy⟩
    · cases q
    · injection e with er el
      subst er el
      have hlow := lowE_no.1 hy
      have hp := List.pairwise_cons.1 h.srcs
      rw [addR]
      by_cases es : r.src = x.src
      · rw [if_pos es, e1, addA]
        have hd := h.dsts r (by simp)
        rw [e1] at hd
        have hdp := List.pairwise_cons.1 hd
        have hpo := h.pos r (by simp)
        rw [e1] at hpo
        by_cases ed : a.dst = x.dst
        · rw [if_pos ed]
          refine ⟨⟨List.pairwise_cons.2 ⟨hp.1, hp.2⟩, fun q hq => ?_, fun q hq => ?_, fun q hq b hb => ?_⟩, _, _, _, _, rfl, rfl, es, ed⟩
          · rcases List.mem_cons.1 hq with rfl | hq
            · simp
            · exact h.full q (by simp [hq])
          · rcases List.mem_cons.1 hq with rfl | hq
            · exact List.pairwise_cons.2 ⟨hdp.1, hdp.2⟩
            · exact h.dsts q (by simp [hq])
          · rcases List.mem_cons.1 hq with rfl | hq
            · rcases List.mem_cons.1 hb with rfl | hb
              · have := hpo a (by simp)
                show 0 < a.wgt + x.wgt
                omega
              · exact hpo b (by simp [hb])
            · exact h.pos q (by simp [hq]) b hb
        · rw [if_neg ed]
          have hlt : a.dst < x.dst := by omega
          refine ⟨⟨List.pairwise_cons.2 ⟨hp.1, hp.2⟩, fun q hq => ?_, fun q hq => ?_, fun q hq b hb => ?_⟩, _, _, _, _, rfl, rfl, es, rfl⟩
          · rcases List.mem_cons.1 hq with rfl | hq
            · simp
            · exact h.full q (by simp [hq])
          · rcases List.mem_cons.1 hq with rfl | hq
            · refine List.pairwise_cons.2 ⟨fun b hb => ?_, hd⟩
              rcases List.mem_cons.1 hb with rfl | hb
              · exact hlt
              · have := hdp.1 b hb
                show b.dst < x.dst
                omega
            · exact h.dsts q (by simp [hq])
          · rcases List.mem_cons.1 hq with rfl | hq
            · rcases List.mem_cons.1 hb with rfl | hb
              · exact hw
              · exact hpo b hb
            · exact h.pos q (by simp [hq]) b hb
      · rw [if_neg es]
        have hlt : r.src < x.src := by omega
        refine ⟨⟨List.pairwise_cons.2 ⟨fun q hq => ?_, h.srcs⟩, fun q hq => ?_, fun q hq => ?_, fun q hq b hb => ?_⟩, _, _, _, _, rfl, rfl, rfl, rfl⟩
        · rcases List.mem_cons.1 hq with rfl | hq
          · exact hlt
          · have := hp.1 q hq
            show q.src < x.src
            omega
        · rcases List.mem_cons.1 hq with rfl | hq
          · simp
          · exact h.full q hq
        · rcases List.mem_cons.1 hq with rfl | hq
          · exact List.pairwise_singleton _ _
          · exact h.dsts q hq
        · rcases List.mem_cons.1 hq with rfl | hq
          · rw [List.mem_singleton.1 hb]; exact hw
          · exact h.pos q hq b hb
/-- Rising lists with the same members are the same. -/
theorem rise_one {α : Type} (key : α → Nat) : ∀ {l m : List α}, (l.Pairwise fun a b => key b < key a) → (m.Pairwise fun a b => key b < key a) → (∀ x, x ∈ l ↔ x ∈ m) → l = m
  | [], [], _, _, _ => rfl
  | [], b :: m, _, _, h => by have := (h b).2 (by simp); cases this
  | a :: l, [], _, _, h => by have := (h a).1 (by simp); cases this
  | a :: l, b :: m, hl, hm, h => by
    have pl := List.pairwise_cons.1 hl
    have pm := List.pairwise_cons.1 hm
    have e : a = b := by
      rcases List.mem_cons.1 ((h a).1 (by simp)) with e | h1
      · exact e
      · rcases List.mem_cons.1 ((h b).2 (by simp)) with e | h2
        · exact e.symm
        · have := pm.1 a h1
          have := pl.1 b h2
          omega
    subst e
    rw [rise_one key pl.2 pm.2 fun x => ⟨fun hx => ?_, fun hx => ?_⟩]
    · rcases List.mem_cons.1 ((h x).1 (by simp [hx])) with e | q
      · subst e; have := pl.1 x hx; omega
      · exact q
    · rcases List.mem_cons.1 ((h x).2 (by simp [hx])) with e | q
      · subst e; have := pm.1 x hx; omega
      · exact q
theorem wtA_zero {t : Nat} : ∀ {l : List ArcR}, (∀ a ∈ l, a.dst ≠ t) → wtA t l = 0
  | [], _ => rfl
  | a :: l, h => by rw [wtA, if_neg (h a (by simp)), wtA_zero (l := l) fun q hq => h q (by simp [hq])]
theorem wtA_mem {t : Nat} : ∀ {l : List ArcR}, (l.Pairwise fun a b => b.dst < a.dst) → ∀ {a : ArcR}, a ∈ l → a.dst = t → wtA t l = a.wgt
  | [], _, _, h, _ => by cases h
  | b :: l, hp, a, h, e => by
    have hc := List.pairwise_cons.1 hp
    rcases List.mem_cons.1 h with rfl | h
    · rw [wtA, if_pos e, wtA_zero (l := l) fun q hq => by have := hc.1 q hq; omega, Nat.add_zero]
    · rw [wtA, if_neg (by have := hc.1 a h; omega), wtA_mem hc.2 h e, Nat.zero_add]
theorem wtR_zero {f t : Nat} : ∀ {l : List RowR}, (∀ r ∈ l, r.src ≠ f) → wtR f t l = 0
  | [], _ => rfl
  | r :: l, h => by rw [wtR, if_neg (h r (by simp)), wtR_zero (l := l) fun q hq => h q (by simp [hq])]
theorem wtR_mem {f t : Nat} : ∀ {l : List RowR}, (l.Pairwise fun a b => b.src < a.src) → ∀ {r : RowR}, r ∈ l → r.src = f → wtR f t l = wtA t r.arcs
  | [], _, _, h, _ => by cases h
  | b :: l, hp, r, h, e => by
    have hc := List.pairwise_cons.1 hp
    rcases List.mem_cons.1 h with rfl | h
    · rw [wtR, if_pos e, wtR_zero (l := l) fun q hq => by have := hc.1 q hq; omega, Nat.add_zero]
    · rw [wtR, if_neg (by have := hc.1 r h; omega), wtR_mem hc.2 h e, Nat.zero_add]
/-- An arc is there just with its weight. -/
theorem RowsOk.arc {l : List RowR} (h : RowsOk l) {r : RowR} (hr : r ∈ l) (a : ArcR) : a ∈ r.arcs ↔ 0 < a.wgt ∧ wtR r.src a.dst l = a.wgt := by
  have hd := h.dsts r hr
  rw [wtR_mem h.srcs hr rfl]
  refine ⟨fun ha => ⟨h.pos r hr a ha, wtA_mem hd ha rfl⟩, fun ⟨h1, h2⟩ => ?_⟩
  by_cases q : ∃ b ∈ r.arcs, b.dst = a.dst
  · obtain ⟨b, hb, e⟩ := q
    have := wtA_mem hd hb e
    have : b = a := by
      cases a; cases b
      simp only [ArcR.mk.injEq]
      simp only at *
      omega
    exact this ▸ hb
  · rw [wtA_zero fun b hb e => q ⟨b, hb, e⟩] at h2
    omega
/-- Rows are told by the weights. -/
theorem RowsOk.one {l m : List RowR} (h : RowsOk l) (k : RowsOk m) (hw : ∀ f t, wtR f t l = wtR f t m) : l = m := by
  have key : ∀ {l m : List RowR}, RowsOk l → RowsOk m → (∀ f t, wtR f t l = wtR f t m) → ∀ r, r ∈ l → r ∈ m := fun {l m} h k hw r hr => by
    have hne := h.full r hr
    obtain ⟨a, ha⟩ : ∃ a, a ∈ r.arcs := by
      cases hq : r.arcs with
      | nil => exact absurd hq hne
      | cons a A => exact ⟨a, by simp⟩
    have h1 := (h.arc hr a).1 ha
    obtain ⟨r', hr', e⟩ : ∃ r', r' ∈ m ∧ r'.src = r.src := by
      refine Classical.byContradiction fun hq => ?_
      have := wtR_zero (f := r.src) (t := a.dst) (l := m) fun q hm e => hq ⟨q, hm, e⟩
      rw [hw] at h1
      omega
    have : r.arcs = r'.arcs := rise_one ArcR.dst (h.dsts r hr) (k.dsts r' hr') fun b => by
      rw [h.arc hr b, k.arc hr' b, hw, e]
    have : r = r' := by cases r; cases r'; simp only at *; subst e; subst this; rfl
    exact this ▸ hr'
  exact rise_one RowR.src h.srcs k.srcs fun r => ⟨key h k hw r, key k h (fun f t => (hw f t).symm) r⟩
/-- Is an edge below the one that came last? -/
def under (last : Option EdD) (x : EdD) : Bool :=
  match last with
  | some y => lowE x y
  | none => false
/-- The rows of edges, behind those that are there: the last one first; or the error. -/
def rowsG (rows : List RowR) (last : Option EdD) : List EdD → List RowR × Int
  | [] => (rows, 0)
  | x :: l => if x.wgt = 0 then ([], 3) else if under last x then ([], 13) else if 2147483647 < hasR x rows + x.wgt then ([], 10) else rowsG (addR x rows) (some x) l
theorem wf_mono {f : Nat} (a b : List EdD) : wf f a ≤ wf f (a ++ b) := by rw [wf_append]; exact Nat.le_add_right _ _
/-- The rows of sorted edges with weights; or a vertex has too much. -/
theorem rowsG_sorted : ∀ (l p : List EdD) (rows : List RowR) (last : Option EdD), Srt (p ++ l) → (∀ x ∈ l, 0 < x.wgt) → RowsOk rows → (last = none → p = [] ∧ rows = []) → (∀ y, last = some y → Front rows y ∧ y ∈ p) → (∀ f t, wtR f t rows = wt f t p) → (∀ f, wfR f rows = wf f p) → (∀ f, wf f p ≤ 2147483647) →
    (∃ R, rowsG rows last l = (R, 0) ∧ RowsOk R ∧ (∀ f t, wtR f t R = wt f t (p ++ l)) ∧ (∀ f, wfR f R = wf f (p ++ l)) ∧ ∀ f, wf f (p ++ l) ≤ 2147483647) ∨ (rowsG rows last l = ([], 10) ∧ ∃ f, 2147483647 < wf f (p ++ l))
  | [], p, rows, last, _, _, hR, _, _, h1, h2, h3 => .inl ⟨rows, by rw [rowsG], hR, fun f t => by rw [List.append_nil]; exact h1 f t, fun f => by rw [List.append_nil]; exact h2 f, fun f => by rw [List.append_nil]; exact h3 f⟩
  | x :: l, p, rows, last, hs, hw, hR, hn, hy, h1, h2, h3 => by
    have hx := hw x (by simp)
    have hlow : under last x = false := by
      cases last with
      | none => rfl
      | some y => exact (List.pairwise_append.1 hs).2.2 y (hy y rfl).2 x (by simp)
    have hle : ∀ r ∈ rows, r.src ≤ x.src := fun r hr => by
      cases last with
      | none => rw [(hn rfl).2] at hr; cases hr
      | some y =>
        obtain ⟨⟨r', L, a, A, e, e1, e2, e3⟩, -⟩ := hy y rfl
        have := lowE_no.1 (show lowE x y = false from hlow)
        rw [e] at hr
        have hp := (List.pairwise_cons.1 (e ▸ hR.srcs)).1
        rcases List.mem_cons.1 hr with rfl | hr
        · omega
        · have := hp r hr; omega
    have hhas := hR.has hle
    rw [h2] at hhas
    have happ : p ++ x :: l = (p ++ [x]) ++ l := by simp
    have hwf : ∀ f, wf f (p ++ [x]) = wf f p + if x.src = f then x.wgt else 0 := fun f => by rw [wf_append, wf, wf, Nat.add_zero]
    rw [rowsG, if_neg (by omega), hlow, if_neg (by simp)]
    by_cases ho : 2147483647 < hasR x rows + x.wgt
    · rw [if_pos ho]
      refine .inr ⟨rfl, x.src, ?_⟩
      rw [happ]
      refine Nat.lt_of_lt_of_le ?_ (wf_mono _ _)
      rw [hwf, if_pos rfl]
      omega
    · rw [if_neg ho, happ]
      obtain ⟨k1, k2⟩ := hR.add hx (by
        cases last with
        | none => exact .inl (hn rfl).2
        | some y => exact .inr ⟨y, (hy y rfl).1, hlow⟩)
      refine rowsG_sorted l (p ++ [x]) (addR x rows) (some x) (by rw [← happ]; exact hs) (fun y hy => hw y (by simp [hy])) k1 (fun q => by cases q) (fun y hy => by injection hy with hy; subst hy; exact ⟨k2, by simp⟩) (fun f t => by rw [wtR_add, h1, wt_append, wt, wt, Nat.add_zero]) (fun f => by rw [wfR_add, h2, hwf]) fun f => ?_
      rw [hwf]
      have := h3 f
      split
      · rename_i e; rw [← e]; omega
      · omega
theorem rows_sort (l : List EdD) (hw : ∀ x ∈ l, 0 < x.wgt) : (∃ R, rowsG [] none (sortE l) = (R, 0) ∧ RowsOk R ∧ (∀ f t, wtR f t R = wt f t l) ∧ (∀ f, wfR f R = wf f l) ∧ ∀ f, wf f l ≤ 2147483647) ∨ (rowsG [] none (sortE l) = ([], 10) ∧ ∃ f, 2147483647 < wf f l) := by
  have := rowsG_sorted (sortE l) [] [] none (srt_sort l) (fun x hx => hw x ((mem_sort l).1 hx)) RowsOk.nil (fun _ => ⟨rfl, rfl⟩) (fun y h => by cases h) (fun _ _ => rfl) (fun _ => rfl) (fun _ => Nat.zero_le _)
  simp only [List.nil_append, wt_sort, wf_sort] at this
  exact this
/-- Edges with the same weights come to the same rows, or the same error. -/
theorem rows_same {l m : List EdD} (hl : ∀ x ∈ l, 0 < x.wgt) (hm : ∀ x ∈ m, 0 < x.wgt) (ht : ∀ f t, wt f t l = wt f t m) (hf : ∀ f, wf f l = wf f m) : rowsG [] none (sortE l) = rowsG [] none (sortE m) := by
  rcases rows_sort l hl with ⟨R, h1, h2, h3, -, h4⟩ | ⟨h1, f, h2⟩
  · rcases rows_sort m hm with ⟨Q, k1, k2, k3, -, k4⟩ | ⟨k1, g, k2⟩
    · rw [h1, k1, h2.one k2 fun f t => by rw [h3, k3, ht]]
    · have := h4 g; rw [hf] at this; omega
  · rcases rows_sort m hm with ⟨Q, k1, k2, k3, -, k4⟩ | ⟨k1, g, k2⟩
    · have := k4 f; rw [← hf] at this; omega
    · rw [h1, k1]
end Go.Proofs.Ytniffijjdehnaaa.Mg
