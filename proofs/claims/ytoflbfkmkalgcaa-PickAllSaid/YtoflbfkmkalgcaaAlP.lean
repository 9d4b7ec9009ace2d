/- Tables of draws: plain mathematics. -/
namespace Go.Proofs.Ytoflbfkmkalgcaa.Al

/-- A cell of a table. -/
structure CelD where
  cut : Nat
  oth : Nat
/-- Rests, and the table that is being built. -/
structure StD where
  rest : List Nat
  tab : List CelD
def gt (L : List Nat) (i : Nat) : Nat := L.getD i 0
theorem gt_get {L : List Nat} {i : Nat} (h : i < L.length) : L[i]? = some (gt L i) := by unfold gt; rw [List.getD_eq_getElem?_getD, List.getElem?_eq_getElem h]; rfl
theorem gt_elem {L : List Nat} {i : Nat} (h : i < L.length) : L[i] = gt L i := by have := gt_get h; rw [List.getElem?_eq_getElem h] at this; injection this
theorem gt_set {L : List Nat} {i j x : Nat} (h : i < L.length) : gt (L.set i x) j = if j = i then x else gt L j := by
  unfold gt
  rw [List.getD_eq_getElem?_getD, List.getD_eq_getElem?_getD]
  by_cases e : j = i
  · subst e; rw [if_pos rfl, List.getElem?_set_self h]; rfl
  · rw [if_neg e, List.getElem?_set_ne (Ne.symm e)]
theorem gt_le_sum : ∀ (L : List Nat) (i : Nat), gt L i ≤ L.sum
  | [], i => by simp [gt]
  | x :: L, 0 => by simp [gt]
  | x :: L, i + 1 => by
    have := gt_le_sum L i
    simp only [gt, List.getD_cons_succ, List.sum_cons] at this ⊢
    omega
theorem sum_set : ∀ {L : List Nat} {i : Nat} (_ : i < L.length) (x : Nat), (L.set i x).sum + gt L i = L.sum + x
  | [], _, h, _ => by simp at h
  | y :: L, 0, _, x => by simp [gt]; omega
  | y :: L, i + 1, h, x => by
    have := sum_set (L := L) (i := i) (by simpa using h) x
    simp only [gt, List.set_cons_succ, List.sum_cons, List.getD_cons_succ] at this ⊢
    omega
/-- The first one below, above. -/
structure FstB (w : Nat) (L : List Nat) (i : Nat) : Prop where
  lt : i < L.length
  at_ : gt L i < w
  fst : ∀ k, k < i → w ≤ gt L k
structure FstA (w : Nat) (L : List Nat) (j : Nat) : Prop where
  lt : j < L.length
  at_ : w < gt L j
  fst : ∀ k, k < j → gt L k ≤ w
theorem FstB.one {w : Nat} {L : List Nat} {i j : Nat} (h : FstB w L i) (k : FstB w L j) : i = j := by
  rcases Nat.lt_trichotomy i j with e | e | e
  · have := k.fst i e; have := h.at_; omega
  · exact e
  · have := h.fst j e; have := k.at_; omega
theorem FstA.one {w : Nat} {L : List Nat} {i j : Nat} (h : FstA w L i) (k : FstA w L j) : i = j := by
  rcases Nat.lt_trichotomy i j with e | e | e
  · have := k.fst i e; have := h.at_; omega
  · exact e
  · have := h.fst j e; have := k.at_; omega
/-- The step that gives to i of what j has. -/
def upd (w : Nat) (s : StD) (i j : Nat) : StD := ⟨(s.rest.set j (gt s.rest j - (w - gt s.rest i))).set i w, s.tab.set i ⟨gt s.rest i, j⟩⟩
inductive Rch (w : Nat) : StD → StD → Prop
  | nil (s : StD) : Rch w s s
  | cons {s t : StD} {i j : Nat} : FstB w s.rest i → FstA w s.rest j → Rch w (upd w s i j) t → Rch w s t
theorem Rch.snoc {w : Nat} {s t : StD} (h : Rch w s t) {i j : Nat} (hi : FstB w t.rest i) (hj : FstA w t.rest j) : Rch w s (upd w t i j) := by
  induction h with
  | nil s => exact .cons hi hj (.nil _)
  | cons h1 h2 _ ih => exact .cons h1 h2 (ih hi hj)
/-- Nobody lacks. -/
def Done (w : Nat) (s : StD) : Prop := ∀ k, k < s.rest.length → w ≤ gt s.rest k
theorem Rch.one {w : Nat} {s t u : StD} (h : Rch w s t) (ht : Done w t) (k : Rch w s u) (hu : Done w u) : t = u := by
  induction h with
  | nil s =>
    cases k with
    | nil => rfl
    | cons h1 h2 _ => exact absurd (ht _ h1.lt) (by have := h1.at_; omega)
  | cons h1 h2 _ ih =>
    cases k with
    | nil => exact absurd (hu _ h1.lt) (by have := h1.at_; omega)
    | cons k1 k2 k3 =>
      have e1 := h1.one k1
      have e2 := h2.one k2
      subst e1 e2
      exact ih ht k3
/-- How many of the draws select k. -/
def share (w k o : Nat) (c : CelD) : Nat := (if o = k then min c.cut w else 0) + (if c.oth = k then w - min c.cut w else 0)
def cntG (w k : Nat) : Nat → List CelD → Nat
  | _, [] => 0
  | o, c :: l => share w k o c + cntG w k (o + 1) l
def cnt (w k : Nat) (l : List CelD) : Nat := cntG w k 0 l
theorem cntG_append (w k : Nat) : ∀ (o : Nat) (l m : List CelD), cntG w k o (l ++ m) = cntG w k o l + cntG w k (o + l.length) m
  | o, [], m => by simp [cntG]
  | o, c :: l, m => by
    rw [List.cons_append, cntG, cntG, cntG_append w k (o + 1) l m, List.length_cons, show o + 1 + l.length = o + (l.length + 1) by omega]
    omega
theorem cnt_take {w k i : Nat} {l : List CelD} {c : CelD} (h : l[i]? = some c) : cnt w k (l.take (i + 1)) = cnt w k (l.take i) + share w k i c := by
  have hl : i < l.length := (List.getElem?_eq_some_iff.1 h).1
  unfold cnt
  rw [List.take_add_one, h, cntG_append, List.length_take, Nat.min_eq_left (by omega), Nat.zero_add]
  simp [cntG]
theorem cntG_set (w k : Nat) : ∀ {l : List CelD} (o i : Nat) {c : CelD} (_ : l[i]? = some c) (c' : CelD), cntG w k o (l.set i c') + share w k (o + i) c = cntG w k o l + share w k (o + i) c'
  | [], _, _, _, h, _ => by simp at h
  | d :: l, o, 0, c, h, c' => by
    simp at h
    subst h
    simp [cntG]
    omega
  | d :: l, o, i + 1, c, h, c' => by
    have := cntG_set w k (l := l) (o + 1) i (by simpa using h) c'
    rw [show o + 1 + i = o + (i + 1) by omega] at this
    simp only [List.set_cons_succ, cntG]
    omega
theorem cnt_set {w k i : Nat} {l : List CelD} {c : CelD} (h : l[i]? = some c) (c' : CelD) : cnt w k (l.set i c') + share w k i c = cnt w k l + share w k i c' := by
  have := cntG_set w k 0 i h c'
  rwa [Nat.zero_add] at this
theorem cntG_le (w k : Nat) : ∀ (o : Nat) (l : List CelD), cntG w k o l ≤ l.length * (2 * w)
  | _, [] => by simp [cntG]
  | o, c :: l => by
    have := cntG_le w k (o + 1) l
    have h2 : share w k o c ≤ 2 * w := by
      unfold share
      have : min c.cut w ≤ w := Nat.min_le_right _ _
      split <;> split <;> omega
    rw [cntG, List.length_cons, Nat.add_one_mul]
    omega
/-- What holds of a table while it is built: of d neighbours whose first rests are I. -/
structure Inv (w d : Nat) (I : List Nat) (s : StD) : Prop where
  len : s.rest.length = d
  lent : s.tab.length = d
  sum : s.rest.sum = w * d
  own : ∀ k, k < d → gt s.rest k ≠ w → s.tab[k]? = some ⟨w, k⟩
  ok : ∀ c ∈ s.tab, c.cut ≤ w ∧ c.oth < d
  cnt : ∀ k, k < d → gt s.rest k + Al.cnt w k s.tab = gt I k + w
theorem upd_sum {w d : Nat} {I : List Nat} {s : StD} {i j : Nat} (h : Inv w d I s) (hi : FstB w s.rest i) (hj : FstA w s.rest j) : (upd w s i j).rest.sum = w * d := by
  have hne : i ≠ j := fun e => by subst e; have := hi.at_; have := hj.at_; omega
  have h1 := sum_set hj.lt (gt s.rest j - (w - gt s.rest i))
  have h2 := sum_set (L := s.rest.set j (gt s.rest j - (w - gt s.rest i))) (i := i) (by rw [List.length_set]; exact hi.lt) w
  rw [gt_set hj.lt, if_neg hne] at h2
  have := h.sum
  have := hi.at_
  have := hj.at_
  show ((s.rest.set j _).set i w).sum = _
  omega
theorem upd_gt {w : Nat} {s : StD} {i j : Nat} (hi : i < s.rest.length) (hj : j < s.rest.length) (k : Nat) : gt (upd w s i j).rest k = if k = i then w else if k = j then gt s.rest j - (w - gt s.rest i) else gt s.rest k := by
  show gt ((s.rest.set j _).set i w) k = _
  rw [gt_set (by rw [List.length_set]; exact hi), gt_set hj]
theorem share_own {w i k : Nat} : share w k i ⟨w, i⟩ = if i = k then w else 0 := by
  unfold share
  simp
theorem Inv.step {w d : Nat} {I : List Nat} {s : StD} {i j : Nat} (h : Inv w d I s) (hi : FstB w s.rest i) (hj : FstA w s.rest j) : Inv w d I (upd w s i j) := by
  have hne : i ≠ j := fun e => by subst e; have := hi.at_; have := hj.at_; omega
  have hid : i < d := by rw [← h.len]; exact hi.lt
  have hjd : j < d := by rw [← h.len]; exact hj.lt
  have hti := h.own i hid (by have := hi.at_; omega)
  refine ⟨?_, ?_, upd_sum h hi hj, fun k hk hn => ?_, fun c hc => ?_, fun k hk => ?_⟩
  · show ((s.rest.set j _).set i w).length = _
    rw [List.length_set, List.length_set, h.len]
  · show (s.tab.set i _).length = _
    rw [List.length_set, h.lent]
  · rw [upd_gt hi.lt hj.lt] at hn
    have hki : k ≠ i := fun e => by rw [if_pos e] at hn; exact hn rfl
    show (s.tab.set i _)[k]? = _
    rw [List.getElem?_set_ne (Ne.symm hki)]
    refine h.own k hk fun e => ?_
    rw [if_neg hki] at hn
    by_cases hkj : k = j
    · subst hkj; have := hj.at_; omega
    · rw [if_neg hkj] at hn; exact hn e
  · rcases List.mem_or_eq_of_mem_set hc with hc | rfl
    · exact h.ok c hc
    · exact ⟨Nat.le_of_lt hi.at_, hjd⟩
  · have h1 := h.cnt k hk
    have h2 := cnt_set (w := w) (k := k) hti ⟨gt s.rest i, j⟩
    rw [upd_gt hi.lt hj.lt]
    show _ + Al.cnt w k (s.tab.set i _) = _
    rw [share_own] at h2
    have h3 : share w k i ⟨gt s.rest i, j⟩ = (if i = k then gt s.rest i else 0) + (if j = k then w - gt s.rest i else 0) := by
      unfold share
      have : min (gt s.rest i) w = gt s.rest i := Nat.min_eq_left (Nat.le_of_lt hi.at_)
      simp only [this]
    rw [h3] at h2
    have := hi.at_
    have := hj.at_
    by_cases e1 : k = i
    · subst e1
      rw [if_pos rfl]
      rw [if_pos rfl, if_pos rfl, if_neg (Ne.symm hne)] at h2
      omega
    · rw [if_neg e1]
      rw [if_neg (Ne.symm e1), if_neg (Ne.symm e1)] at h2
      by_cases e2 : k = j
      · subst e2
        rw [if_pos rfl]
        rw [if_pos rfl] at h2
        omega
      · rw [if_neg e2]
        rw [if_neg (Ne.symm e2)] at h2
        omega
theorem Inv.rch {w d : Nat} {I : List Nat} {s t : StD} (h : Inv w d I s) (k : Rch w s t) : Inv w d I t := by
  induction k with
  | nil => exact h
  | cons h1 h2 _ ih => exact ih (h.step h1 h2)
theorem sum_le {w : Nat} : ∀ {L : List Nat}, (∀ k, k < L.length → gt L k ≤ w) → L.sum ≤ w * L.length ∧ ((∃ k, k < L.length ∧ gt L k < w) → L.sum < w * L.length)
  | [], _ => ⟨by simp, fun ⟨k, hk, _⟩ => by simp at hk⟩
  | x :: L, h => by
    obtain ⟨h1, h2⟩ := sum_le (w := w) (L := L) fun k hk => by
      have := h (k + 1) (by simpa using hk)
      simpa [gt] using this
    have h0 := h 0 (by simp)
    simp only [gt, List.getD_cons_zero] at h0
    rw [List.sum_cons, List.length_cons, Nat.mul_succ]
    refine ⟨by omega, fun ⟨k, hk, hl⟩ => ?_⟩
    cases k with
    | zero =>
      simp only [gt, List.getD_cons_zero] at hl
      omega
    | succ k =>
      have := h2 ⟨k, by simpa using hk, by simpa [gt] using hl⟩
      omega
theorem sum_ge {w : Nat} : ∀ {L : List Nat}, (∀ k, k < L.length → w ≤ gt L k) → w * L.length ≤ L.sum ∧ (L.sum = w * L.length → ∀ k, k < L.length → gt L k = w)
  | [], _ => ⟨by simp, fun _ k hk => by simp at hk⟩
  | x :: L, h => by
    obtain ⟨h1, h2⟩ := sum_ge (w := w) (L := L) fun k hk => by
      have := h (k + 1) (by simpa using hk)
      simpa [gt] using this
    have h0 := h 0 (by simp)
    simp only [gt, List.getD_cons_zero] at h0
    rw [List.sum_cons, List.length_cons, Nat.mul_succ]
    refine ⟨by omega, fun e k hk => ?_⟩
    cases k with
    | zero => simp only [gt, List.getD_cons_zero]; omega
    | succ k =>
      have := h2 (by omega) k (by simpa using hk)
      simpa [gt] using this
/-- A first one, if there is one. -/
theorem first_of {p : Nat → Prop} [DecidablePred p] : ∀ {n : Nat}, (∃ k, k < n ∧ p k) → ∃ i, i < n ∧ p i ∧ ∀ k, k < i → ¬ p k := by
  intro n
  induction n with
  | zero => rintro ⟨k, hk, -⟩; omega
  | succ n ih =>
    rintro ⟨k, hk, hp⟩
    by_cases h : ∃ k, k < n ∧ p k
    · obtain ⟨i, h1, h2, h3⟩ := ih h
      exact ⟨i, by omega, h2, h3⟩
    · have : k = n := by
        rcases Nat.lt_or_ge k n with e | e
        · exact absurd ⟨k, e, hp⟩ h
        · omega
      subst this
      exact ⟨k, by omega, hp, fun q hq hpq => h ⟨q, hq, hpq⟩⟩
theorem Inv.rich {w d : Nat} {I : List Nat} {s : StD} (h : Inv w d I s) {i : Nat} (hi : i < d) (hp : gt s.rest i < w) : ∃ j, FstA w s.rest j := by
  have : ∃ k, k < s.rest.length ∧ w < gt s.rest k := by
    refine Classical.byContradiction fun hn => ?_
    have h1 := (sum_le (w := w) (L := s.rest) fun k hk => by
      rcases Nat.lt_or_ge w (gt s.rest k) with e | e
      · exact absurd ⟨k, hk, e⟩ hn
      · exact e).2 ⟨i, by rw [h.len]; exact hi, hp⟩
    rw [h.sum, h.len] at h1
    omega
  obtain ⟨j, h1, h2, h3⟩ := first_of (p := fun k => w < gt s.rest k) this
  exact ⟨j, h1, h2, fun k hk => by have := h3 k hk; omega⟩
theorem Inv.all {w d : Nat} {I : List Nat} {s : StD} (h : Inv w d I s) (hd : Done w s) : ∀ k, k < d → gt s.rest k = w := by
  intro k hk
  exact (sum_ge hd).2 (by rw [h.sum, h.len]) k (by rw [h.len]; exact hk)
theorem Inv.right {w d : Nat} {I : List Nat} {s : StD} (h : Inv w d I s) (hd : Done w s) : ∀ k, k < d → Al.cnt w k s.tab = gt I k := by
  intro k hk
  have h1 := h.cnt k hk
  rw [h.all hd k hk] at h1
  omega
/-- How many aren't settled. -/
def loose (w : Nat) (L : List Nat) : Nat := L.countP (fun x => x != w)
theorem loose_set {w i x : Nat} {L : List Nat} (h : i < L.length) : loose w (L.set i x) + (if gt L i = w then 0 else 1) = loose w L + (if x = w then 0 else 1) := by
  unfold loose
  rw [List.countP_set h, gt_elem h]
  have h2 : gt L i ≠ w → 0 < List.countP (fun x => x != w) L := fun hn => List.countP_pos_iff.2 ⟨gt L i, by rw [← gt_elem h]; exact List.getElem_mem h, by simpa using hn⟩
  by_cases e1 : gt L i = w
  · by_cases e2 : x = w <;> simp [e1, e2]
  · have h3 := h2 e1
    by_cases e2 : x = w <;> simp [e1, e2] <;> omega
theorem upd_loose {w : Nat} {s : StD} {i j : Nat} (hi : FstB w s.rest i) (hj : FstA w s.rest j) : loose w (upd w s i j).rest < loose w s.rest := by
  have hne : i ≠ j := fun e => by subst e; have := hi.at_; have := hj.at_; omega
  have h1 := loose_set (w := w) (x := gt s.rest j - (w - gt s.rest i)) hj.lt
  have h2 := loose_set (w := w) (x := w) (L := s.rest.set j (gt s.rest j - (w - gt s.rest i))) (i := i) (by rw [List.length_set]; exact hi.lt)
  rw [gt_set hj.lt, if_neg hne, if_neg (by have := hi.at_; omega), if_pos rfl] at h2
  rw [if_neg (by have := hj.at_; omega)] at h1
  show loose w ((s.rest.set j _).set i w) < _
  split at h1 <;> omega
theorem loose_le (w : Nat) (L : List Nat) : loose w L ≤ L.length := List.countP_le_length
theorem loose_zero {w : Nat} {s : StD} (h : loose w s.rest = 0) : Done w s := by
  intro k hk
  have := List.countP_eq_zero.1 h (gt s.rest k) (by rw [← gt_elem hk]; exact List.getElem_mem hk)
  have : gt s.rest k = w := by simpa using this
  omega
/-- The state that a table is begun with. -/
def beg (w : Nat) (I : List Nat) : StD := ⟨I, (List.range I.length).map fun i => ⟨w, i⟩⟩
theorem beg_cnt (w k : Nat) : ∀ (n o : Nat), cntG w k o ((List.range' o n).map fun i => ⟨w, i⟩) = if o ≤ k ∧ k < o + n then w else 0
  | 0, o => by rw [List.range'_zero, List.map_nil, cntG, if_neg (by omega)]
  | n + 1, o => by
    rw [List.range'_succ, List.map_cons, cntG, beg_cnt w k n (o + 1), share_own]
    by_cases e : o = k
    · subst e
      rw [if_pos rfl, if_neg (by omega), if_pos (by omega)]
      omega
    · rw [if_neg e]
      by_cases h : o + 1 ≤ k ∧ k < o + 1 + n
      · rw [if_pos h, if_pos (by omega)]
        omega
      · rw [if_neg h, if_neg (by omega)]
theorem beg_inv {w d : Nat} {I : List Nat} (hl : I.length = d) (hs : I.sum = w * d) : Inv w d I (beg w I) := by
  subst hl
  refine ⟨rfl, by simp [beg], hs, fun k hk _ => ?_, fun c hc => ?_, fun k hk => ?_⟩
  · simp [beg, hk]
  · simp only [beg, List.mem_map, List.mem_range] at hc
    obtain ⟨i, hi, rfl⟩ := hc
    exact ⟨Nat.le_refl _, hi⟩
  · show gt I k + cntG w k 0 ((List.range I.length).map _) = _
    rw [List.range_eq_range', beg_cnt w k I.length 0, if_pos (by omega)]
end Go.Proofs.Ytoflbfkmkalgcaa.Al
