/- Draws and numbers of intervals: plain mathematics. -/
import Derived.Test.YtoflbfkmkalgcaaAlO
namespace Go.Proofs.Ytoflbfkmkalgcaa
open Go.RowKit Me Va Al

theorem may_weight : ∀ {l : List ArcD} {z : Nat}, rises z l = true → ∀ p ∈ l, 0 < p.weight
  | [], _, _, p, hp => by simp at hp
  | q :: l, z, h, p, hp => by
    rw [rises, Bool.and_eq_true] at h
    rcases List.mem_cons.1 hp with rfl | hp
    · have h1 := h.1
      simp at h1
      omega
    · exact may_weight h.2 p hp
theorem good_pos {l : List ArcD} (h : good l = true) : 0 < sumOf l := by
  obtain ⟨h0, hm⟩ := good_may h
  cases l with
  | nil => simp at h0
  | cons p l =>
    unfold may at hm
    rw [Bool.and_eq_true] at hm
    have := may_weight hm.1 p (by simp)
    simp only [sumOf]
    omega
/-- How many draws there are. -/
def totalOf (l : List ArcD) : Nat := if good l then l.length * sumOf l else 0
theorem total_good {l : List ArcD} (h : good l = true) : totalOf l = l.length * sumOf l := by unfold totalOf; rw [if_pos h]
theorem good_of_total {l : List ArcD} {y : Nat} (h : y < totalOf l) : good l = true := by
  unfold totalOf at h
  split at h
  · assumption
  · omega
theorem total_pos {l : List ArcD} : good l = true ↔ 0 < totalOf l := by
  constructor
  · intro h
    rw [total_good h]
    exact Nat.mul_pos (good_may h).1 (good_pos h)
  · exact good_of_total
theorem total_lt {l : List ArcD} (hn : l.length ≤ 1000000) : totalOf l ≤ 2147483647000000 := by
  unfold totalOf
  split
  · next h =>
    have := may_sum (good_may h).2
    calc l.length * sumOf l ≤ 1000000 * 2147483647 := Nat.mul_le_mul hn this
      _ = 2147483647000000 := by decide
  · omega
/-- The first number of a neighbour's interval. -/
def strt (l : List ArcD) (k : Nat) : Nat := l.length * sumOf (l.take k)
theorem strt_next {l : List ArcD} {k : Nat} {p : ArcD} (h : l[k]? = some p) : strt l (k + 1) = strt l k + l.length * p.weight := by
  unfold strt
  rw [sumOf_take h, Nat.mul_add]
theorem strt_zero (l : List ArcD) : strt l 0 = 0 := by unfold strt; simp [sumOf]
theorem strt_all (l : List ArcD) : strt l l.length = l.length * sumOf l := by unfold strt; rw [List.take_length]
theorem sum_take_mono (l : List ArcD) {i j : Nat} (h : i ≤ j) : sumOf (l.take i) ≤ sumOf (l.take j) := by
  have := sumOf_take_le (l.take j) i
  rwa [List.take_take, Nat.min_eq_left h] at this
theorem strt_mono (l : List ArcD) {i j : Nat} (h : i ≤ j) : strt l i ≤ strt l j := Nat.mul_le_mul_left _ (sum_take_mono l h)
theorem strt_le (l : List ArcD) (k : Nat) : strt l k ≤ l.length * sumOf l := Nat.mul_le_mul_left _ (sumOf_take_le l k)
/-- By intervals this number selects this neighbour. -/
structure Ivl (l : List ArcD) (y i : Nat) : Prop where
  lt : i < l.length
  lo : strt l i ≤ y
  hi : y < strt l (i + 1)
theorem Ivl.one {l : List ArcD} {y i j : Nat} (h : Ivl l y i) (k : Ivl l y j) : i = j := by
  rcases Nat.lt_trichotomy i j with e | e | e
  · have := strt_mono l (show i + 1 ≤ j by omega)
    have := h.hi
    have := k.lo
    omega
  · exact e
  · have := strt_mono l (show j + 1 ≤ i by omega)
    have := k.hi
    have := h.lo
    omega
theorem Ivl.below {l : List ArcD} {y i : Nat} (h : Ivl l y i) : y < l.length * sumOf l := by
  have := h.hi
  have := strt_le l (i + 1)
  omega
theorem mayT_parts {l : List ArcD} {T : List CelD} (h : mayT l T = true) : good l = true ∧ T.length = l.length ∧ (∀ c ∈ T, c.cut ≤ sumOf l ∧ c.oth < l.length) ∧ ∀ k p, l[k]? = some p → Al.cnt (sumOf l) k T = l.length * p.weight := by
  unfold mayT at h
  rw [Bool.and_eq_true, Bool.and_eq_true, Bool.and_eq_true] at h
  obtain ⟨⟨⟨h1, h2⟩, h3⟩, h4⟩ := h
  refine ⟨h1, of_decide_eq_true h2, fun c hc => ?_, fun k p hp => ?_⟩
  · have := List.all_eq_true.1 h3 c hc
    unfold okCel at this
    rw [Bool.and_eq_true] at this
    exact ⟨of_decide_eq_true this.1, of_decide_eq_true this.2⟩
  · have hk : k < l.length := (List.getElem?_eq_some_iff.1 hp).1
    have := of_decide_eq_true (List.all_eq_true.1 h4 k (List.mem_range.2 hk))
    rw [this, restsOf_gt hp]
/-- A draw of the draws selects a neighbour. -/
theorem toOf_lt {T : List CelD} {S n x : Nat} (hS : 0 < S) (hl : T.length = n) (ho : ∀ c ∈ T, c.oth < n) (hx : x < n * S) : toOf T S x < n := by
  have hq : x / S < n := (Nat.div_lt_iff_lt_mul hS).2 hx
  have hg := List.getElem?_eq_getElem (show x / S < T.length by omega)
  unfold toOf
  rw [hg]
  dsimp only
  split
  · exact hq
  · exact ho _ (List.getElem_mem _)
theorem metN_mono (T : List CelD) (S k : Nat) : ∀ {a b : Nat}, a ≤ b → metN T S k a ≤ metN T S k b := by
  intro a b h
  induction h with
  | refl => exact Nat.le_refl _
  | step _ ih => rw [metN]; omega
theorem metN_lt {T : List CelD} {S k a b : Nat} (ha : toOf T S a = k) (h : a < b) : metN T S k a < metN T S k b := by
  have h1 : metN T S k (a + 1) = metN T S k a + 1 := by rw [metN, if_pos ha]
  have := metN_mono T S k (show a + 1 ≤ b from h)
  omega
theorem metN_one {T : List CelD} {S k a b : Nat} (ha : toOf T S a = k) (hb : toOf T S b = k) (h : metN T S k a = metN T S k b) : a = b := by
  rcases Nat.lt_trichotomy a b with e | e | e
  · have := metN_lt ha e; omega
  · exact e
  · have := metN_lt hb e; omega
/-- The number to which a draw is mapped. -/
def rmp (l : List ArcD) (T : List CelD) (x : Nat) : Nat := strt l (toOf T (sumOf l) x) + metN T (sumOf l) (toOf T (sumOf l) x) x
theorem metN_total {T : List CelD} {S k : Nat} (hcut : ∀ c ∈ T, c.cut ≤ S) : metN T S k (S * T.length) = Al.cnt S k T := by
  rw [metN_all hcut T.length (Nat.le_refl _), List.take_length]
theorem rmp_ivl {l : List ArcD} {T : List CelD} {x : Nat} (h : mayT l T = true) (hx : x < l.length * sumOf l) : Ivl l (rmp l T x) (toOf T (sumOf l) x) := by
  obtain ⟨hg, hl, hok, hc⟩ := mayT_parts h
  have hk := toOf_lt (good_pos hg) hl (fun c hc => (hok c hc).2) hx
  have hp := List.getElem?_eq_getElem hk
  have h1 := metN_lt (T := T) (S := sumOf l) (k := toOf T (sumOf l) x) rfl (show x < sumOf l * T.length by rw [hl, Nat.mul_comm]; exact hx)
  rw [metN_total (fun c hc => (hok c hc).1), hc _ _ hp] at h1
  refine ⟨hk, ?_, ?_⟩
  · unfold rmp; omega
  · rw [strt_next hp]; unfold rmp; omega
theorem rmp_one {l : List ArcD} {T : List CelD} {x z : Nat} (h : mayT l T = true) (hx : x < l.length * sumOf l) (hz : z < l.length * sumOf l) (e : rmp l T x = rmp l T z) : x = z := by
  have h1 := rmp_ivl h hx
  have h2 := rmp_ivl h hz
  rw [e] at h1
  have h3 := h1.one h2
  refine metN_one (T := T) (S := sumOf l) (k := toOf T (sumOf l) z) h3 rfl ?_
  unfold rmp at e
  rw [h3] at e
  omega
/-- Of draws that come to the same neighbour the lower is mapped to the lower. -/
theorem rmp_rises {l : List ArcD} {T : List CelD} {a b : Nat} (e : toOf T (sumOf l) a = toOf T (sumOf l) b) : decide (a < b) = decide (rmp l T a < rmp l T b) := by
  rw [decide_eq_decide]
  unfold rmp
  rw [e]
  constructor
  · intro h
    have := metN_lt (T := T) (S := sumOf l) e h
    omega
  · intro h
    apply Classical.byContradiction
    intro hn
    have := metN_mono T (sumOf l) (toOf T (sumOf l) b) (show b ≤ a by omega)
    omega

/-- Draws in a row that come to a neighbour. -/
structure PrtD where
  tgt : Nat
  draw : Nat
  size : Nat
/-- Such draws, and the numbers to which they are mapped. -/
structure SgD where
  draw : Nat
  num : Nat
  size : Nat
/-- The parts of the cells from the one with this index on. -/
def prts (S : Nat) : Nat → List CelD → List PrtD
  | _, [] => []
  | i, c :: l => ⟨i, i * S, c.cut⟩ :: ⟨c.oth, i * S + c.cut, S - c.cut⟩ :: prts S (i + 1) l
/-- Those of a neighbour, with their numbers. -/
def sgs (k : Nat) : Nat → List PrtD → List SgD
  | _, [] => []
  | m, p :: r => if p.tgt = k then ⟨p.draw, m, p.size⟩ :: sgs k (m + p.size) r else sgs k m r
theorem prts_drop (S : Nat) : ∀ (T : List CelD) (o i : Nat), (prts S o T).drop (i * 2) = prts S (o + i) (T.drop i)
  | [], o, i => by simp [prts]
  | c :: l, o, 0 => by simp
  | c :: l, o, i + 1 => by
    rw [show (i + 1) * 2 = i * 2 + 1 + 1 by omega, prts, List.drop_succ_cons, List.drop_succ_cons, prts_drop S l (o + 1) i, List.drop_succ_cons, show o + 1 + i = o + (i + 1) by omega]
theorem prts_at {S i : Nat} {T : List CelD} {c : CelD} (h : T[i]? = some c) : (prts S 0 T).drop (i * 2) = ⟨i, i * S, c.cut⟩ :: ⟨c.oth, i * S + c.cut, S - c.cut⟩ :: (prts S 0 T).drop ((i + 1) * 2) := by
  obtain ⟨hi, he⟩ := List.getElem?_eq_some_iff.1 h
  rw [prts_drop, prts_drop, List.drop_eq_getElem_cons hi, he, prts, Nat.zero_add, Nat.zero_add]
/-- What a part holds of the draws. -/
def PrtOk (T : List CelD) (S : Nat) (p : PrtD) : Prop := ∀ x, p.draw ≤ x → x < p.draw + p.size → toOf T S x = p.tgt
/-- They come one behind the other. -/
def Chn : Nat → List PrtD → Prop
  | _, [] => True
  | a, p :: r => p.draw = a ∧ Chn (a + p.size) r
def szs : List PrtD → Nat
  | [] => 0
  | p :: r => p.size + szs r
theorem prts_chn (S : Nat) : ∀ (T : List CelD) (o : Nat), (∀ c ∈ T, c.cut ≤ S) → Chn (o * S) (prts S o T) ∧ szs (prts S o T) = T.length * S
  | [], o, _ => by simp [prts, Chn, szs]
  | c :: l, o, h => by
    have hc := h c (by simp)
    obtain ⟨h1, h2⟩ := prts_chn S l (o + 1) (fun d hd => h d (by simp [hd]))
    refine ⟨⟨rfl, rfl, ?_⟩, ?_⟩
    · rw [show o * S + c.cut + (S - c.cut) = (o + 1) * S by rw [Nat.add_one_mul]; omega]
      exact h1
    · simp only [prts, szs, h2, List.length_cons, Nat.add_one_mul]
      omega
theorem prts_ok {S : Nat} {T : List CelD} (hcut : ∀ c ∈ T, c.cut ≤ S) : ∀ (R : List CelD) (o : Nat), T.drop o = R → ∀ p ∈ prts S o R, PrtOk T S p
  | [], o, _, p, hp => by simp [prts] at hp
  | c :: l, o, h, p, hp => by
    have ho : T[o]? = some c := by
      have : (T.drop o)[0]? = some c := by rw [h]; rfl
      rwa [List.getElem?_drop, Nat.add_zero] at this
    have hd : T.drop (o + 1) = l := by rw [← List.drop_drop, h]; rfl
    have hcc := hcut c (List.mem_of_getElem? ho)
    have key : ∀ x, o * S ≤ x → x < o * S + S → toOf T S x = if x - o * S < c.cut then o else c.oth := by
      intro x h1 h2
      obtain ⟨r, rfl⟩ : ∃ r, x = S * o + r := ⟨x - S * o, by rw [Nat.mul_comm]; omega⟩
      have hr : r < S := by rw [Nat.mul_comm] at h2; omega
      have e1 : (S * o + r) / S = o := by rw [Nat.mul_add_div (by omega), Nat.div_eq_of_lt hr, Nat.add_zero]
      have e2 : (S * o + r) % S = r := by rw [Nat.mul_add_mod, Nat.mod_eq_of_lt hr]
      unfold toOf
      rw [e1, ho, e2, Nat.mul_comm o S, Nat.add_sub_cancel_left]
    rw [prts, List.mem_cons, List.mem_cons] at hp
    rcases hp with rfl | rfl | hp
    · intro x h1 h2
      dsimp only at h1 h2 ⊢
      rw [key x h1 (by omega), if_pos (by omega)]
    · intro x h1 h2
      dsimp only at h1 h2 ⊢
      rw [key x (by omega) (by omega), if_neg (by omega)]
    · exact prts_ok hcut l (o + 1) hd p hp
theorem metN_over {T : List CelD} {S k : Nat} {p : PrtD} (h : PrtOk T S p) : ∀ t, t ≤ p.size → metN T S k (p.draw + t) = metN T S k p.draw + if p.tgt = k then t else 0
  | 0, _ => by simp
  | t + 1, ht => by
    have ih := metN_over (k := k) h t (by omega)
    rw [← Nat.add_assoc, metN, ih, h (p.draw + t) (by omega) (by omega)]
    split <;> omega
/-- The segment of a draw: those ahead of it lie below. -/
theorem sgs_draw {T : List CelD} {S k m0 x : Nat} (hk : toOf T S x = k) : ∀ (R : List PrtD) (a m : Nat), Chn a R → (∀ p ∈ R, PrtOk T S p) → m = m0 + metN T S k a → a ≤ x → x < a + szs R →
    ∃ pre s post, sgs k m R = pre ++ s :: post ∧ (∀ p ∈ pre, p.draw ≤ x ∧ p.size ≤ x - p.draw) ∧ s.draw ≤ x ∧ x - s.draw < s.size ∧ s.num + (x - s.draw) = m0 + metN T S k x
  | [], a, m, _, _, _, h1, h2 => by simp [szs] at h2; omega
  | p :: r, a, m, hc, hok, hm, h1, h2 => by
    have hp := hok p (by simp)
    obtain ⟨rfl, hc2⟩ := hc
    have hall := metN_over (k := k) hp p.size (Nat.le_refl _)
    simp only [szs] at h2
    by_cases hx : x < p.draw + p.size
    · have hto : p.tgt = k := by rw [← hk]; exact (hp x h1 hx).symm
      have := metN_over (k := k) hp (x - p.draw) (by omega)
      rw [show p.draw + (x - p.draw) = x by omega, if_pos hto] at this
      refine ⟨[], ⟨p.draw, m, p.size⟩, sgs k (m + p.size) r, by rw [sgs, if_pos hto]; rfl, by simp, h1, by show x - p.draw < p.size; omega, ?_⟩
      show m + (x - p.draw) = _
      omega
    · by_cases hto : p.tgt = k
      · rw [if_pos hto] at hall
        obtain ⟨pre, s, post, e, e1, e2⟩ := sgs_draw (m0 := m0) hk r (p.draw + p.size) (m + p.size) hc2 (fun q hq => hok q (by simp [hq])) (by omega) (by omega) (by omega)
        refine ⟨⟨p.draw, m, p.size⟩ :: pre, s, post, by rw [sgs, if_pos hto, e]; rfl, fun q hq => ?_, e2⟩
        rcases List.mem_cons.1 hq with rfl | hq
        · exact ⟨h1, by show p.size ≤ x - p.draw; omega⟩
        · exact e1 q hq
      · rw [if_neg hto] at hall
        obtain ⟨pre, s, post, e, e1, e2⟩ := sgs_draw (m0 := m0) hk r (p.draw + p.size) m hc2 (fun q hq => hok q (by simp [hq])) (by omega) (by omega) (by omega)
        exact ⟨pre, s, post, by rw [sgs, if_neg hto, e], e1, e2⟩
/-- The segment of a number. -/
theorem sgs_num {T : List CelD} {S k m0 y : Nat} : ∀ (R : List PrtD) (a m : Nat), Chn a R → (∀ p ∈ R, PrtOk T S p) → m = m0 + metN T S k a → m ≤ y → y < m0 + metN T S k (a + szs R) →
    ∃ pre s post, sgs k m R = pre ++ s :: post ∧ (∀ p ∈ pre, p.num ≤ y ∧ p.size ≤ y - p.num) ∧ s.num ≤ y ∧ y - s.num < s.size ∧ toOf T S (s.draw + (y - s.num)) = k ∧ m0 + metN T S k (s.draw + (y - s.num)) = y ∧ s.draw + s.size ≤ a + szs R
  | [], a, m, _, _, _, h1, h2 => by simp [szs] at h2; omega
  | p :: r, a, m, hc, hok, hm, h1, h2 => by
    have hp := hok p (by simp)
    obtain ⟨rfl, hc2⟩ := hc
    have hall := metN_over (k := k) hp p.size (Nat.le_refl _)
    simp only [szs] at h2 ⊢
    rw [← Nat.add_assoc] at h2 ⊢
    by_cases hto : p.tgt = k
    · rw [if_pos hto] at hall
      by_cases hx : y < m + p.size
      · have := metN_over (k := k) hp (y - m) (by omega)
        rw [if_pos hto] at this
        refine ⟨[], ⟨p.draw, m, p.size⟩, sgs k (m + p.size) r, by rw [sgs, if_pos hto]; rfl, by simp, h1, by show y - m < p.size; omega, ?_, ?_, by show p.draw + p.size ≤ _; omega⟩
        · show toOf T S (p.draw + (y - m)) = k
          rw [hp _ (by omega) (by omega), hto]
        · show m0 + metN T S k (p.draw + (y - m)) = y
          omega
      · obtain ⟨pre, s, post, e, e1, e2⟩ := sgs_num (T := T) (S := S) (k := k) (m0 := m0) (y := y) r (p.draw + p.size) (m + p.size) hc2 (fun q hq => hok q (by simp [hq])) (by omega) (by omega) h2
        refine ⟨⟨p.draw, m, p.size⟩ :: pre, s, post, by rw [sgs, if_pos hto, e]; rfl, fun q hq => ?_, e2⟩
        rcases List.mem_cons.1 hq with rfl | hq
        · exact ⟨h1, by show p.size ≤ y - m; omega⟩
        · exact e1 q hq
    · rw [if_neg hto] at hall
      obtain ⟨pre, s, post, e, e1, e2⟩ := sgs_num (T := T) (S := S) (k := k) (m0 := m0) (y := y) r (p.draw + p.size) m hc2 (fun q hq => hok q (by simp [hq])) (by omega) h1 h2
      exact ⟨pre, s, post, by rw [sgs, if_neg hto, e], e1, e2⟩
/-- All segments of a neighbour. -/
def segsOf (l : List ArcD) (T : List CelD) (k : Nat) : List SgD := sgs k (strt l k) (prts (sumOf l) 0 T)
theorem segs_draw {l : List ArcD} {T : List CelD} {x : Nat} (h : mayT l T = true) (hx : x < l.length * sumOf l) :
    ∃ pre s post, segsOf l T (toOf T (sumOf l) x) = pre ++ s :: post ∧ (∀ p ∈ pre, p.draw ≤ x ∧ p.size ≤ x - p.draw) ∧ s.draw ≤ x ∧ x - s.draw < s.size ∧ s.num + (x - s.draw) = rmp l T x := by
  obtain ⟨hg, hl, hok, hc⟩ := mayT_parts h
  obtain ⟨h1, h2⟩ := prts_chn (sumOf l) T 0 (fun c hc => (hok c hc).1)
  rw [Nat.zero_mul] at h1
  exact sgs_draw (T := T) (S := sumOf l) (m0 := strt l (toOf T (sumOf l) x)) rfl _ 0 _ h1 (prts_ok (fun c hc => (hok c hc).1) T 0 rfl) (by simp [metN]) (Nat.zero_le _) (by rw [h2, hl, Nat.zero_add]; exact hx)
theorem segs_num {l : List ArcD} {T : List CelD} {y k : Nat} (h : mayT l T = true) (hy : Ivl l y k) :
    ∃ pre s post, segsOf l T k = pre ++ s :: post ∧ (∀ p ∈ pre, p.num ≤ y ∧ p.size ≤ y - p.num) ∧ s.num ≤ y ∧ y - s.num < s.size ∧ s.draw + (y - s.num) < l.length * sumOf l ∧ toOf T (sumOf l) (s.draw + (y - s.num)) = k ∧ rmp l T (s.draw + (y - s.num)) = y := by
  obtain ⟨hg, hl, hok, hc⟩ := mayT_parts h
  obtain ⟨h1, h2⟩ := prts_chn (sumOf l) T 0 (fun c hc => (hok c hc).1)
  rw [Nat.zero_mul] at h1
  have hp := List.getElem?_eq_getElem hy.lt
  have hhi := hy.hi
  rw [strt_next hp] at hhi
  obtain ⟨pre, s, post, e, e1, e2, e3, e4, e5, e6⟩ := sgs_num (T := T) (S := sumOf l) (k := k) (m0 := strt l k) (y := y) _ 0 (strt l k) h1 (prts_ok (fun c hc => (hok c hc).1) T 0 rfl) (by simp [metN]) hy.lo (by
    rw [h2, Nat.zero_add, Nat.mul_comm, metN_total (fun c hc => (hok c hc).1), hc _ _ hp]
    exact hhi)
  rw [h2, hl, Nat.zero_add] at e6
  refine ⟨pre, s, post, e, e1, e2, e3, by omega, e4, ?_⟩
  unfold rmp
  rw [e4]
  exact e5
/-- Each number is a draw's. -/
theorem rmp_onto {l : List ArcD} {T : List CelD} {y k : Nat} (h : mayT l T = true) (hy : Ivl l y k) : ∃ x, x < l.length * sumOf l ∧ toOf T (sumOf l) x = k ∧ rmp l T x = y := by
  obtain ⟨_, s, _, _, _, _, _, e1, e2, e3⟩ := segs_num h hy
  exact ⟨_, e1, e2, e3⟩
/-- What is handed on is below the draws. -/
theorem sgs_bound {k : Nat} : ∀ (R : List PrtD) (a m : Nat), Chn a R → ∀ s ∈ sgs k m R, s.draw + s.size ≤ a + szs R ∧ s.num + s.size ≤ m + szs R
  | [], a, m, _, s, hs => by simp [sgs] at hs
  | p :: r, a, m, hc, s, hs => by
    obtain ⟨rfl, hc2⟩ := hc
    rw [sgs] at hs
    simp only [szs]
    split at hs
    · rcases List.mem_cons.1 hs with rfl | hs
      · dsimp only; omega
      · have := sgs_bound r _ _ hc2 s hs; omega
    · have := sgs_bound r _ _ hc2 s hs; omega
theorem segs_bound {l : List ArcD} {T : List CelD} {k : Nat} (h : mayT l T = true) : ∀ s ∈ segsOf l T k, s.draw + s.size ≤ l.length * sumOf l ∧ s.num + s.size ≤ 2 * (l.length * sumOf l) := by
  obtain ⟨hg, hl, hok, hc⟩ := mayT_parts h
  obtain ⟨h1, h2⟩ := prts_chn (sumOf l) T 0 (fun c hc => (hok c hc).1)
  rw [Nat.zero_mul] at h1
  intro s hs
  have := sgs_bound _ _ _ h1 s hs
  rw [h2, hl, Nat.zero_add] at this
  have := strt_le l k
  omega
end Go.Proofs.Ytoflbfkmkalgcaa
