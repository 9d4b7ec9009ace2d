/- Edges' texts joined, with notes among them, printed: plain mathematics. -/
import Derived.Test.YtniffijjdehnaaaEdP
namespace Go.Proofs.Ytniffijjdehnaaa.Ed
open Tx

/-- A text behind one that ends with a line feed. -/
theorem linesG_join : ∀ (a c r : List UInt8), linesG c (a ++ 10 :: r) = linesG c (a ++ [10]) ++ linesG [] r
  | [], c, r => by simp [linesG]
  | u :: a, c, r => by
    by_cases h : u = 10
    · rw [List.cons_append, List.cons_append, linesG, linesG, if_pos h, if_pos h, linesG_join a [] r]
      rfl
    · rw [List.cons_append, List.cons_append, linesG, linesG, if_neg h, if_neg h, linesG_join a _ r]
/-- How many line feeds there are. -/
def feeds : List UInt8 → Nat
  | [] => 0
  | u :: l => (if u = 10 then 1 else 0) + feeds l
theorem feeds_append : ∀ (a b : List UInt8), feeds (a ++ b) = feeds a + feeds b
  | [], b => by simp [feeds]
  | u :: a, b => by rw [List.cons_append, feeds, feeds, feeds_append a b, Nat.add_assoc]
theorem feeds_le : ∀ a : List UInt8, feeds a ≤ a.length
  | [] => by simp [feeds]
  | u :: a => by
    have := feeds_le a
    rw [feeds, List.length_cons]
    split <;> omega
theorem linesG_feeds : ∀ (a c : List UInt8), (linesG c (a ++ [10])).length = feeds (a ++ [10])
  | [], c => by simp [linesG, feeds]
  | u :: a, c => by
    by_cases h : u = 10
    · rw [List.cons_append, linesG, if_pos h, feeds, if_pos h, List.length_cons, linesG_feeds a []]
      omega
    · rw [List.cons_append, linesG, if_neg h, feeds, if_neg h, linesG_feeds a _]
      omega

/-- What is read of a text's lines, of at most so many edges. -/
def readM (most : Nat) (k : Nat) (acc : List EdD) : List (List UInt8) → List EdD × Nat × Int
  | [] => (acc, 0, 0)
  | l :: ls => if (oneS l).2.2 ≠ 0 then ([], k + 1, (oneS l).2.2)
    else if (oneS l).2.1 then (if most ≤ acc.length then ([], k + 1, 4) else readM most (k + 1) (acc ++ [(oneS l).1]) ls)
    else readM most (k + 1) acc ls
theorem readM_eq {most : Nat} : ∀ (ls : List (List UInt8)) (k : Nat) (acc : List EdD), acc.length + ls.length ≤ most → readM most k acc ls = readG k acc ls
  | [], k, acc, _ => by rw [readM, readG_nil]
  | l :: ls, k, acc, h => by
    rw [List.length_cons] at h
    rw [readM]
    by_cases h0 : (oneS l).2.2 = 0
    · rw [if_neg (by rw [h0]; simp)]
      cases h1 : (oneS l).2.1 with
      | true =>
        rw [if_pos rfl, if_neg (by omega), readG_one h0 h1, readM_eq ls _ _ (by rw [List.length_append]; simp; omega)]
      | false =>
        rw [if_neg (by simp), readG_no h0 h1, readM_eq ls _ _ (by omega)]
    · rw [if_pos h0, readG_bad h0]
/-- What is read of a text. -/
def readB (b : List UInt8) : List EdD × Nat × Int := if 1048576 < b.length then ([], 0, 4) else readM 65536 0 [] (linesG [] b)
theorem linesG_length : ∀ (b c : List UInt8), (linesG c b).length ≤ b.length + 1
  | [], c => by rw [linesG]; split <;> simp
  | u :: b, c => by
    rw [linesG]
    split
    · have := linesG_length b []
      simp; omega
    · have := linesG_length b (c ++ [u])
      simp; omega
theorem readB_eq {b : List UInt8} (h : b.length ≤ 65535) : readB b = readG 0 [] (linesG [] b) := by
  unfold readB
  rw [if_neg (by omega)]
  exact readM_eq _ _ _ (by have := linesG_length b []; simp; omega)
theorem readB_eq' {b : List UInt8} (h : b.length ≤ 1048576) (hl : (linesG [] b).length ≤ 65536) : readB b = readG 0 [] (linesG [] b) := by
  unfold readB
  rw [if_neg (by omega)]
  exact readM_eq _ _ _ (by simpa using hl)
theorem readB_long {b : List UInt8} (h : 1048576 < b.length) : readB b = ([], 0, 4) := by
  unfold readB
  rw [if_pos h]

/-- What is printed. -/
def printS (es : List EdD) : List UInt8 := joinL (es.map lineS)
theorem printS_nil : printS [] = [] := rfl
theorem printS_append (a b : List EdD) : printS (a ++ b) = printS a ++ printS b := by unfold printS; rw [List.map_append, joinL_append]
theorem printS_one (e : EdD) : printS [e] = lineS e ++ [10] := rfl
theorem printS_snoc (a : List EdD) (e : EdD) : printS (a ++ [e]) = printS a ++ (lineS e ++ [10]) := by rw [printS_append, printS_one]
theorem lines_print (es : List EdD) : linesG [] (printS es) = es.map lineS := lines_join fun l hl => by
  obtain ⟨e, _, rfl⟩ := List.mem_map.1 hl
  exact lineS_plain e
/-- Numbers that an edge can have. -/
def Fits (e : EdD) : Prop := e.src < 4294967296 ∧ e.dst < 4294967296 ∧ e.wgt < 4294967296
/-- A weight that may be. -/
def mayB (e : EdD) : Bool := decide (1 ≤ e.wgt) && decide (e.wgt ≤ 2147483647)
theorem mayB_iff {e : EdD} : mayB e = true ↔ 1 ≤ e.wgt ∧ e.wgt ≤ 2147483647 := by simp [mayB]
theorem one_may {e : EdD} (hf : Fits e) (h : mayB e = true) : oneS (lineS e) = (e, true, 0) := by
  rw [oneS_line (by have := hf.1; omega) (by have := hf.2.1; omega), if_pos (mayB_iff.1 h)]
theorem one_not {e : EdD} (hf : Fits e) (h : mayB e = false) : oneS (lineS e) = (noEd, false, 9) := by
  rw [oneS_line (by have := hf.1; omega) (by have := hf.2.1; omega), if_neg (fun q => by rw [mayB_iff.2 q] at h; cases h)]
theorem read_print : ∀ (es : List EdD), (∀ e ∈ es, Fits e) → ∀ (k : Nat) (acc : List EdD),
    (es.all mayB = true → readG k acc (es.map lineS) = (acc ++ es, 0, 0)) ∧ (es.all mayB = false → ∃ n, readG k acc (es.map lineS) = ([], n, 9) ∧ k < n ∧ n ≤ k + es.length)
  | [], _, k, acc => ⟨fun _ => by simp [readG_nil], fun h => by simp at h⟩
  | e :: es, hf, k, acc => by
    have ih := read_print es (fun x hx => hf x (by simp [hx]))
    cases hm : mayB e with
    | true =>
      have h1 := one_may (hf e (by simp)) hm
      obtain ⟨ha, hb⟩ := ih (k + 1) (acc ++ [e])
      have hs : readG k acc ((e :: es).map lineS) = readG (k + 1) (acc ++ [e]) (es.map lineS) := by
        rw [List.map_cons, readG_one (by rw [h1]) (by rw [h1]), h1]
      rw [hs, List.all_cons, hm, Bool.true_and]
      refine ⟨fun h => ?_, fun h => ?_⟩
      · rw [ha h]; simp
      · obtain ⟨n, hn, h3, h4⟩ := hb h
        exact ⟨n, hn, by omega, by simp; omega⟩
    | false =>
      have h1 := one_not (hf e (by simp)) hm
      rw [List.all_cons, hm, Bool.false_and]
      refine ⟨fun h => (by cases h), fun _ => ⟨k + 1, ?_, by omega, by simp⟩⟩
      rw [List.map_cons, readG_bad (by rw [h1]; simp), h1]
theorem lineS_length {e : EdD} (h : Fits e) : (lineS e).length ≤ 62 := by
  have h1 := putN_length (n := e.src) (by have := h.1; omega)
  have h2 := putN_length (n := e.dst) (by have := h.2.1; omega)
  have h3 := putN_length (n := e.wgt) (by have := h.2.2; omega)
  unfold lineS
  simp
  omega
theorem printS_length : ∀ {es : List EdD}, (∀ e ∈ es, Fits e) → (printS es).length ≤ 63 * es.length
  | [], _ => by simp [printS, joinL]
  | e :: es, h => by
    have h1 := lineS_length (h e (by simp))
    have h2 := printS_length (es := es) fun x hx => h x (by simp [hx])
    have h3 : (printS (e :: es)).length = (lineS e).length + ((printS es).length + 1) := by
      show (lineS e ++ 10 :: printS es).length = _
      simp
    rw [h3, List.length_cons]
    omega

/-- A note without its line feeds. -/
def strip : List UInt8 → List UInt8
  | [] => []
  | u :: l => if u = 10 then strip l else u :: strip l
theorem strip_append : ∀ (a b : List UInt8), strip (a ++ b) = strip a ++ strip b
  | [], b => rfl
  | u :: a, b => by
    rw [List.cons_append, strip, strip, strip_append a b]
    split <;> rfl
theorem strip_plain : ∀ (a : List UInt8), Plain (strip a)
  | [] => fun u hu => by simp [strip] at hu
  | u :: a => by
    rw [strip]
    by_cases h : u = 10
    · rw [if_pos h]; exact strip_plain a
    · rw [if_neg h]
      intro v hv
      rcases List.mem_cons.1 hv with rfl | hv
      · exact h
      · exact strip_plain a v hv
theorem strip_length : ∀ (a : List UInt8), (strip a).length ≤ a.length
  | [] => by simp [strip]
  | u :: a => by
    have := strip_length a
    rw [strip]
    split <;> simp <;> omega
/-- A note's two lines. -/
def noteL (n : List UInt8) : List (List UInt8) := [32 :: 9 :: 35 :: strip n, [32]]
def edgeL (e : EdD) : List (List UInt8) := [9 :: 32 :: lineS e]
/-- The lines of edges with notes among them. -/
def mixL : List EdD → List (List UInt8) → List (List UInt8)
  | [], [] => []
  | [], n :: ns => noteL n ++ mixL [] ns
  | e :: es, [] => edgeL e ++ mixL es []
  | e :: es, n :: ns => noteL n ++ (edgeL e ++ mixL es ns)
theorem wordsG_head : ∀ (l : List UInt8) (u : UInt8) (c : List UInt8), ∃ d r, wordsG (u :: c) l = (u :: d) :: r
  | [], u, c => ⟨c, [], by rw [wordsG, if_neg (by simp)]⟩
  | v :: l, u, c => by
    rw [wordsG]
    cases blankB v with
    | true => exact ⟨c, wordsG [] l, by simp⟩
    | false =>
      obtain ⟨d, r, h⟩ := wordsG_head l u (c ++ [v])
      exact ⟨d, r, by simpa using h⟩
theorem one_note (s : List UInt8) : oneS (32 :: 9 :: 35 :: s) = (noEd, false, 0) := by
  obtain ⟨d, r, h⟩ := wordsG_head s 35 []
  have h1 : wordsG [] (32 :: 9 :: 35 :: s) = (35 :: d) :: r := by
    rw [wordsG, if_pos (by decide), if_pos rfl, wordsG, if_pos (by decide), if_pos rfl, wordsG, if_neg (by decide)]
    exact h
  exact oneS_note h1 rfl
theorem one_blank : oneS [32] = (noEd, false, 0) := oneS_blank (by rw [wordsG, if_pos (by decide), if_pos rfl]; rfl)
theorem one_behind (l : List UInt8) : oneS (9 :: 32 :: l) = oneS l := by
  unfold oneS
  rw [wordsG, if_pos (by decide), if_pos rfl, wordsG, if_pos (by decide), if_pos rfl]
theorem plain_note (n : List UInt8) : ∀ l ∈ noteL n, Plain l := fun l hl => by
  rcases List.mem_cons.1 hl with rfl | hl
  · intro u hu
    simp only [List.mem_cons] at hu
    rcases hu with rfl | rfl | rfl | hu
    · decide
    · decide
    · decide
    · exact strip_plain n u hu
  · rw [List.mem_singleton.1 hl]
    intro u hu
    rw [List.mem_singleton.1 hu]
    decide
theorem plain_edge (e : EdD) : ∀ l ∈ edgeL e, Plain l := fun l hl => by
  rw [List.mem_singleton.1 hl]
  intro u hu
  simp only [List.mem_cons] at hu
  rcases hu with rfl | rfl | hu
  · decide
  · decide
  · exact lineS_plain e u hu
theorem mixL_plain : ∀ (es : List EdD) (ns : List (List UInt8)), ∀ l ∈ mixL es ns, Plain l
  | [], [] => fun l hl => by simp [mixL] at hl
  | [], n :: ns => fun l hl => by
    rw [mixL] at hl
    rcases List.mem_append.1 hl with h | h
    · exact plain_note n l h
    · exact mixL_plain [] ns l h
  | e :: es, [] => fun l hl => by
    rw [mixL] at hl
    rcases List.mem_append.1 hl with h | h
    · exact plain_edge e l h
    · exact mixL_plain es [] l h
  | e :: es, n :: ns => fun l hl => by
    rw [mixL] at hl
    rcases List.mem_append.1 hl with h | h
    · exact plain_note n l h
    · rcases List.mem_append.1 h with h | h
      · exact plain_edge e l h
      · exact mixL_plain es ns l h
theorem read_note (n : List UInt8) (ls : List (List UInt8)) (k : Nat) (acc : List EdD) : readG k acc (noteL n ++ ls) = readG (k + 2) acc ls := by
  show readG k acc ((32 :: 9 :: 35 :: strip n) :: [32] :: ls) = _
  rw [readG_no (by rw [one_note]) (by rw [one_note]), readG_no (by rw [one_blank]) (by rw [one_blank])]
theorem read_edge {e : EdD} (hf : Fits e) (h : mayB e = true) (ls : List (List UInt8)) (k : Nat) (acc : List EdD) : readG k acc (edgeL e ++ ls) = readG (k + 1) (acc ++ [e]) ls := by
  have h1 := one_may hf h
  show readG k acc ((9 :: 32 :: lineS e) :: ls) = _
  rw [readG_one (by rw [one_behind, h1]) (by rw [one_behind, h1]), one_behind, h1]
theorem read_mix : ∀ (es : List EdD) (ns : List (List UInt8)), (∀ e ∈ es, Fits e) → es.all mayB = true → ∀ (k : Nat) (acc : List EdD) (ls : List (List UInt8)),
    readG k acc (mixL es ns ++ ls) = readG (k + (mixL es ns).length) (acc ++ es) ls
  | [], [], _, _, k, acc, ls => by simp [mixL]
  | [], n :: ns, hf, hm, k, acc, ls => by
    rw [mixL, List.append_assoc, read_note, read_mix [] ns hf hm, List.length_append]
    congr 1
    show k + 2 + _ = k + (2 + _)
    omega
  | e :: es, [], hf, hm, k, acc, ls => by
    rw [List.all_cons, Bool.and_eq_true] at hm
    rw [mixL, List.append_assoc, read_edge (hf e (by simp)) hm.1, read_mix es [] (fun x hx => hf x (by simp [hx])) hm.2, List.length_append]
    congr 1
    · show k + 1 + _ = k + (1 + _)
      omega
    · simp
  | e :: es, n :: ns, hf, hm, k, acc, ls => by
    rw [List.all_cons, Bool.and_eq_true] at hm
    rw [mixL, List.append_assoc, read_note, List.append_assoc, read_edge (hf e (by simp)) hm.1, read_mix es ns (fun x hx => hf x (by simp [hx])) hm.2, List.length_append, List.length_append]
    congr 1
    · show k + 2 + 1 + _ = k + (2 + (1 + _))
      omega
    · simp
theorem joinL_length : ∀ (ls : List (List UInt8)) (m : Nat), (∀ l ∈ ls, l.length ≤ m) → (joinL ls).length ≤ (m + 1) * ls.length
  | [], m, _ => by simp [joinL]
  | l :: ls, m, h => by
    have h1 := h l (by simp)
    have h2 := joinL_length ls m fun x hx => h x (by simp [hx])
    rw [joinL, List.length_append, List.length_cons, List.length_cons, Nat.mul_add]
    omega
theorem mixL_short : ∀ (es : List EdD) (ns : List (List UInt8)), (∀ e ∈ es, Fits e) → (∀ n ∈ ns, n.length ≤ 100) → ∀ l ∈ mixL es ns, l.length ≤ 103 := by
  have hn : ∀ n : List UInt8, n.length ≤ 100 → ∀ l ∈ noteL n, l.length ≤ 103 := fun n h l hl => by
    have := strip_length n
    rcases List.mem_cons.1 hl with rfl | hl
    · simp only [List.length_cons]; omega
    · rw [List.mem_singleton.1 hl]; simp
  have he : ∀ e : EdD, Fits e → ∀ l ∈ edgeL e, l.length ≤ 103 := fun e h l hl => by
    have := lineS_length h
    rw [List.mem_singleton.1 hl]
    simp only [List.length_cons]; omega
  intro es ns
  induction es generalizing ns with
  | nil =>
    induction ns with
    | nil => intro _ _ l hl; simp [mixL] at hl
    | cons n ns ih =>
      intro hf hs l hl
      rw [mixL] at hl
      rcases List.mem_append.1 hl with h | h
      · exact hn n (hs n (by simp)) l h
      · exact ih hf (fun x hx => hs x (by simp [hx])) l h
  | cons e es ih =>
    intro hf hs l hl
    cases ns with
    | nil =>
      rw [mixL] at hl
      rcases List.mem_append.1 hl with h | h
      · exact he e (hf e (by simp)) l h
      · exact ih [] (fun x hx => hf x (by simp [hx])) (fun x hx => by simp at hx) l h
    | cons n ns =>
      rw [mixL] at hl
      rcases List.mem_append.1 hl with h | h
      · exact hn n (hs n (by simp)) l h
      · rcases List.mem_append.1 h with h | h
        · exact he e (hf e (by simp)) l h
        · exact ih ns (fun x hx => hf x (by simp [hx])) (fun x hx => hs x (by simp [hx])) l h
theorem mixL_count : ∀ (es : List EdD) (ns : List (List UInt8)), (mixL es ns).length = es.length + 2 * ns.length
  | [], [] => by simp [mixL]
  | [], n :: ns => by
    rw [mixL, List.length_append, mixL_count [] ns]
    show 2 + _ = _
    simp; omega
  | e :: es, [] => by
    rw [mixL, List.length_append, mixL_count es []]
    show 1 + _ = _
    simp; omega
  | e :: es, n :: ns => by
    rw [mixL, List.length_append, List.length_append, mixL_count es ns]
    show 2 + (1 + _) = _
    simp; omega
/-- What is read of edges with notes among them, and of a line behind them that is none. -/
theorem read_passed {es : List EdD} {ns : List (List UInt8)} (hf : ∀ e ∈ es, Fits e) (hm : es.all mayB = true) (hs : ∀ n ∈ ns, n.length ≤ 100) (hl : es.length ≤ 100) (hn : ns.length ≤ 100) :
    readB (joinL (mixL es ns)) = (es, 0, 0) ∧ readB (joinL (mixL es ns) ++ [49, 32, 120]) = ([], (mixL es ns).length + 1, 3) := by
  have h1 := joinL_length (mixL es ns) 103 (mixL_short es ns hf hs)
  have h2 := mixL_count es ns
  have h3 : linesG [] (joinL (mixL es ns)) = mixL es ns := lines_join (mixL_plain es ns)
  constructor
  · rw [readB_eq (by omega), h3]
    have := read_mix es ns hf hm 0 [] []
    rw [List.append_nil] at this
    rw [this, readG_nil]
    rfl
  · rw [readB_eq (by simp; omega)]
    have h4 : ∀ (ls : List (List UInt8)), (∀ l ∈ ls, Plain l) → linesG [] (joinL ls ++ [49, 32, 120]) = ls ++ [[49, 32, 120]] := by
      intro ls
      induction ls with
      | nil => intro _; decide
      | cons l ls ih =>
        intro h
        rw [joinL, List.append_assoc, List.cons_append, linesG_cut (h l (by simp)), ih fun x hx => h x (by simp [hx])]
        rfl
    rw [h4 _ (mixL_plain es ns), read_mix es ns hf hm 0 [] [[49, 32, 120]]]
    have h5 : oneS [49, 32, 120] = (noEd, false, 3) := by decide
    rw [readG_bad (by rw [h5]; simp), h5]
    simp
/-- What is read of two texts, the first one with a line feed behind it. -/
theorem read_joins {a b : List UInt8} (ha : a.length ≤ 2000) (hb : b.length ≤ 2000) :
    readB ((a ++ [10]) ++ b) = if (readB (a ++ [10])).2.2 ≠ 0 then readB (a ++ [10]) else if (readB b).2.2 ≠ 0 then ([], feeds (a ++ [10]) + (readB b).2.1, (readB b).2.2) else ((readB (a ++ [10])).1 ++ (readB b).1, 0, 0) := by
  rw [readB_eq (b := a ++ [10] ++ b) (by simp; omega), readB_eq (b := a ++ [10]) (by simp; omega), readB_eq (b := b) (by omega)]
  have h1 : linesG [] (a ++ [10] ++ b) = linesG [] (a ++ [10]) ++ linesG [] b := by
    rw [List.append_assoc]
    exact linesG_join a [] b
  rw [h1]
  by_cases h0 : (readG 0 [] (linesG [] (a ++ [10]))).2.2 = 0
  · rw [if_neg (by rw [h0]; simp), readG_append _ _ _ _ h0, readG_acc, linesG_feeds]
    by_cases h2 : (readG 0 [] (linesG [] b)).2.2 = 0
    · rw [if_pos h2, if_neg (by rw [h2]; simp)]
    · rw [if_neg h2, if_pos h2]
      simp
  · rw [if_pos h0, readG_stop _ _ _ _ h0]
end Go.Proofs.Ytniffijjdehnaaa.Ed
