/- The ends of a text's lines, the lines between them: plain mathematics. -/
import Derived.Test.YtbedepnmgnlijaaDoorTx
namespace Go.Proofs.YtbedepnmgnlijaaDoor.Tx

/-- Where the lines end: of what is left of a text at k; does the line hold a byte already? -/
def endsS : Nat → Bool → List UInt8 → List Nat
  | k, c, [] => if c then [k] else []
  | k, _, u :: l => if u = 10 then k :: endsS (k + 1) false l else endsS (k + 1) true l
/-- Where the line behind some ends begins. -/
def stOf : Nat → List Nat → Nat
  | s, [] => s
  | _, e :: r => stOf (e + 1) r
theorem stOf_append : ∀ (a b : List Nat) (s : Nat), stOf s (a ++ b) = stOf (stOf s a) b
  | [], _, _ => rfl
  | _ :: a, b, _ => stOf_append a b _
theorem stOf_snoc (a : List Nat) (e s : Nat) : stOf s (a ++ [e]) = e + 1 := by rw [stOf_append]; rfl
/-- The bytes from s to e. -/
def cutB (l : List UInt8) (s e : Nat) : List UInt8 := (l.drop s).take (e - s)
/-- The lines between ends. -/
def cutS (l : List UInt8) : Nat → List Nat → List (List UInt8)
  | _, [] => []
  | s, e :: r => cutB l s e :: cutS l (e + 1) r
theorem cutS_append (l : List UInt8) : ∀ (a b : List Nat) (s : Nat), cutS l s (a ++ b) = cutS l s a ++ cutS l (stOf s a) b
  | [], _, _ => rfl
  | e :: a, b, s => by rw [List.cons_append, cutS, cutS, cutS_append l a b]; rfl
theorem cutS_length (l : List UInt8) : ∀ (a : List Nat) (s : Nat), (cutS l s a).length = a.length
  | [], _ => rfl
  | e :: a, s => by rw [cutS, List.length_cons, cutS_length l a, List.length_cons]
theorem ends_ok : ∀ {r : List UInt8} {k s : Nat} {c : Bool} {pre post : List Nat} {e : Nat}, endsS k c r = pre ++ e :: post → s ≤ k → stOf s pre ≤ e ∧ e ≤ k + r.length
  | [], k, s, c, pre, post, e, h, hs => by
    cases c with
    | false => simp [endsS] at h
    | true =>
      cases pre with
      | nil => simp [endsS] at h; obtain ⟨rfl, -⟩ := h; exact ⟨hs, by simp⟩
      | cons x pre => simp [endsS] at h
  | u :: r, k, s, c, pre, post, e, h, hs => by
    rw [endsS] at h
    split at h
    · cases pre with
      | nil =>
        injection h with h1 h2
        subst h1
        exact ⟨hs, by simp⟩
      | cons x pre =>
        rw [List.cons_append] at h
        injection h with h1 h2
        subst h1
        have := ends_ok (s := k + 1) h2 (Nat.le_refl _)
        simp only [stOf, List.length_cons]
        omega
    · have := ends_ok (s := s) h (by omega)
      simp only [List.length_cons]
      omega
theorem ends_lt : ∀ {r : List UInt8} {k s : Nat} {c : Bool} {pre post : List Nat} {e : Nat}, endsS k c r = pre ++ e :: post → s ≤ k → (c = true → s < k) → stOf s pre < k + r.length
  | [], k, s, c, pre, post, e, h, hs, hc => by
    cases c with
    | false => simp [endsS] at h
    | true =>
      cases pre with
      | nil => have := hc rfl; simp [stOf]; exact this
      | cons x pre => simp [endsS] at h
  | u :: r, k, s, c, pre, post, e, h, hs, hc => by
    rw [endsS] at h
    split at h
    · cases pre with
      | nil => simp [stOf]; omega
      | cons x pre =>
        rw [List.cons_append] at h
        injection h with h1 h2
        subst h1
        have := ends_lt (s := k + 1) h2 (Nat.le_refl _) (fun h => by cases h)
        simp only [stOf, List.length_cons]
        omega
    · have := ends_lt (s := s) h (by omega) (fun _ => by omega)
      simp only [List.length_cons]
      omega
theorem ends_len : ∀ (r : List UInt8) (k : Nat) (c : Bool), (endsS k c r).length ≤ r.length + 1
  | [], k, c => by cases c <;> simp [endsS]
  | u :: r, k, c => by
    rw [endsS]
    split
    · have := ends_len r (k + 1) false; rw [List.length_cons, List.length_cons]; omega
    · have := ends_len r (k + 1) true; rw [List.length_cons]; omega
theorem cutB_length (l : List UInt8) (s e : Nat) (h : e ≤ l.length) : (cutB l s e).length = e - s := by
  unfold cutB
  rw [List.length_take, List.length_drop]
  omega
theorem take_one {l : List UInt8} {k s : Nat} {u : UInt8} {r : List UInt8} (h : l.drop k = u :: r) (hs : s ≤ k) : cutB l s (k + 1) = cutB l s k ++ [u] := by
  unfold cutB
  rw [show k + 1 - s = (k - s) + 1 by omega]
  have hu : (l.drop s)[k - s]? = some u := by
    have := congrArg (fun m => m[0]?) h
    simp only [List.getElem?_drop, List.getElem?_cons_zero] at this
    rw [List.getElem?_drop, show s + (k - s) = k + 0 by omega]
    exact this
  rw [List.take_add_one, hu]
  rfl
theorem lines_ends (l : List UInt8) : ∀ (r : List UInt8) (k s : Nat), l.drop k = r → s ≤ k → k ≤ l.length → linesG (cutB l s k) r = cutS l s (endsS k (decide (s < k)) r)
  | [], k, s, h, hs, hk => by
    have hl : l.length ≤ k := List.drop_eq_nil_iff.1 h
    rw [linesG, endsS]
    by_cases e : s < k
    · have : cutB l s k ≠ [] := fun e2 => by
        have := congrArg List.length e2
        unfold cutB at this
        simp at this
        omega
      rw [if_neg this]
      simp [e, cutS]
    · have : s = k := by omega
      subst this
      simp [cutB, cutS]
  | u :: r, k, s, h, hs, hk => by
    have hr : l.drop (k + 1) = r := by
      have := congrArg (List.drop 1) h
      simpa [List.drop_drop, Nat.add_comm] using this
    have hlt : k < l.length := by
      have := congrArg List.length h
      simp at this
      omega
    rw [linesG, endsS]
    by_cases e : u = 10
    · rw [if_pos e, if_pos e, cutS]
      have := lines_ends l r (k + 1) (k + 1) hr (Nat.le_refl _) hlt
      rw [show cutB l (k + 1) (k + 1) = [] by simp [cutB]] at this
      rw [this]
      simp
    · rw [if_neg e, if_neg e, ← take_one h hs]
      have := lines_ends l r (k + 1) s hr (by omega) hlt
      rw [this, show decide (s < k + 1) = true by simp; omega]
/-- A text's ends; its lines lie between them. -/
theorem lines_eq (l : List UInt8) : linesG [] l = cutS l 0 (endsS 0 false l) := by
  have := lines_ends l l 0 0 rfl (Nat.le_refl _) (Nat.zero_le _)
  simpa [cutB] using this
/-- Lines with their numbers. -/
def numG : Nat → List (List UInt8) → List (Nat × List UInt8)
  | _, [] => []
  | k, x :: r => (k, x) :: numG (k + 1) r
theorem numG_append : ∀ (a b : List (List UInt8)) (k : Nat), numG k (a ++ b) = numG k a ++ numG (k + a.length) b
  | [], b, k => by simp [numG]
  | x :: a, b, k => by
    rw [List.cons_append, numG, numG, numG_append a b, List.cons_append, List.length_cons, show k + 1 + a.length = k + (a.length + 1) by omega]
theorem numG_length : ∀ (a : List (List UInt8)) (k : Nat), (numG k a).length = a.length
  | [], _ => rfl
  | x :: a, k => by rw [numG, List.length_cons, List.length_cons, numG_length a]
theorem numG_at {k : Nat} {a : List (List UInt8)} {pre post : List (Nat × List UInt8)} {x : Nat × List UInt8} (h : numG k a = pre ++ x :: post) : x.1 = k + pre.length ∧ a[pre.length]? = some x.2 := by
  induction pre generalizing k a with
  | nil =>
    cases a with
    | nil => simp [numG] at h
    | cons y a =>
      rw [numG, List.nil_append] at h
      injection h with h1 h2
      subst h1
      simp
  | cons y pre ih =>
    cases a with
    | nil => simp [numG] at h
    | cons z a =>
      rw [numG, List.cons_append] at h
      injection h with h1 h2
      obtain ⟨h3, h4⟩ := ih h2
      simp only [List.length_cons, List.getElem?_cons_succ]
      exact ⟨by omega, h4⟩
end Go.Proofs.YtbedepnmgnlijaaDoor.Tx
