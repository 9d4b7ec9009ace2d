/- Tables of draws in memory: rows of numbers of 64 bits, of cells; a table that is being built. -/
import Derived.Test.YtoflbfkmkalgcaaAlP
import Derived.Test.YtoflbfkmkalgcaaRefMay
import Derived.Test.YtoflbfkmkalgcaaApB
namespace Go.Proofs.Ytoflbfkmkalgcaa
open Go.RowKit Me Va Al

theorem own_putS {w : World} {base n c i sz : Nat} {e : TypeId} {A : Option Addr} {xs : List Value} {v : Value} (h : w.ownsRow base e sz (.slice A n c) n xs) (hi : i < n * sz) :
    ∃ g, A = some ⟨g, 0, none⟩ ∧ base ≤ g ∧ g < w.heap.size ∧ w.cell? ⟨g, i, none⟩ = xs[i]? ∧ w.frozen? ⟨g, i, none⟩ = false ∧ (w.setCell ⟨g, i, none⟩ v).ownsRow base e sz (.slice A n c) n (xs.set i v) := by
  have hl := h.1
  rcases h.2 with ⟨e1, h1⟩ | ⟨g, cap, cur, e1, hb, hh, h1, h2, h3, h4⟩
  · subst h1; rw [Nat.zero_mul] at hi; omega
  · injection e1 with e1 e2 e3
    subst e1 e3
    have hb' : Blk w g cur.toList := ⟨e, by rw [hh]⟩
    have hx : xs[i]? = cur.toList[i]? := by rw [← h4, List.getElem?_take, if_pos hi]
    have hlt : i < cur.toList.length := by
      have := congrArg List.length h4
      rw [List.length_take, hl] at this
      omega
    refine ⟨g, rfl, hb, hb'.lt, ?_, hb'.frozen i, ?_⟩
    · rw [hx, List.getElem?_eq_getElem hlt]
      exact hb'.cell (List.getElem?_eq_getElem hlt)
    · exact (h.stored i v).1
/-- The cells of numbers. -/
def uCells (L : List Nat) : List Value := L.map fun (x : Nat) => .int .u64 (x : Int)
theorem uCells_length (L : List Nat) : (uCells L).length = L.length := by simp [uCells]
theorem uCells_append (L M : List Nat) : uCells (L ++ M) = uCells L ++ uCells M := by simp [uCells]
/-- The cells of a table's cells. -/
def cCells : List CelD → List Value
  | [] => []
  | c :: l => .int .u64 (c.cut : Int) :: .int .u32 (c.oth : Int) :: cCells l
theorem cCells_length : ∀ l : List CelD, (cCells l).length = l.length * 2
  | [] => rfl
  | c :: l => by simp only [cCells, List.length_cons, cCells_length l]; omega
theorem cCells_append : ∀ l m : List CelD, cCells (l ++ m) = cCells l ++ cCells m
  | [], m => rfl
  | c :: l, m => by simp only [cCells, List.cons_append, cCells_append l m]
theorem cCells_get : ∀ {l : List CelD} {k : Nat} {c : CelD}, l[k]? = some c → (cCells l)[k * 2]? = some (.int .u64 (c.cut : Int)) ∧ (cCells l)[k * 2 + 1]? = some (.int .u32 (c.oth : Int))
  | [], k, c, h => by simp at h
  | d :: l, 0, c, h => by
    simp at h
    subst h
    exact ⟨rfl, rfl⟩
  | d :: l, k + 1, c, h => by
    have := cCells_get (l := l) (k := k) (c := c) (by simpa using h)
    rw [show (k + 1) * 2 = k * 2 + 1 + 1 by omega]
    simpa only [cCells, List.getElem?_cons_succ] using this
theorem cCells_set : ∀ (l : List CelD) (i : Nat) (c : CelD), ((cCells l).set (i * 2) (.int .u64 (c.cut : Int))).set (i * 2 + 1) (.int .u32 (c.oth : Int)) = cCells (l.set i c)
  | [], i, c => by simp [cCells]
  | d :: l, 0, c => by simp [cCells]
  | d :: l, i + 1, c => by
    rw [show (i + 1) * 2 = i * 2 + 1 + 1 by omega, List.set_cons_succ, cCells, cCells, ← cCells_set l i c]
    simp only [List.set_cons_succ]
theorem cCells_one {l : List CelD} : ∀ v ∈ cCells l, v.oneCell' = true := by
  induction l with
  | nil => intro v h; simp [cCells] at h
  | cons c l ih =>
    intro v h
    simp only [cCells, List.mem_cons] at h
    rcases h with rfl | rfl | h
    · rfl
    · rfl
    · exact ih v h
theorem uCells_one {L : List Nat} : ∀ v ∈ uCells L, v.oneCell' = true := by
  intro v h
  unfold uCells at h
  obtain ⟨x, -, rfl⟩ := List.mem_map.1 h
  rfl
/-- Numbers in a row of one's own. -/
structure UAt (w : World) (base : Nat) (a0 : Addr) (n c : Nat) (L : List Nat) : Prop where
  own : w.ownsRow base 24 1 (.slice (some a0) n c) n (uCells L)
theorem UAt.len {w : World} {base n c : Nat} {a0 : Addr} {L : List Nat} (h : UAt w base a0 n c L) : L.length = n := by
  have := h.own.1
  rw [uCells_length] at this
  omega
theorem UAt.past {w w' : World} {base n c : Nat} {a0 : Addr} {L : List Nat} (h : UAt w base a0 n c L) (hb : Below w.heap.size w w') : UAt w' base a0 n c L := ⟨own_below' h.own hb⟩
theorem add_zero_off (g i : Nat) : (⟨g, 0, none⟩ : Addr).add i = ⟨g, i, none⟩ := by simp [Addr.add]; omega
theorem UAt.get {w : World} {base n c : Nat} {a0 : Addr} {L : List Nat} (h : UAt w base a0 n c L) {i : Nat} (hi : i < n) : w.cell? (a0.add i) = some (.int .u64 (gt L i : Int)) ∧ w.frozen? (a0.add i) = false ∧ base ≤ a0.block ∧ a0.block < w.heap.size := by
  obtain ⟨g, hg, hb, hw, hc, hf, -⟩ := own_putS (v := undef) h.own (i := i) (by omega)
  injection hg with hg
  subst hg
  rw [add_zero_off]
  refine ⟨hc.trans ?_, hf, hb, hw⟩
  unfold uCells
  rw [List.getElem?_map, gt_get (by rw [h.len]; exact hi)]
  rfl
theorem UAt.put {w : World} {base n c : Nat} {a0 : Addr} {L : List Nat} (h : UAt w base a0 n c L) {i : Nat} (hi : i < n) (x : Nat) : UAt (w.setCell (a0.add i) (.int .u64 (x : Int))) base a0 n c (L.set i x) := by
  obtain ⟨g, hg, -, -, -, -, hp⟩ := own_putS (v := .int .u64 (x : Int)) h.own (i := i) (by omega)
  injection hg with hg
  subst hg
  rw [add_zero_off]
  refine ⟨?_⟩
  have e2 : uCells (L.set i x) = (uCells L).set i (.int .u64 (x : Int)) := by unfold uCells; rw [List.map_set]
  rw [e2]
  exact hp
theorem UAt.other {w : World} {base n c : Nat} {a0 : Addr} {L : List Nat} (h : UAt w base a0 n c L) {p : Addr} (hp : a0.block ≠ p.block) (v : Value) : UAt (w.setCell p v) base a0 n c L := by
  refine ⟨own_out (S := fun k => k = p.block) h.own ((Out.refl (fun k => k = p.block) w).setCell (p := p) (.inl rfl) v) fun k hk e => hp ?_⟩
  simp [Value.ownBlock] at hk
  rw [hk]; exact e
/-- Cells in a row of one's own. -/
structure TAt (w : World) (base : Nat) (a0 : Addr) (n c : Nat) (T : List CelD) : Prop where
  own : w.ownsRow base 46 2 (.slice (some a0) n c) n (cCells T)
theorem TAt.len {w : World} {base n c : Nat} {a0 : Addr} {T : List CelD} (h : TAt w base a0 n c T) : T.length = n := by
  have := h.own.1
  rw [cCells_length] at this
  omega
theorem TAt.past {w w' : World} {base n c : Nat} {a0 : Addr} {T : List CelD} (h : TAt w base a0 n c T) (hb : Below w.heap.size w w') : TAt w' base a0 n c T := ⟨own_below' h.own hb⟩
theorem TAt.other {w : World} {base n c : Nat} {a0 : Addr} {T : List CelD} (h : TAt w base a0 n c T) {p : Addr} (hp : a0.block ≠ p.block) (v : Value) : TAt (w.setCell p v) base a0 n c T := by
  refine ⟨own_out (S := fun k => k = p.block) h.own ((Out.refl (fun k => k = p.block) w).setCell (p := p) (.inl rfl) v) fun k hk e => hp ?_⟩
  simp [Value.ownBlock] at hk
  rw [hk]; exact e
/-- The address of a cell's second field. -/
abbrev fld (a : Addr) : Addr := ⟨a.block, a.off + 1, none⟩
theorem fld_at (g i : Nat) : fld ((⟨g, 0, none⟩ : Addr).add (i * 2)) = ⟨g, i * 2 + 1, none⟩ := by unfold fld; rw [add_zero_off]
theorem TAt.get {w : World} {base n c : Nat} {a0 : Addr} {T : List CelD} (h : TAt w base a0 n c T) {i : Nat} (hi : i < n) :
    ∃ x, T[i]? = some x ∧ w.cell? (a0.add (i * 2)) = some (.int .u64 (x.cut : Int)) ∧ w.cell? (fld (a0.add (i * 2))) = some (.int .u32 (x.oth : Int)) ∧ w.frozen? (a0.add (i * 2)) = false ∧ w.frozen? (fld (a0.add (i * 2))) = false ∧ base ≤ a0.block ∧ a0.block < w.heap.size := by
  obtain ⟨g, hg, hb, hw, hc, hf, -⟩ := own_putS (v := undef) h.own (i := i * 2) (by omega)
  obtain ⟨g', hg', -, -, hc', hf', -⟩ := own_putS (v := undef) h.own (i := i * 2 + 1) (by omega)
  injection hg with hg
  subst hg
  injection hg' with hg'
  injection hg' with hg'
  subst hg'
  have hx : T[i]? = some (T[i]'(by rw [h.len]; exact hi)) := List.getElem?_eq_getElem _
  obtain ⟨e0, e1⟩ := cCells_get hx
  rw [fld_at, add_zero_off]
  exact ⟨_, hx, hc.trans e0, hc'.trans e1, hf, hf', hb, hw⟩
theorem TAt.put {w : World} {base n c : Nat} {a0 : Addr} {T : List CelD} (h : TAt w base a0 n c T) {i : Nat} (hi : i < n) (x : CelD) :
    TAt ((w.setCell (a0.add (i * 2)) (.int .u64 (x.cut : Int))).setCell (fld (a0.add (i * 2))) (.int .u32 (x.oth : Int))) base a0 n c (T.set i x) := by
  obtain ⟨g, hg, -, -, -, -, hp⟩ := own_putS (v := .int .u64 (x.cut : Int)) h.own (i := i * 2) (by omega)
  obtain ⟨g', hg', -, -, -, -, hp'⟩ := own_putS (v := .int .u32 (x.oth : Int)) hp (i := i * 2 + 1) (by omega)
  injection hg with hg
  subst hg
  injection hg' with hg'
  injection hg' with hg'
  subst hg'
  rw [fld_at, add_zero_off]
  refine ⟨?_⟩
  rw [← cCells_set]
  exact hp'
/-- A table that is being built, and what it is built with: rests, and in front of whom nobody has more. -/
structure FilAt (W : World) (lo g : Nat) (aR aS : Addr) (d cR cS w ab : Nat) (s : StD) : Prop where
  blk : Blk W g [.int .u64 (w : Int), .slice (some aR) d cR, .int .i64 (ab : Int), .slice (some aS) d cS]
  rest : UAt W lo aR d cR s.rest
  tab : TAt W lo aS d cS s.tab
  lo : lo ≤ g
  neR : aR.block ≠ g
  neS : aS.block ≠ g
  ne : aR.block ≠ aS.block
section
variable {W W' : World} {lo g d cR cS w ab : Nat} {aR aS : Addr} {s : StD}
theorem FilAt.past (h : FilAt W lo g aR aS d cR cS w ab s) (hb : Below W.heap.size W W') : FilAt W' lo g aR aS d cR cS w ab s := ⟨h.blk.past hb, h.rest.past hb, h.tab.past hb, h.lo, h.neR, h.neS, h.ne⟩
theorem FilAt.setAb (h : FilAt W lo g aR aS d cR cS w ab s) (x : Nat) : FilAt (W.setCell ⟨g, 2, none⟩ (.int .i64 (x : Int))) lo g aR aS d cR cS w x s :=
  ⟨h.blk.set 2 _, h.rest.other (p := ⟨g, 2, none⟩) h.neR _, h.tab.other (p := ⟨g, 2, none⟩) h.neS _, h.lo, h.neR, h.neS, h.ne⟩
theorem FilAt.setRest (h : FilAt W lo g aR aS d cR cS w ab s) {i : Nat} (hi : i < d) (x : Nat) : FilAt (W.setCell (aR.add i) (.int .u64 (x : Int))) lo g aR aS d cR cS w ab ⟨s.rest.set i x, s.tab⟩ :=
  ⟨h.blk.other (by rw [block_add]; exact h.neR) _, h.rest.put hi x, h.tab.other (by rw [block_add]; exact Ne.symm h.ne) _, h.lo, h.neR, h.neS, h.ne⟩
theorem FilAt.setTab (h : FilAt W lo g aR aS d cR cS w ab s) {i : Nat} (hi : i < d) (x : CelD) :
    FilAt ((W.setCell (aS.add (i * 2)) (.int .u64 (x.cut : Int))).setCell (fld (aS.add (i * 2))) (.int .u32 (x.oth : Int))) lo g aR aS d cR cS w ab ⟨s.rest, s.tab.set i x⟩ :=
  ⟨(h.blk.other (by rw [block_add]; exact h.neS) _).other (by show (aS.add (i * 2)).block ≠ g; rw [block_add]; exact h.neS) _,
   (h.rest.other (by rw [block_add]; exact h.ne) _).other (by show aR.block ≠ (aS.add (i * 2)).block; rw [block_add]; exact h.ne) _, h.tab.put hi x, h.lo, h.neR, h.neS, h.ne⟩
theorem FilAt.low (h : FilAt W lo g aR aS d cR cS w ab s) (hd : 0 < d) : lo ≤ aR.block ∧ lo ≤ aS.block ∧ lo ≤ W.heap.size := by
  obtain ⟨-, -, h1, h2⟩ := h.rest.get hd
  obtain ⟨-, -, -, -, -, -, h3, -⟩ := h.tab.get hd
  exact ⟨h1, h3, by omega⟩
end
theorem below_setCell {B : Nat} {w w' : World} (h : Below B w w') (p : Addr) (hp : B ≤ p.block) (v : Value) : Below B w (w'.setCell p v) := h.setCell hp v
/-- Cells in a row, at L. -/
def Cels (w : World) (B : Nat) (L : Option Addr) (l : List CelD) : Prop := Cs w B L (cCells l) ∧ ∀ c ∈ l, c.cut < 18446744073709551616 ∧ c.oth < 4294967296
section
variable {w w' : World} {B B' : Nat} {L : Option Addr} {l : List CelD}
theorem Cels.below (h : Cels w B L l) (hb : Below B w w') : Cels w' B L l := ⟨h.1.below hb, h.2⟩
theorem Cels.more (h : Cels w B L l) (hB : B ≤ B') : Cels w B' L l := ⟨h.1.more hB, h.2⟩
theorem Cels.at {k : Nat} (h : Cels w B L l) (hk : k < l.length) :
    ∃ a c, L = some a ∧ l[k]? = some c ∧ a.block < B ∧ w.cell? (a.add (k * 2)) = some (.int .u64 (c.cut : Int)) ∧ w.cell? ⟨(a.add (k * 2)).block, (a.add (k * 2)).off + 1, none⟩ = some (.int .u32 (c.oth : Int)) ∧
      c.cut < 18446744073709551616 ∧ c.oth < 4294967296 := by
  obtain ⟨a, rfl, hb, hc⟩ := h.1 (by rw [cCells_length]; omega)
  have hp : l[k]? = some l[k] := List.getElem?_eq_getElem hk
  obtain ⟨h0, h1⟩ := cCells_get hp
  have hf := h.2 l[k] (List.getElem_mem hk)
  have g1 := hc _ _ h1
  rw [add_field a (k * 2) 0] at g1
  exact ⟨a, l[k], rfl, hp, hb, hc _ _ h0, g1, hf.1, hf.2⟩
end
end Go.Proofs.Ytoflbfkmkalgcaa
