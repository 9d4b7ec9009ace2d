/- What is written lies in some blocks alone; blocks whose cells are known. -/
import Derived.Test.YtgnghalcihoaaaaCel0
import Derived.Test.YtgnghalcihoaaaaPhase
import Derived.Deep.MidRow
import Derived.Laws.CopyOwn
import Derived.Laws.MakeOwn
namespace Go.Proofs.Ytgnghalcihoaaaa
open Go.RowKit Me

/-- Outside S all that was there is as it was. -/
structure Out (S : Nat → Prop) (w w' : World) : Prop where
  os : w'.os = w.os
  tape : w'.tape = w.tape
  output : w'.output = w.output
  size : w.heap.size ≤ w'.heap.size
  block : ∀ k, k < w.heap.size → ¬ S k → w'.heap[k]? = w.heap[k]?
section
variable {S S' : Nat → Prop} {w w' a b c : World}
theorem Out.refl (S : Nat → Prop) (w : World) : Out S w w := ⟨rfl, rfl, rfl, Nat.le_refl _, fun _ _ _ => rfl⟩
theorem Out.more (h : Out S w w') (hs : ∀ k, k < w.heap.size → S k → S' k) : Out S' w w' := ⟨h.os, h.tape, h.output, h.size, fun k hk hn => h.block k hk fun hS => hn (hs k hk hS)⟩
theorem Out.trans' (h : Out S a b) (k : Out S' b c) (hs : ∀ j, S' j → S j ∨ a.heap.size ≤ j) : Out S a c :=
  ⟨k.os.trans h.os, k.tape.trans h.tape, k.output.trans h.output, Nat.le_trans h.size k.size, fun i hi hn =>
    (k.block i (Nat.lt_of_lt_of_le hi h.size) fun hS => (hs i hS).elim hn (fun h1 => by omega)).trans (h.block i hi hn)⟩
theorem Out.trans (h : Out S a b) (k : Out S b c) : Out S a c := h.trans' k fun _ hj => .inl hj
theorem Out.of_grown {row : Option Nat} (h : w.grownBy w' row) (hr : ∀ k, row = some k → k < w.heap.size → S k) : Out S w w' :=
  ⟨h.os, h.tape, h.output, h.size, fun k hk hn => h.block k hk fun e => hn (hr k e.symm hk)⟩
theorem Out.of_below (h : Below w.heap.size w w') : Out S w w' := ⟨h.os, h.tape, h.output, h.size, fun k hk _ => h.block k hk⟩
theorem Out.alloc (h : Out S w w') (o : Obj) : Out S w (w'.alloc o) := h.trans (.of_below ((Below.refl _ _).alloc (Nat.le_refl _) o))
theorem Out.setCell (h : Out S w w') {p : Addr} (hp : S p.block ∨ w.heap.size ≤ p.block) (u : Value) : Out S w (w'.setCell p u) :=
  h.trans' (S' := fun k => k = p.block) (.of_grown (grownBy_set w' p u) fun _ e _ => by injection e with e; exact e.symm) fun j hj => by subst hj; exact hp
theorem Out.below {B : Nat} (h : Out S w w') (hS : ∀ k, k < w.heap.size → S k → B ≤ k) (hB : B ≤ w.heap.size) : Below B w w' :=
  ⟨h.os, h.tape, h.output, h.size, fun k hk => h.block k (by omega) fun hs => by have := hS k (by omega) hs; omega⟩
theorem Out.cell (h : Out S w w') {p : Addr} (hp : p.block < w.heap.size) (hn : ¬ S p.block) : w'.cell? p = w.cell? p := World.cell?_of_block (h.block _ hp hn)
theorem Out.frozen (h : Out S w w') {p : Addr} (hp : p.block < w.heap.size) (hn : ¬ S p.block) : w'.frozen? p = w.frozen? p := World.frozen?_of_block (h.block _ hp hn)
theorem Out.setCells (b : Nat) : ∀ (vs : List Value) (o : Nat) {w w' : World}, Out S w w' → (S b ∨ w.heap.size ≤ b) → Out S w (w'.setCells b o vs)
  | [], _, _, _, h, _ => h
  | _ :: vs, o, _, _, h, hb => Out.setCells b vs (o + 1) (h.setCell (p := ⟨b, o, none⟩) hb _) hb
theorem Out.grown {row : Option Nat} (h : Out S w a) (hg : a.grownBy b row) (hr : ∀ k, row = some k → S k ∨ w.heap.size ≤ k) : Out S w b :=
  h.trans' (S' := fun k => row = some k) (.of_grown hg fun _ e _ => e) fun j hj => hr j hj
theorem out_drew (S : Nat → Prop) (w : World) : Out S w w.drew := ⟨rfl, rfl, rfl, Nat.le_refl _, fun _ _ _ => rfl⟩
end

/-- The cells of a block are these; it may be written. -/
def Blk (w : World) (b : Nat) (cs : List Value) : Prop := ∃ t, w.heap[b]? = some (.cells cs.toArray t (0, 0))
section
variable {S : Nat → Prop} {w w' : World} {b : Nat} {cs : List Value}
theorem Blk.lt (h : Blk w b cs) : b < w.heap.size := by obtain ⟨t, h⟩ := h; exact (Array.getElem?_eq_some_iff.1 h).1
theorem Blk.keep (h : Blk w b cs) (hk : w'.heap[b]? = w.heap[b]?) : Blk w' b cs := by obtain ⟨t, h⟩ := h; exact ⟨t, hk.trans h⟩
theorem Blk.out (h : Blk w b cs) (ho : Out S w w') (hn : ¬ S b) : Blk w' b cs := h.keep (ho.block b h.lt hn)
theorem Blk.past (h : Blk w b cs) (hb : Below w.heap.size w w') : Blk w' b cs := h.keep (hb.block b h.lt)
theorem Blk.grown {row : Option Nat} (h : Blk w b cs) (hg : w.grownBy w' row) (hne : row ≠ some b) : Blk w' b cs := h.keep (hg.block b h.lt fun e => hne e.symm)
theorem Blk.alloc (h : Blk w b cs) (o : Obj) : Blk (w.alloc o) b cs := h.keep (Below.heap_alloc w o b h.lt)
theorem Blk.drew (h : Blk w b cs) : Blk w.drew b cs := h
theorem Blk.new (w : World) (cs : List Value) (t : TypeId) : Blk (w.alloc (.cells cs.toArray t)) w.heap.size cs := ⟨t, heap_alloc_new w _⟩
theorem Blk.new' (w : World) (cs : List Value) (t : TypeId) {H : Nat} (hH : w.heap.size = H) : Blk (w.alloc (.cells cs.toArray t)) H cs := by subst hH; exact Blk.new w cs t
theorem Blk.cell (h : Blk w b cs) {i : Nat} {v : Value} (hi : cs[i]? = some v) : w.cell? ⟨b, i, none⟩ = some v := by
  obtain ⟨t, h⟩ := h
  rw [cell_of_row w b i _ t _ h]
  simpa using hi
theorem Blk.frozen (h : Blk w b cs) (i : Nat) : w.frozen? ⟨b, i, none⟩ = false := by
  obtain ⟨t, h⟩ := h
  exact frozen_of_row w b i _ t h
theorem Blk.set (h : Blk w b cs) (i : Nat) (v : Value) : Blk (w.setCell ⟨b, i, none⟩ v) b (cs.set i v) := by
  obtain ⟨t, h⟩ := h
  refine ⟨t, ?_⟩
  rw [heap_setCell_same w b i _ t v h]
  simp
theorem Blk.other (h : Blk w b cs) {p : Addr} (hp : p.block ≠ b) (v : Value) : Blk (w.setCell p v) b cs := h.keep (Below.heap_setCell _ _ _ _ (Ne.symm hp))
theorem Blk.range (h : Blk w b cs) (o n : Nat) : w.rangeAt b o ((cs.drop o).take n) := fun j v hv => by
  refine h.cell ?_
  rw [List.getElem?_take] at hv
  split at hv
  · rw [List.getElem?_drop] at hv; exact hv
  · cases hv
theorem Blk.there (h : Blk w b cs) {o n : Nat} (hn : o + n ≤ cs.length) : w.there b o n := fun j hj =>
  ⟨by rw [h.cell (List.getElem?_eq_getElem (show o + j < cs.length by omega))]; rfl, h.frozen _⟩
theorem Blk.sets {vs : List Value} {o : Nat} (h : Blk w b cs) (hn : o + vs.length ≤ cs.length) : Blk (w.setCells b o vs) b (splice cs o vs) := by
  induction vs generalizing w cs o with
  | nil =>
    have e : splice cs o [] = cs := by simp [splice]
    rw [e]
    exact h
  | cons v vs ih =>
    have := ih (h.set o v) (o := o + 1) (by simp at hn ⊢; omega)
    have e : splice (cs.set o v) (o + 1) vs = splice cs o (v :: vs) := by
      simp only [List.length_cons] at hn
      have e1 : (cs.set o v).take (o + 1) = cs.take o ++ [v] := by
        rw [List.take_add_one, List.getElem?_set_self (by omega), List.take_set_of_le (Nat.le_refl _)]
        rfl
      have e2 : (cs.set o v).drop (o + 1 + vs.length) = cs.drop (o + (vs.length + 1)) := by
        rw [List.drop_set_of_lt (by omega)]
        congr 1
        omega
      unfold splice
      rw [e1, e2]
      simp
    rw [e] at this
    exact this
theorem Blk.five {a0 a1 a2 a3 a4 : Value} (h : Blk w b [a0, a1, a2, a3, a4]) :
    w.cell? ⟨b, 0, none⟩ = some a0 ∧ w.cell? ⟨b, 1, none⟩ = some a1 ∧ w.cell? ⟨b, 2, none⟩ = some a2 ∧ w.cell? ⟨b, 3, none⟩ = some a3 ∧ w.cell? ⟨b, 4, none⟩ = some a4 :=
  ⟨h.cell rfl, h.cell rfl, h.cell rfl, h.cell rfl, h.cell rfl⟩
theorem Blk.five_free {a0 a1 a2 a3 a4 : Value} (h : Blk w b [a0, a1, a2, a3, a4]) :
    w.frozen? ⟨b, 0, none⟩ = false ∧ w.frozen? ⟨b, 1, none⟩ = false ∧ w.frozen? ⟨b, 2, none⟩ = false ∧ w.frozen? ⟨b, 3, none⟩ = false ∧ w.frozen? ⟨b, 4, none⟩ = false :=
  ⟨h.frozen _, h.frozen _, h.frozen _, h.frozen _, h.frozen _⟩
theorem Blk.set5 {a0 a1 a2 a3 a4 : Value} (h : Blk w b [a0, a1, a2, a3, a4]) (v0 v1 v2 v3 v4 : Value) :
    Blk (((((w.setCell ⟨b, 0, none⟩ v0).setCell ⟨b, 1, none⟩ v1).setCell ⟨b, 2, none⟩ v2).setCell ⟨b, 3, none⟩ v3).setCell ⟨b, 4, none⟩ v4) b [v0, v1, v2, v3, v4] :=
  ((((h.set 0 v0).set 1 v1).set 2 v2).set 3 v3).set 4 v4
theorem Blk.four {a0 a1 a2 a3 : Value} (h : Blk w b [a0, a1, a2, a3]) :
    w.cell? ⟨b, 0, none⟩ = some a0 ∧ w.cell? ⟨b, 1, none⟩ = some a1 ∧ w.cell? ⟨b, 2, none⟩ = some a2 ∧ w.cell? ⟨b, 3, none⟩ = some a3 :=
  ⟨h.cell rfl, h.cell rfl, h.cell rfl, h.cell rfl⟩
theorem Blk.four_free {a0 a1 a2 a3 : Value} (h : Blk w b [a0, a1, a2, a3]) :
    w.frozen? ⟨b, 0, none⟩ = false ∧ w.frozen? ⟨b, 1, none⟩ = false ∧ w.frozen? ⟨b, 2, none⟩ = false ∧ w.frozen? ⟨b, 3, none⟩ = false :=
  ⟨h.frozen _, h.frozen _, h.frozen _, h.frozen _⟩
end
/-- A row of one's own, behind writes elsewhere. -/
theorem own_out {S : Nat → Prop} {w w' : World} {base size n : Nat} {e : TypeId} {v : Value} {xs : List Value} (h : w.ownsRow base e size v n xs) (ho : Out S w w') (hn : ∀ k, v.ownBlock = some k → ¬ S k) : w'.ownsRow base e size v n xs := by
  refine ⟨h.1, ?_⟩
  rcases h.2 with hn' | ⟨g, cap, cur, rfl, hb, hgg, rest⟩
  · exact .inl hn'
  · refine .inr ⟨g, cap, cur, rfl, hb, ?_, rest⟩
    rw [ho.block g (Array.getElem?_eq_some_iff.1 hgg).1 (hn g rfl)]
    exact hgg
/-- What is kept behind an append to a row of one's own, whatever the elements' size. -/
theorem below_app' {B : Nat} {a w w' : World} {v : Value} {base n size : Nat} {e : TypeId} {xs : List Value} (h : Below B a w) (hown : w.ownsRow base e size v n xs) (hB : B ≤ base) (hs : B ≤ w.heap.size) (hg : w.grownBy w' v.ownBlock) : Below B a w' :=
  h.grown hg hs fun k hk => by have := (hown.lt k hk).1; omega
theorem results_cell_mid {P : Program} {fn : Func} {p : Tmp} {ty : TypeId} (h : fn.results = #[.cell p ty]) (tmps : Array Value) (w : World) (b o : Nat) (cs : List Value) (d : TypeDesc)
    (hp : tmps.getD p undef = .pointer (some ⟨b, o, none⟩)) (hc : w.rangeAt b o cs) (hu : P.underlying ty = some d) (hd : d.isRow = true) (hi : (P.info? ty).map (·.size) = some cs.length) :
    (results fn tmps).run P w = .ok (.agg cs.toArray) w := by
  have hp' : tmps[p]?.getD undef = .pointer (some ⟨b, o, none⟩) := by simpa using hp
  simp [results, h, hp', asAddr, run_loadVar_mid w b o ty cs d hc hu hd hi]
/-- Cells somewhere outside S. -/
def Cz (w : World) (S : Nat → Prop) (A : Option Addr) (vs : List Value) : Prop :=
  0 < vs.length → ∃ a, A = some a ∧ a.block < w.heap.size ∧ ¬ S a.block ∧ ∀ i v, vs[i]? = some v → w.cell? (a.add i) = some v
section
variable {S S' : Nat → Prop} {w w' : World} {A : Option Addr} {vs : List Value}
theorem Cz.cs (h : Cz w S A vs) : Cs w w.heap.size A vs := fun hn => by obtain ⟨a, e, hb, -, hc⟩ := h hn; exact ⟨a, e, hb, hc⟩
theorem Cz.empty : Cz w S A [] := fun h => by simp at h
theorem Cz.out (h : Cz w S A vs) (ho : Out S w w') : Cz w' S A vs := fun hn => by
  obtain ⟨a, e, hb, hs, hc⟩ := h hn
  exact ⟨a, e, Nat.lt_of_lt_of_le hb ho.size, hs, fun j u hu => (ho.cell (p := a.add j) (by rw [block_add]; exact hb) (by rw [block_add]; exact hs)).trans (hc j u hu)⟩
theorem Cz.past (h : Cz w S A vs) (hb : Below w.heap.size w w') : Cz w' S A vs := h.out (.of_below hb)
theorem Cz.less (h : Cz w S A vs) (hs : ∀ k, k < w.heap.size → S' k → S k) : Cz w S' A vs := fun hn => by
  obtain ⟨a, e, hb, hn', hc⟩ := h hn
  exact ⟨a, e, hb, fun hS => hn' (hs _ hb hS), hc⟩
theorem Cz.of_own {base size n c : Nat} {e : TypeId} (h : w.ownsRow base e size (.slice A n c) n vs) (hs : ∀ k, base ≤ k → k < w.heap.size → ¬ S k) : Cz w S A vs := fun hn => by
  obtain ⟨a, e', hb, hc⟩ := Cs.of_own h hn
  refine ⟨a, e', hb, hs _ ?_ hb, hc⟩
  subst e'
  exact (h.lt _ rfl).1
end
end Go.Proofs.Ytgnghalcihoaaaa
