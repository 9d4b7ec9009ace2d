/- A round of the law's loop over acts: what it knows. -/
import Derived.Test.YtpdhnkmihlgdjaaDoes
import Derived.Test.YtpdhnkmihlgdjaaAds
import Derived.Test.YtpdhnkmihlgdjaaPhaseT
namespace Go.Proofs.Ytpdhnkmihlgdjaa
open Go.RowKit Me Rw Ds

/-- XPhaseT's law, its tail behind a name. -/
theorem wp_region_phase_tl {P : Program} {id : Nat} {Q : Exit → Act → World → Prop} {a0 : Act} {w : World} {l tail : List Oper} (n : Nat) (R : World → World → Prop) (hRr : ∀ w, R w w) (hRt : ∀ a b c, R a b → R b c → R a c) (I : Nat → World → Prop) (G : Gw.Fact) (wrs : List Nat) (dsts : List Tmp) (ms : List Gw.Row) (size m : Nat) (hm : P.follows .mixedOrders = true)
    (hB : (Gw.flowB l.toArray size && Gw.ownB l.toArray wrs && (Gw.rowsOf l.toArray wrs == ms) && (Gw.dstsOf l.toArray == dsts) && (wrs.length == m) && Gw.tailB l.toArray n && decide (n ≤ l.length) && wrs.all (fun i => decide (i < n)) && (l.drop n).all (fun o => o.dst.isNone)) = true) (hsz : a0.tmps.size = size)
    (hRd : R w w.drew) (hI0 : I 0 w.drew) (h0 : ∀ t W, t ∉ dsts → R w W → G t (a0.eval (.tmp t)) W) (hreq : Gw.PReq P R I G w (l.take n) (ms.take n)) (htail : l.drop n = tail)
    (hend : ∀ (x : Tmp → Value) (w' : World), R w w' → I m w' → (∀ d ∈ dsts, Gw.HoldsR R G d (x d) w') → Tl (Gw.seqTail P Q tail (Gw.putAll x dsts a0) w')) : (Code.region id l.toArray true).wp P Q a0 w :=
  Gw.wp_region_phase_tail n R hRr hRt I G wrs dsts ms size m hm hB hsz hRd hI0 h0 hreq htail fun x w' h1 h2 h3 => (hend x w' h1 h2 h3).out
/-- What the law's loop knows. -/
def PI (w0 wr : World) (D X0 cn k : Nat) : Prop := ∃ S m own Am nm cm Aw nw cw, DiskAt wr w0.heap.size D S own ∧ RefAt wr own m Am cm Aw cw ∧ m.made.length = nm ∧ m.wait.length = nw ∧ Rel S m ∧ Small S m k ∧ m.count = cn ∧
  Blk wr X0 [.int .i64 (m.count : Int), .bool m.off, .int .i64 m.fuse, .slice Am nm cm, .slice Aw nw cw] ∧ Below w0.heap.size w0 wr ∧ w0.heap.size ≤ X0
theorem act_count (m : RefM) (a : AD) : (actM m a).count = m.count := by
  unfold actM
  split
  · unfold writeR
    split
    · split
      · split <;> rfl
      · rfl
    · rfl
  split
  · unfold syncM
    split
    · rfl
    · split <;> rfl
  split
  · rfl
  split
  · rfl
  split
  · rfl
  split
  · unfold spoilR
    split <;> rfl
  · rfl
/-- A box of five cells is none of a disk's blocks. -/
theorem box_apart {w : World} {B D : Nat} {S : Dsk} {own : Nat → Prop} (h : DiskAt w B D S own) {b : Nat} {cs : List Value} (hb : Blk w b cs) (h5 : cs.length = 5) : ¬ own b := by
  obtain ⟨g, Pv, h⟩ := h
  intro ho
  have two : ∀ {cs' : List Value}, Blk w b cs' → cs'.length = 5 := fun {cs'} hb' => by
    obtain ⟨t, e1⟩ := hb
    obtain ⟨t', e2⟩ := hb'
    rw [e1] at e2
    injection e2 with e2
    injection e2 with e2 e3
    have := congrArg Array.size e2
    simp at this
    omega
  rcases (h.own b).1 ho with rfl | rfl | hp
  · have := two h.blk
    simp at this
  · have := two h.rows
    rw [rows_length (fun x hx => (cellsOf_length x).trans (h.good.1 x hx))] at this
    have h1 := h.good.2.2.1
    omega
  · rcases h.pend.2 with ⟨hv, -⟩ | ⟨g', cap', cur, hv, hb', hg, h3, h4, h5', h6⟩
    · rw [hv] at hp; simp [Value.ownBlock] at hp
    · rw [hv] at hp
      simp [Value.ownBlock] at hp
      subst hp
      obtain ⟨t, e1⟩ := hb
      rw [e1] at hg
      injection hg with hg
      injection hg with e2 e3
      have := congrArg Array.size e2
      simp at this
      omega
/-- A box's second cell is no string: no write lies in a box. -/
theorem cy_box {w : World} {own : Nat → Prop} {A : Option Addr} {l : List WD} (h : Cy w own A l) {b : Nat} {c0 c2 c3 c4 : Value} {o : Bool} (hb : Blk w b [c0, .bool o, c2, c3, c4]) : Cy w (fun j => own j ∨ j = b) A l := fun hn => by
  obtain ⟨g, e, hlt, hg, hc⟩ := h hn
  refine ⟨g, e, hlt, fun ho => ?_, hc⟩
  rcases ho with ho | ho
  · exact hg ho
  · subst ho
    obtain ⟨x, hx⟩ : ∃ x, l[0]? = some x := ⟨_, List.getElem?_eq_getElem hn⟩
    have r1 := hc _ _ (rows_get (f := wCells) (s := 2) (fun x _ => wCells_length x) hx (j := 1) (by omega))
    have r2 := hb.cell (i := 1) (v := .bool o) rfl
    rw [show 0 * 2 + 1 = 1 from rfl, r2] at r1
    injection r1 with r1
    cases r1
theorem ref_box {w : World} {own : Nat → Prop} {m : RefM} {Am Aw : Option Addr} {cm cw : Nat} (h : RefAt w own m Am cm Aw cw) {b : Nat} {c0 c2 c3 c4 : Value} {o : Bool} (hb : Blk w b [c0, .bool o, c2, c3, c4]) : RefAt w (fun j => own j ∨ j = b) m Am cm Aw cw := ⟨cy_box h.made hb, cy_box h.wait hb, h.cm, h.cw⟩
abbrev zBox : List Value := [.int .i64 0, .bool false, .int .i64 0, .slice none 0 0, .slice none 0 0]
/-- All that is new are empty boxes. -/
def Fresh (N : Nat) (a : World) : Prop := ∀ j, N ≤ j → j < a.heap.size → Blk a j zBox
/-- How worlds follow each other in the region of an act. -/
def PlR (N : Nat) (a b : World) : Prop := (∀ j, N ≤ j → Blk a j zBox → Blk b j zBox) ∧ (Below a.heap.size a b ∨ Fresh N a) ∧ a.heap.size ≤ b.heap.size
theorem Fresh.back {N : Nat} {a b : World} (h : Fresh N b) (hb : Below a.heap.size a b) : Fresh N a := fun j hj hlt => (h j hj (Nat.lt_of_lt_of_le hlt hb.size)).keep (hb.block j hlt).symm
theorem Fresh.not {N : Nat} {a : World} (h : Fresh N a) {b : Nat} (hN : N ≤ b) {cs : List Value} (hb : Blk a b cs) (hl : cs.length = 7) : False := by
  obtain ⟨t, e1⟩ := h b hN hb.lt
  obtain ⟨t', e2⟩ := hb
  rw [e1] at e2
  injection e2 with e2
  injection e2 with e2 e3
  have := congrArg Array.size e2
  simp at this
  omega
theorem PlR.refl (N : Nat) (a : World) : PlR N a a := ⟨fun _ _ h => h, .inl (Below.refl _ _), Nat.le_refl _⟩
theorem PlR.trans {N : Nat} {a b c : World} (h : PlR N a b) (k : PlR N b c) : PlR N a c := by
  refine ⟨fun j hj hb => k.1 j hj (h.1 j hj hb), ?_, Nat.le_trans h.2.2 k.2.2⟩
  rcases h.2.1 with h1 | h1
  · rcases k.2.1 with k1 | k1
    · exact .inl (h1.trans (k1.mono h.2.2))
    · exact .inr (k1.back h1)
  · exact .inr h1
theorem PlR.below {N : Nat} {a b : World} (h : Below a.heap.size a b) : PlR N a b := ⟨fun _ _ hb => hb.past h, .inl h, h.size⟩
/-- A box of seven cells stands among what is new. -/
def Late (N : Nat) (a : World) : Prop := ∃ b cs, N ≤ b ∧ Blk a b cs ∧ cs.length = 7
theorem PlR.late {N : Nat} {a b : World} (h : PlR N a b) (ha : Late N a) : Below a.heap.size a b := by
  rcases h.2.1 with h1 | h1
  · exact h1
  · obtain ⟨j, cs, h2, h3, h4⟩ := ha
    exact (h1.not h2 h3 h4).elim
/-- What an act leaves. -/
def PlJ (B D N : Nat) (S : Dsk) (m : RefM) (u : Value) (W : World) : Prop := Late N W ∧ ∃ own', DiskAt W B D S own' ∧ RVal W own' m u
theorem PlJ.reach {B D N : Nat} {S : Dsk} {m : RefM} {u : Value} {W W' : World} (h : PlJ B D N S m u W) (hr : PlR N W W') : PlJ B D N S m u W' := by
  obtain ⟨h1, own', h2, h3⟩ := h
  have hb := hr.late h1
  obtain ⟨j, cs, k1, k2, k3⟩ := h1
  exact ⟨⟨j, cs, k1, k2.past hb, k3⟩, own', h2.past hb, h3.past hb⟩
def PlI (N : Nat) (own : Nat → Prop) (wr : World) (p : Nat) (W : World) : Prop := if p = 0 then Below N wr W ∧ Fresh N W else Late N W ∧ Out own wr W
def plG (B D X0 N k n c : Nat) (a : Addr) (V : Value) (p : AD) (S : Dsk) (m : RefM) : Gw.Fact := fun t v W =>
  match t with
  | 5 | 55 => v = .pointer (some ⟨D, 0, none⟩)
  | 7 => v = .pointer (some ⟨X0, 0, none⟩)
  | 56 => v = V
  | 1 | 57 => v = .slice (some a) n c
  | 8 | 58 => v = .int .i64 (k : Int)
  | 59 => v = .pointer (some (a.add (k * 7)))
  | 60 => v = .agg (aVs p).toArray
  | 61 | 54 => ∃ u, v = .tuple #[.bool true, u] ∧ PlJ B D N S m u W
  | 62 | 9 => v = .bool true
  | 63 => PlJ B D N S m v W
  | 10 => ∃ Y, v = .pointer (some ⟨Y, 0, none⟩) ∧ N ≤ Y ∧ Blk W Y zBox
  | _ => True
theorem add_pos (x : Addr) (j : Nat) : x.add (j + 1) = ⟨x.block, x.off + (j + 1), none⟩ := by
  have := add_field x 0 j
  rw [Nat.zero_add] at this
  rw [this]
  unfold Addr.add
  simp
theorem act_cells {w : World} {x : Addr} {p : AD} (h : ActAt w x p) : w.cell? x = some (.int .i64 p.kind) ∧ w.cell? ⟨x.block, x.off + 1, none⟩ = some (.int .i64 p.i) ∧ w.cell? ⟨x.block, x.off + 2, none⟩ = some (.int .i64 p.n) ∧
    w.cell? ⟨x.block, x.off + 3, none⟩ = some (.int .u8 (p.c.toNat : Int)) ∧ w.cell? ⟨x.block, x.off + 4, none⟩ = some (.bool p.short) ∧ w.cell? ⟨x.block, x.off + 5, none⟩ = some (.int .u64 (p.keep : Int)) ∧ w.cell? ⟨x.block, x.off + 6, none⟩ = some (.int .u64 (p.torn : Int)) := by
  have g := h.1
  have g0 := g 0 _ rfl
  have e : x.add 0 = x := by unfold Addr.add; simp
  rw [e] at g0
  refine ⟨g0, ?_, ?_, ?_, ?_, ?_, ?_⟩
  · rw [← add_pos x 0]; exact g 1 _ rfl
  · rw [← add_pos x 1]; exact g 2 _ rfl
  · rw [← add_pos x 2]; exact g 3 _ rfl
  · rw [← add_pos x 3]; exact g 4 _ rfl
  · rw [← add_pos x 4]; exact g 5 _ rfl
  · rw [← add_pos x 5]; exact g 6 _ rfl
/-- What is known of each slot of the look behind an act. -/
def plH (D X0 cn wl cw : Nat) (Aw : Option Addr) (o : Bool) : Gw.Fact := fun t v _ =>
  match t with
  | 5 | 68 | 75 | 83 => v = .pointer (some ⟨D, 0, none⟩)
  | 7 => v = .pointer (some ⟨X0, 0, none⟩)
  | 9 | 65 => v = .bool true
  | 66 | 67 | 72 | 73 | 74 | 80 | 81 | 82 | 86 | 87 => v = .bool false
  | 69 => v = .bool o
  | 71 => v = .bool (!o)
  | 70 => v = .pointer (some ⟨X0, 1, none⟩)
  | 76 | 79 => v = .int .i64 (wl : Int)
  | 77 => v = .pointer (some ⟨X0, 4, none⟩)
  | 78 => v = .slice Aw wl cw
  | 0 | 84 | 85 => v = .int .i64 (cn : Int)
  | _ => True
end Go.Proofs.Ytpdhnkmihlgdjaa
