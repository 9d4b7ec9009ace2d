/- Sections in memory: a number and a slice of bytes; in rows, as an argument, and of one's own. -/
import Derived.Test.YtgnghalcihoaaaaFrm
import Derived.Test.YtgnghalcihoaaaaCel
namespace Go.Proofs.Ytgnghalcihoaaaa
open Go.RowKit Me Fr

/-- A slice that reads as these bytes. -/
def BodyV (w : World) (B : Nat) (v : Value) (l : List UInt8) : Prop := ∃ A n c, v = .slice A n c ∧ l.length = n ∧ n ≤ 9223372036854775807 ∧ Rd w B A l
section
variable {w w' : World} {B B' : Nat} {v : Value} {l : List UInt8}
theorem BodyV.below (h : BodyV w B v l) (hb : Below B w w') : BodyV w' B v l := by
  obtain ⟨A, n, c, h1, h2, h3, h5⟩ := h
  exact ⟨A, n, c, h1, h2, h3, h5.below hb⟩
theorem BodyV.more (h : BodyV w B v l) (hB : B ≤ B') : BodyV w B' v l := by
  obtain ⟨A, n, c, h1, h2, h3, h5⟩ := h
  exact ⟨A, n, c, h1, h2, h3, h5.more hB⟩
theorem BodyV.keep (h : BodyV w B v l) (hk : ∀ p : Addr, p.block < B → w'.cell? p = w.cell? p) : BodyV w' B v l := by
  obtain ⟨A, n, c, h1, h2, h3, h5⟩ := h
  exact ⟨A, n, c, h1, h2, h3, h5.keep hk⟩
end
/-- The cells of sections. -/
def SecCells (w : World) (B : Nat) : List Value → List SecD → Prop
  | [], [] => True
  | k :: b :: vs, s :: l => k = .int .u8 (s.kind.toNat : Int) ∧ BodyV w B b s.body ∧ SecCells w B vs l
  | _, _ => False
section
variable {w w' : World} {B B' : Nat}
theorem SecCells.keep (hk : ∀ p : Addr, p.block < B → w'.cell? p = w.cell? p) : ∀ {vs : List Value} {l : List SecD}, SecCells w B vs l → SecCells w' B vs l
  | [], [], _ => trivial
  | _ :: _ :: _, _ :: _, ⟨h1, h2, h3⟩ => ⟨h1, h2.keep hk, SecCells.keep hk h3⟩
  | [], _ :: _, h => h.elim
  | [_], [], h => h.elim
  | [_], _ :: _, h => h.elim
  | _ :: _ :: _, [], h => h.elim
theorem SecCells.more (hB : B ≤ B') : ∀ {vs : List Value} {l : List SecD}, SecCells w B vs l → SecCells w B' vs l
  | [], [], _ => trivial
  | _ :: _ :: _, _ :: _, ⟨h1, h2, h3⟩ => ⟨h1, h2.more hB, SecCells.more hB h3⟩
  | [], _ :: _, h => h.elim
  | [_], [], h => h.elim
  | [_], _ :: _, h => h.elim
  | _ :: _ :: _, [], h => h.elim
theorem SecCells.below {vs : List Value} {l : List SecD} (h : SecCells w B vs l) (hb : Below B w w') : SecCells w' B vs l := SecCells.keep (fun _ hp => hb.cell hp) h
theorem SecCells.length : ∀ {vs : List Value} {l : List SecD}, SecCells w B vs l → vs.length = l.length * 2
  | [], [], _ => rfl
  | k :: b :: vs, s :: l, ⟨_, _, h3⟩ => by have := SecCells.length h3; simp only [List.length_cons]; omega
  | [], _ :: _, h => h.elim
  | [_], [], h => h.elim
  | [_], _ :: _, h => h.elim
  | _ :: _ :: _, [], h => h.elim
theorem SecCells.snoc {b : Value} {s : SecD} (hb : BodyV w B b s.body) : ∀ {vs : List Value} {l : List SecD}, SecCells w B vs l → SecCells w B (vs ++ [.int .u8 (s.kind.toNat : Int), b]) (l ++ [s])
  | [], [], _ => ⟨rfl, hb, trivial⟩
  | _ :: _ :: _, _ :: _, ⟨h1, h2, h3⟩ => ⟨h1, h2, SecCells.snoc hb h3⟩
  | [], _ :: _, h => h.elim
  | [_], [], h => h.elim
  | [_], _ :: _, h => h.elim
  | _ :: _ :: _, [], h => h.elim
theorem SecCells.get : ∀ {vs : List Value} {l : List SecD} {k : Nat} {s : SecD}, SecCells w B vs l → l[k]? = some s → vs[k * 2]? = some (.int .u8 (s.kind.toNat : Int)) ∧ ∃ b, vs[k * 2 + 1]? = some b ∧ BodyV w B b s.body
  | k :: b :: vs, s :: l, 0, t, ⟨h1, h2, _⟩, h => by
    simp at h; subst h
    exact ⟨by rw [h1]; rfl, b, rfl, h2⟩
  | k :: b :: vs, s :: l, j + 1, t, ⟨_, _, h3⟩, h => by
    have := SecCells.get (k := j) h3 (by simpa using h)
    rw [show (j + 1) * 2 = j * 2 + 1 + 1 by omega]
    simpa only [List.getElem?_cons_succ] using this
  | _, [], _, _, _, h => by simp at h
  | [], _ :: _, _, _, h, _ => h.elim
  | [_], _ :: _, _, _, h, _ => h.elim
end
/-- No Body lies in block r. -/
def SecOff (r : Option Nat) : List Value → List SecD → Prop
  | [], [] => True
  | _ :: b :: vs, s :: l => (0 < s.body.length → ∀ a n c, b = .slice (some a) n c → r ≠ some a.block) ∧ SecOff r vs l
  | _, _ => False
theorem SecOff.snoc {r : Option Nat} {k b : Value} {s : SecD} (hb : 0 < s.body.length → ∀ a n c, b = .slice (some a) n c → r ≠ some a.block) : ∀ {vs : List Value} {l : List SecD}, SecOff r vs l → SecOff r (vs ++ [k, b]) (l ++ [s])
  | [], [], _ => ⟨hb, trivial⟩
  | _ :: _ :: _, _ :: _, ⟨h2, h3⟩ => ⟨h2, SecOff.snoc hb h3⟩
  | [], _ :: _, h => h.elim
  | [_], [], h => h.elim
  | [_], _ :: _, h => h.elim
  | _ :: _ :: _, [], h => h.elim
/-- Where all Bodies lie below B, none lies in a block from B on. -/
theorem SecOff.of_new {w : World} {B g : Nat} (hg : B ≤ g) : ∀ {vs : List Value} {l : List SecD}, SecCells w B vs l → SecOff (some g) vs l
  | [], [], _ => trivial
  | _ :: _ :: _, _ :: _, ⟨_, h2, h3⟩ => by
    refine ⟨fun h0 a n c e h => ?_, SecOff.of_new hg h3⟩
    obtain ⟨A, m, d, e1, _, _, hr⟩ := h2
    rw [e] at e1
    injection e1 with e1
    obtain ⟨a', e2, hb, _⟩ := hr h0
    rw [← e1] at e2
    injection e2 with e2
    injection h with h
    subst e2
    omega
  | [], _ :: _, h => h.elim
  | [_], [], h => h.elim
  | [_], _ :: _, h => h.elim
  | _ :: _ :: _, [], h => h.elim
theorem SecOff.none : ∀ {w : World} {B : Nat} {vs : List Value} {l : List SecD}, SecCells w B vs l → SecOff Option.none vs l
  | _, _, [], [], _ => trivial
  | _, _, _ :: _ :: _, _ :: _, ⟨_, _, h3⟩ => ⟨fun _ _ _ _ _ h => (by cases h), SecOff.none h3⟩
  | _, _, [], _ :: _, h => h.elim
  | _, _, [_], [], h => h.elim
  | _, _, [_], _ :: _, h => h.elim
  | _, _, _ :: _ :: _, [], h => h.elim
theorem SecCells.grown {w w' : World} {B : Nat} {r : Option Nat} (hg : w.grownBy w' r) (hB : B ≤ w.heap.size) : ∀ {vs : List Value} {l : List SecD}, SecCells w B vs l → SecOff r vs l → SecCells w' B vs l
  | [], [], _, _ => trivial
  | _ :: _ :: _, _ :: _, ⟨h1, h2, h3⟩, ⟨o2, o3⟩ => by
    refine ⟨h1, ?_, SecCells.grown hg hB h3 o3⟩
    obtain ⟨A, m, d, rfl, e2, e3, hr⟩ := h2
    refine ⟨A, m, d, rfl, e2, e3, fun h0 => ?_⟩
    obtain ⟨a, rfl, hb, hc⟩ := hr h0
    exact ⟨a, rfl, hb, fun i u hu => (World.cell?_of_block (hg.block _ (by rw [block_add]; omega) (fun e => o2 h0 a m d rfl (by rw [block_add] at e; exact e.symm)))).trans (hc i u hu)⟩
  | [], _ :: _, h, _ => h.elim
  | [_], [], h, _ => h.elim
  | [_], _ :: _, h, _ => h.elim
  | _ :: _ :: _, [], h, _ => h.elim
/-- Sections in a row, at L. -/
def Secs (w : World) (B : Nat) (L : Option Addr) (l : List SecD) : Prop := ∃ vs, Cs w B L vs ∧ SecCells w B vs l
section
variable {w w' : World} {B B' : Nat} {L : Option Addr} {l : List SecD}
theorem Secs.empty : Secs w B L [] := ⟨[], Cs.empty, trivial⟩
theorem Secs.below (h : Secs w B L l) (hb : Below B w w') : Secs w' B L l := h.elim fun vs ⟨h1, h2⟩ => ⟨vs, h1.below hb, h2.below hb⟩
theorem Secs.more (h : Secs w B L l) (hB : B ≤ B') : Secs w B' L l := h.elim fun vs ⟨h1, h2⟩ => ⟨vs, h1.more hB, h2.more hB⟩
theorem Secs.of_own {base : Nat} {e : TypeId} {n c : Nat} {vs : List Value} (h : w.ownsRow base e 2 (.slice L n c) n vs) (hs : SecCells w w.heap.size vs l) : Secs w w.heap.size L l := ⟨vs, Cs.of_own h, hs⟩
theorem Secs.at {k : Nat} (h : Secs w B L l) (hk : k < l.length) :
    ∃ a s A n c, L = some a ∧ l[k]? = some s ∧ a.block < B ∧ w.cell? (a.add (k * 2)) = some (.int .u8 (s.kind.toNat : Int)) ∧ w.cell? ⟨(a.add (k * 2)).block, (a.add (k * 2)).off + 1, none⟩ = some (.slice A n c) ∧
      s.body.length = n ∧ n ≤ 9223372036854775807 ∧ Rd w B A s.body := by
  obtain ⟨vs, h1, h2⟩ := h
  obtain ⟨a, rfl, hb, hc⟩ := h1 (by rw [h2.length]; omega)
  have hs : l[k]? = some l[k] := List.getElem?_eq_getElem hk
  obtain ⟨g0, b, g1, A, n, c, rfl, q1, q2, q4⟩ := h2.get hs
  have k1 := hc _ _ g1
  rw [add_field a (k * 2) 0] at k1
  exact ⟨a, l[k], A, n, c, rfl, hs, hb, hc _ _ g0, k1, q1, q2, q4⟩
end
open Go.ChangeShapes Go.WideShapes
/-- Bytes out of a slice's cell. -/
theorem bytes_of_trod {H : Type} {enc : TypeId × Value → H} {P : Program} {W : World} {t e : TypeId} {fuel : Nat} {cs : List Value} {x : DataW H × List MemPlace} (ht : P.underlying t = some (.slice e)) (he : P.underlying e = some (.int .u8)) (hc : P.cellsOf e = 1)
    (hf : DataW.trod enc P W 0 (fun _ => true) true fuel t cs = some x) : ∃ v l, cs = [v] ∧ BodyV W W.heap.size v l := by
  rcases ChangeShapes.open_ints ht he hc hf with ⟨hcs, hx⟩ | ⟨a, len, cap, zs, hcs, _, hl, hm, hz, hx, hcell, hwz⟩
  · exact ⟨_, [], hcs, _, _, _, rfl, rfl, by omega, Rd.empty⟩
  · simp only [if_true] at hz
    refine ⟨_, (zs.take len).map (fun z => UInt8.ofNat z.toNat), hcs, _, _, _, rfl, by simp; omega, by unfold maxLen at hm; omega, fun hn => ?_⟩
    have hn' : 0 < len := by simp at hn; omega
    have h0 := hcell 0 (by omega)
    have hb := block_lt_of_cell h0
    rw [Me.block_add] at hb
    refine ⟨a, rfl, hb, fun i u hu => ?_⟩
    rw [List.getElem?_map] at hu
    have hi : i < len := by
      rcases Nat.lt_or_ge i len with h | h
      · exact h
      · rw [List.getElem?_take, if_neg (by omega)] at hu; cases hu
    rw [List.getElem?_take, if_pos hi, List.getElem?_eq_getElem (by omega)] at hu
    injection hu with hu
    have hw := hwz zs[i] (List.getElem_mem _)
    have e1 : zs.getD i 0 = zs[i] := by rw [List.getD_eq_getElem?_getD, List.getElem?_eq_getElem (by omega)]; rfl
    rw [hcell i (by omega), e1, ← hu]
    simp [Lit.wf, IntKind.min, IntKind.max, IntKind.bits, IntKind.signed] at hw
    congr 2
    rw [UInt8.toNat_ofNat']
    omega
/-- A section out of a struct's cells. -/
theorem sec_of_trod {H : Type} {enc : TypeId × Value → H} {P : Program} {W : World} {e tu tb e8 : TypeId} {f0 f1 : Field} {fuel : Nat} {cs : List Value} {x : DataW H × List MemPlace} (he : P.underlying e = some (.struct #[f0, f1]))
    (hone : Go.Deep.oneCellFields P #[f0, f1] = true) (hC : P.cellsOf e = 2) (h0 : f0.type = tu) (h1 : f1.type = tb) (hu : P.underlying tu = some (.int .u8)) (hb : P.underlying tb = some (.slice e8)) (he8 : P.underlying e8 = some (.int .u8)) (hc8 : P.cellsOf e8 = 1)
    (hf : DataW.trod enc P W 0 (fun _ => true) true fuel e cs = some x) : ∃ (s : SecD) (b : Value), cs = [.int .u8 (s.kind.toNat : Int), b] ∧ BodyV W W.heap.size b s.body := by
  obtain ⟨ys, n2, hn2, hy, hlen, hyl, hfld⟩ := DataW.trod_struct he hf
  rw [hC] at hlen
  obtain ⟨o0, k0⟩ := Go.Deep.hone_of hone 0 f0 rfl
  obtain ⟨o1, k1⟩ := Go.Deep.hone_of hone 1 f1 rfl
  match cs, hlen with
  | [c0, c1], _ =>
    match ys, hyl with
    | [y0, y1], _ =>
      have g0 := hfld 0 f0 rfl
      have g1 := hfld 1 f1 rfl
      rw [o0, k0, h0] at g0
      rw [o1, k1, h1] at g1
      obtain ⟨z0, e0, -, w0⟩ := DataW.trod_int hu g0
      obtain ⟨v, l, e1, hv⟩ := bytes_of_trod hb he8 hc8 g1
      simp at e0 e1
      simp [Lit.wf, IntKind.min, IntKind.max, IntKind.bits, IntKind.signed] at w0
      refine ⟨⟨UInt8.ofNat z0.toNat, l⟩, v, ?_, hv⟩
      rw [e0, e1]
      congr 2
      show z0 = ((UInt8.ofNat z0.toNat).toNat : Int)
      rw [UInt8.toNat_ofNat']
      omega
/-- A section as an argument. -/
theorem open_sec {H : Type} {enc : TypeId × Value → H} {P : Program} {W : World} {b0 : Nat} {e tu tb e8 : TypeId} {f0 f1 : Field} {v : Value} {d : DataW H} {ps : List MemPlace} (he : P.underlying e = some (.struct #[f0, f1]))
    (hone : Go.Deep.oneCellFields P #[f0, f1] = true) (hC : P.cellsOf e = 2) (h0 : f0.type = tu) (h1 : f1.type = tb) (hu : P.underlying tu = some (.int .u8)) (hb : P.underlying tb = some (.slice e8)) (he8 : P.underlying e8 = some (.int .u8)) (hc8 : P.cellsOf e8 = 1)
    (hv : Value.okWide P W .any b0 e v) (h : DataW.Trod enc P W 0 (fun _ => true) true e v d ps) :
    ∃ (s : SecD) (A : Option Addr) (n c : Nat), v = .agg #[.int .u8 (s.kind.toNat : Int), .slice A n c] ∧ s.body.length = n ∧ n ≤ 9223372036854775807 ∧ Rd W W.heap.size A s.body := by
  obtain ⟨cs, rfl, hsz⟩ := WideShapes.okWide_struct he hv
  obtain ⟨fuel, hf⟩ := h
  obtain ⟨s, b, hcs, A, n, c, rfl, h1, h2, h4⟩ := sec_of_trod he hone hC h0 h1 hu hb he8 hc8 hf
  refine ⟨s, A, n, c, ?_, h1, h2, h4⟩
  congr 1
  apply Array.toList_inj.1
  exact hcs
/-- Sections as an argument. -/
theorem open_secs {H : Type} {enc : TypeId × Value → H} {P : Program} {W : World} {b0 : Nat} {t e tu tb e8 : TypeId} {f0 f1 : Field} {v : Value} {d : DataW H} {ps : List MemPlace} (ht : P.underlying t = some (.slice e)) (he : P.underlying e = some (.struct #[f0, f1]))
    (hone : Go.Deep.oneCellFields P #[f0, f1] = true) (hC : P.cellsOf e = 2) (h0 : f0.type = tu) (h1 : f1.type = tb) (hu : P.underlying tu = some (.int .u8)) (hb : P.underlying tb = some (.slice e8)) (he8 : P.underlying e8 = some (.int .u8)) (hc8 : P.cellsOf e8 = 1)
    (hv : Value.okWide P W .any b0 t v) (h : DataW.Trod enc P W 0 (fun _ => true) true t v d ps) :
    ∃ A n c l, v = .slice A n c ∧ l.length = n ∧ n ≤ c ∧ c ≤ 9223372036854775807 ∧ Secs W W.heap.size A l := by
  obtain ⟨A, n, c, rfl⟩ := WideShapes.okWide_slice ht hv
  obtain ⟨fuel, hf⟩ := h
  rcases Go.Deep.open_slice ht hf with ⟨hcs, hx⟩ | ⟨a, len, cap, m, n', D, Pl, hcs, hba, hl, hm, hmm, hx, hi'⟩
  · simp [Value.cells] at hcs
    obtain ⟨rfl, rfl, rfl⟩ := hcs
    exact ⟨_, _, _, [], rfl, rfl, Nat.le_refl _, by omega, Secs.empty⟩
  · simp [Value.cells] at hcs
    obtain ⟨rfl, rfl, rfl⟩ := hcs
    have key : ∀ k, k ≤ n → ∃ (vs : List Value) (l : List SecD), l.length = k ∧ SecCells W W.heap.size vs l ∧ ∀ i u, vs[i]? = some u → W.cell? (a.add i) = some u := by
      intro k
      induction k with
      | zero => exact fun _ => ⟨[], [], rfl, trivial, fun i u h => by simp at h⟩
      | succ k ih =>
        intro hk
        obtain ⟨vs, l, hl1, hl2, hl3⟩ := ih (by omega)
        obtain ⟨cs', hc, ht'⟩ := hi' k (by rw [hmm]; simp; omega)
        obtain ⟨s, b, rfl, hbv⟩ := sec_of_trod he hone hC h0 h1 hu hb he8 hc8 ht'
        rw [hC] at hc
        obtain ⟨_, hcl, hat⟩ := World.cells?_some hc
        have hvl := hl2.length
        rw [hl1] at hvl
        refine ⟨vs ++ [.int .u8 (s.kind.toNat : Int), b], l ++ [s], by simp [hl1], hl2.snoc hbv, fun i u hu => ?_⟩
        by_cases hi : i < vs.length
        · rw [List.getElem?_append_left hi] at hu
          exact hl3 i u hu
        · rw [List.getElem?_append_right (by omega)] at hu
          obtain ⟨j, hj⟩ : ∃ j, j = i - vs.length := ⟨_, rfl⟩
          rw [← hj] at hu
          have hj2 : j < 2 := by
            have := (List.getElem?_eq_some_iff.1 hu).1
            simpa using this
          have := hat j hj2
          rw [add_add, show k * 2 + j = i by omega, hu] at this
          exact this
    obtain ⟨vs, l, h1, h2, h3⟩ := key n (Nat.le_refl _)
    refine ⟨_, n, c, l, rfl, h1, hl, by unfold maxLen at hm; omega, vs, fun hn => ?_, h2⟩
    refine ⟨a, rfl, ?_, h3⟩
    have := block_lt_of_cell (h3 0 _ (List.getElem?_eq_getElem hn))
    rwa [Me.block_add] at this
end Go.Proofs.Ytgnghalcihoaaaa
