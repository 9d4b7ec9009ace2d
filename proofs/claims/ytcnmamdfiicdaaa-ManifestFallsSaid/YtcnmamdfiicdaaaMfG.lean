/- Texts put together: RMay, RGetM. -/
import Derived.Test.YtcnmamdfiicdaaaFile
import Derived.Test.YtcnmamdfiicdaaaMfS
import Derived.Test.YtcnmamdfiicdaaaMGet
import Derived.Test.YtcnmamdfiicdaaaFrms
import Derived.Test.YtcnmamdfiicdaaaVari
/-! Whether a manifest may be, told by the document. -/
namespace Go.Proofs.Ytcnmamdfiicdaaa
open Go.RowKit Me Mf Va

set_option maxRecDepth 100000 in
set_option maxHeartbeats 1000000 in
theorem rmay_any (A : Option Addr) (n c : Nat) (m : ManD) (w : World) (hn : n ≤ 1073741824) (hbd : Mf.Good m.next m.files → (body m).length ≤ 1099511627776) (h : ManAt w w.heap.size A n c m) :
    Calls Try.prog 13 #[mval m.version m.next A n c] w (Bp w (Fit m)) := by
  have HM := Lib.hid h
  have HL := Lib.hid h.len
  have HBD := Lib.hid hbd
  obtain ⟨v, hv⟩ : ∃ v, v = m.version := ⟨_, rfl⟩
  obtain ⟨x, hx⟩ : ∃ x, x = m.next := ⟨_, rfl⟩
  have HV := Lib.hid hv
  have HX := Lib.hid hx
  rw [← hv, ← hx]
  obtain ⟨wb, hwb⟩ : ∃ wb, wb = w.alloc (mbox v x A n c) := ⟨_, rfl⟩
  have HWB := Lib.hid hwb
  have HB0 := Lib.hid (show Below w.heap.size w wb by rw [hwb]; exact (Below.refl _ _).alloc (Nat.le_refl _) _)
  have KM := Lib.hid (show Kp wb w.heap.size (mbox v x A n c) by rw [hwb]; exact Kp.new w _)
  obtain ⟨-, -, q2⟩ := KM.out.man
  clear hwb h hbd hv hx
  go_enter Try.func13, Try.ntmps13
  go_wp2_with fail
  rw [← HWB.out]
  clear HWB q2
  go_loopw [7] (fun i wr => ∃ k : Nat, k ≤ n ∧ i = .int .i64 (k : Int) ∧ Hid (Mf.Good m.next (m.files.take k)) ∧ Hid (Kp wr w.heap.size (mbox v x A n c)) ∧ Hid (Below w.heap.size w wr)) (fun i _ => n - (intOf i).toNat)
  case atStart => exact ⟨0, Nat.zero_le _, rfl, Lib.hid (good_nil _), KM, HB0⟩
  case round =>
    clear HB0 KM
    obtain ⟨k, hk, rfl, HG, K, HB⟩ := hrel
    obtain ⟨q0, q1, q2⟩ := K.out.man
    by_cases hlt : k < n
    · obtain ⟨f, hf⟩ : ∃ f, m.files[k]? = some f := ⟨_, List.getElem?_eq_getElem (by rw [HL.out]; exact hlt)⟩
      have HFK := Lib.hid hf
      clear hf
      go_wp2_with fail
      have hcall : Calls Try.prog 39 #[mval v x A n c, .int .i64 (k : Int)] wr (Bp wr (RefOk m.next (m.files.take k) f)) := by
        rw [HV.out, HX.out]
        exact rfile_any A n c k m f wr hn HFK.out ((HM.out.below HB.out).more HB.out.size)
      refine hcall.mono ?_
      clear hcall
      rintro e w1 ⟨b, rfl, hb, hB⟩
      have HB1 := Lib.hid (HB.out.trans (hB.mono HB.out.size))
      have K1 := Lib.hid (K.out.past hB)
      have HOK := Lib.hid hb
      clear hb hB K HB q0 q1 q2
      cases b with
      | true =>
        have HGX := Lib.hid (show Mf.Good m.next (m.files.take (k + 1)) from by rw [take_snoc HFK.out]; exact (good_snoc HG.out).2 (HOK.out.1 rfl))
        go_wp2
        go_roundw
        case rel => exact ⟨k + 1, by omega, by go_num, HGX, K1, HB1⟩
        case measure => simp [intOf]; omega
      | false =>
        go_wp2
        go_ret
        refine ⟨false, rfl, ⟨fun h => (by cases h), fun h => ?_⟩, HB1.out⟩
        have := h.1.take (k + 1)
        rw [take_snoc HFK.out] at this
        exact HOK.out.2 ((good_snoc HG.out).1 this)
    · have hkn : k = n := by omega
      subst hkn
      have e : m.files.take k = m.files := by rw [← HL.out, List.take_length]
      have HGE := HG
      rw [e] at HGE
      have hbd := HBD.out HGE.out
      have HBY := Lib.hid hbd
      clear HG e hbd
      go_wp2_with fail
      rw [HV.out, HX.out]
      refine (rbody_any A k c m wr (good_pos HGE.out) HBY.out ((HM.out.below HB.out).more HB.out.size)).mono ?_
      intro e w1 h1
      obtain ⟨A1, n1, c1, rfl, hl1, -, -, -, hb1⟩ := h1.open
      have HB1 := Lib.hid (HB.out.trans (hb1.mono HB.out.size))
      have HL1 := Lib.hid hl1
      have hn1 : n1 ≤ 1099511627776 := by have := HBY.out; omega
      clear h1 hl1 hb1 q0 q1 q2
      by_cases hbig : n1 ≤ 2035
      · have d1 : decide ((n1 : Int) + 13 ≤ 2048) = true := by simp; omega
        go_wp2
        go_ret
        exact ⟨true, rfl, ⟨fun _ => ⟨HGE.out, by rw [HL1.out]; exact hbig⟩, fun _ => rfl⟩, HB1.out⟩
      · have d1 : decide ((n1 : Int) + 13 ≤ 2048) = false := by simp; omega
        go_wp2
        go_ret
        exact ⟨false, rfl, ⟨fun h => (by cases h), fun h => (by have := h.2; rw [HL1.out] at this; omega)⟩, HB1.out⟩
end Go.Proofs.Ytcnmamdfiicdaaa

/-! What stands while the document reads a manifest. -/
namespace Go.Proofs.Ytcnmamdfiicdaaa
open Go.RowKit Me Mf Va Fr

/-- The document's reader in block b: bytes of the memory that came in. -/
def Mdr (W : World) (B : Nat) (w : World) (b : Nat) (l : List UInt8) (x : Int) : Prop :=
  ∃ A n c, Two w b (.slice A n c) (.int .i64 x) ∧ l.length = n ∧ n ≤ c ∧ n ≤ 70368744177664 ∧ Rd W B A l
/-- A number and what is left are answered: bytes of the memory W. -/
def RTells (W : World) (B : Nat) (w : World) (v : Value) (l : List UInt8) (x : Int) (e : Ending) (w' : World) : Prop :=
  Below w.heap.size w w' ∧ ∃ A n c, e = .returned (.tuple #[v, .agg #[.slice A n c, .int .i64 x]]) ∧ l.length = n ∧ n ≤ c ∧ n ≤ 70368744177664 ∧ Rd W B A l
theorem rn_any {W w : World} {B n c : Nat} {A : Option Addr} {l : List UInt8} {x : Int} (most : Nat) (hW : Below B W w) (hB : B ≤ W.heap.size) (hl : l.length = n) (hc : n ≤ c) (hn : n ≤ 70368744177664) (hr : Rd W B A l) :
    Calls Try.prog 35 #[.agg #[.slice A n c, .int .i64 x], .int .u64 (most : Int)] w (RTells W B w (.int .u64 ((numOf l x most).1 : Int)) (numOf l x most).2.1 (numOf l x most).2.2) := by
  refine (rnum_any A n c l x most w B hl hc hn (hr.below hW) (Nat.le_trans hB hW.size)).mono ?_
  rintro e w1 ⟨hb, A1, n1, c1, rfl, h1, h2, h3⟩
  refine ⟨hb, A1, n1, c1, rfl, h1, h2, ?_, rd_back h3 hW⟩
  have := (numOf_len l x most).1
  omega
/-- Bytes and what is left are answered: bytes of the memory W. -/
def RTellsB (W : World) (B : Nat) (w : World) (out l : List UInt8) (x : Int) (e : Ending) (w' : World) : Prop :=
  Below w.heap.size w w' ∧ ∃ X m d A n c, e = .returned (.tuple #[.slice X m d, .agg #[.slice A n c, .int .i64 x]]) ∧ out.length = m ∧ Rd W B X out ∧ l.length = n ∧ n ≤ c ∧ n ≤ 70368744177664 ∧ Rd W B A l
theorem rb_any {W w : World} {B n c : Nat} {A : Option Addr} {l : List UInt8} {x : Int} (k : Int) (hW : Below B W w) (hl : l.length = n) (hc : n ≤ c) (hn : n ≤ 70368744177664) (hr : Rd W B A l) :
    Calls Try.prog 36 #[.agg #[.slice A n c, .int .i64 x], .int .i64 k] w (RTellsB W B w (bytesOf l x k).1 (bytesOf l x k).2.1 (bytesOf l x k).2.2) := by
  refine (rbytes_any A n c l x k w B hl hc (hr.below hW)).mono ?_
  rintro e w1 ⟨hb, X, m, d, A1, n1, c1, rfl, h0, hx, h1, h2, h3⟩
  refine ⟨hb, X, m, d, A1, n1, c1, rfl, h0, rd_back hx hW, h1, h2, ?_, rd_back h3 hW⟩
  have := bytesOf_len l x k
  omega
/-- Cells in memory that have turned in the reader's block alone. -/
structure RF (W wr wi : World) (B g F : Nat) (l : List UInt8) (x : Int) (cs : List Value) : Prop where
  rd : Mdr W B wi g l x
  fb : Blk wi F cs
  gr : wr.grownBy wi (some g)
section
variable {W wr wi w1 : World} {B g F : Nat} {l l' : List UInt8} {x x' : Int} {cs : List Value}
theorem RF.past (h : RF W wr wi B g F l x cs) (hb : Below wi.heap.size wi w1) : RF W wr w1 B g F l x cs := by
  obtain ⟨⟨A, n, c, ht, hr⟩, hf, hg⟩ := h
  exact ⟨⟨A, n, c, ht.past hb, hr⟩, hf.past hb, hg.trans (grown_below hb _)⟩
theorem RF.put (h : RF W wr wi B g F l x cs) (hne : g ≠ F) {A : Option Addr} {n c : Nat} (hl : l'.length = n) (hc : n ≤ c) (hn : n ≤ 70368744177664) (hr : Rd W B A l') :
    RF W wr ((wi.setCell ⟨g, 0, none⟩ (.slice A n c)).setCell ⟨g, 1, none⟩ (.int .i64 x')) B g F l' x' cs := by
  obtain ⟨⟨A, n, c, ht, -⟩, hf, hg⟩ := h
  exact ⟨⟨_, _, _, ht.set _ _, hl, hc, hn, hr⟩, (hf.other (p := ⟨g, 0, none⟩) hne _).other (p := ⟨g, 1, none⟩) hne _, (hg.trans (grownBy_set _ ⟨g, 0, none⟩ _)).trans (grownBy_set _ ⟨g, 1, none⟩ _)⟩
theorem RF.set (h : RF W wr wi B g F l x cs) (hne : g ≠ F) (hF : wr.heap.size ≤ F) (i : Nat) (v : Value) : RF W wr (wi.setCell ⟨F, i, none⟩ v) B g F l x (cs.set i v) := by
  obtain ⟨⟨A, n, c, ht, hr⟩, hf, hg⟩ := h
  exact ⟨⟨A, n, c, ht.setOther (p := ⟨F, i, none⟩) (fun e => hne e.symm) v, hr⟩, hf.set i v, grown_set hg (p := ⟨F, i, none⟩) hF v⟩
theorem RF.apart (h : RF W wr wi B g F l x cs) {r : Option Nat} (hr : ∀ k, r = some k → g < k ∧ F < k ∧ wr.heap.size ≤ k) (hw : wi.grownBy w1 r) : RF W wr w1 B g F l x cs := by
  obtain ⟨⟨A, n, c, ht, hq⟩, hf, hg⟩ := h
  refine ⟨⟨A, n, c, ht.grown hw (fun e => by have := hr _ e; omega), hq⟩, hf.grown hw (fun e => by have := hr _ e; omega), ?_⟩
  exact ⟨hw.os.trans hg.os, hw.tape.trans hg.tape, hw.output.trans hg.output, Nat.le_trans hg.size hw.size, fun k hk hne => (hw.block k (by have := hg.size; omega) (fun e => by have := hr k e.symm; omega)).trans (hg.block k hk hne)⟩
theorem RF.lo (h : RF W wr wi B g F l x cs) (hW : Below B W wr) (hB : B ≤ W.heap.size) (hg : B ≤ g) : Below B W wi :=
  hW.trans ⟨h.gr.os, h.gr.tape, h.gr.output, h.gr.size, fun k hk => h.gr.block k (by have := hW.size; omega) (fun e => by injection e with e; omega)⟩
end
/-- What stands behind some blocks of a file. -/
structure RB (W wr wi : World) (B g F N : Nat) (P : Option (FileD × List UInt8)) (nm : List UInt8) (id : Nat) (sz : Int) (k : Nat) (A : Option Addr) (n c : Nat) (bs : List Int) (l : List UInt8) (x : Int) : Prop where
  rf : RF W wr wi B g F l x [sv nm, .int .u32 (id : Int), .int .i64 sz, .slice A n c]
  own : wi.ownsRow (F + 1) 3 1 (.slice A n c) n (icells bs)
  good : x = 0 → P = withB nm id sz (parseB 65536 (N - k) bs l)
  bad : x ≠ 0 → P = none
  len : bs.length = k ∧ n = k
  le : k ≤ N
  wf : ∀ b ∈ bs, 0 ≤ b ∧ b ≤ 65536
/-- What stands behind some files. -/
structure RM (W wr : World) (B g M N : Nat) (P : Option (ManD × List UInt8)) (v nx : Nat) (A : Option Addr) (n c : Nat) (fs : List FileD) (vs : List Value) (l : List UInt8) (x : Int) : Prop where
  rd : Mdr W B wr g l x
  mb : Blk wr M [.int .u64 (v : Int), .int .u32 (nx : Int), .slice A n c]
  lo : Below B W wr
  own : wr.ownsRow (M + 1) 41 4 (.slice A n c) n vs
  fc : FCells wr (M + 1) wr.heap.size (Value.slice A n c).ownBlock vs fs
  good : x = 0 → P = withM v nx (parseFs 7340032 65536 (N - n) fs l)
  bad : x ≠ 0 → P = none
  len : fs.length = n
  le : n ≤ N
  wf : ∀ f ∈ fs, WfF f
/-- Behind a file. -/
theorem rm_next {W wr wi w6 : World} {B g M N N2 : Nat} {P : Option (ManD × List UInt8)} {v nx : Nat} {A A5 A6 : Option Addr} {n c n5 c5 d6 : Nat} {fs : List FileD} {vs : List Value} {l l5 : List UInt8} {x5 : Int} {nm : List UInt8} {id : Nat} {sz : Nat} {bs : List Int}
    (R : RM W wr B g M N P v nx A n c fs vs l 0) (hW : B ≤ W.heap.size) (hgB : B ≤ g) (hgM : g < M) (hlt : n < N) (hid : id < 4294967296) (hsz : sz ≤ 7340032) (hN2 : N2 ≤ 65536)
    (I : RB W wr wi B g wr.heap.size N2 (parseF 7340032 65536 l) nm id (sz : Int) n5 A5 n5 c5 bs l5 x5) (he : x5 ≠ 0 ∨ n5 = N2)
    (ho : w6.ownsRow (M + 1) 41 4 (.slice A6 (n + 1) d6) (n + 1) (vs ++ [.string ⟨nm.toArray⟩, .int .u32 (id : Int), .int .i64 (sz : Int), .slice A5 n5 c5]))
    (hg : (wi.alloc (.cells #[.string ⟨nm.toArray⟩, .int .u32 (id : Int), .int .i64 (sz : Int), .slice A5 n5 c5] 41)).grownBy w6 (Value.slice A n c).ownBlock)
    (hloc : (Value.slice A6 (n + 1) d6).ownBlock = (Value.slice A n c).ownBlock ∨ (Value.slice A6 (n + 1) d6).ownBlock = some (wi.alloc (.cells #[.string ⟨nm.toArray⟩, .int .u32 (id : Int), .int .i64 (sz : Int), .slice A5 n5 c5] 41)).heap.size) :
    RM W (w6.setCell ⟨M, 2, none⟩ (.slice A6 (n + 1) d6)) B g M N P v nx A6 (n + 1) d6 (fs ++ [⟨nm, id, (sz : Int), bs⟩]) (vs ++ [.string ⟨nm.toArray⟩, .int .u32 (id : Int), .int .i64 (sz : Int), .slice A5 n5 c5]) l5 x5 := by
  have hA : Below wi.heap.size wi (wi.alloc (.cells #[.string ⟨nm.toArray⟩, .int .u32 (id : Int), .int .i64 (sz : Int), .slice A5 n5 c5] 41)) := (Below.refl _ _).alloc (Nat.le_refl _) _
  have hMw := R.mb.lt
  have hr : ∀ k, (Value.slice A n c).ownBlock = some k → M < k ∧ k < wr.heap.size := fun k e => R.own.lt k e
  have hgr := I.rf.gr
  obtain ⟨A', d', e, hd⟩ := own_slice' I.own
  injection e with e1 _ e3
  subst e1 e3
  have hF1 := ((R.fc.keep (q := some g) hgr (Nat.le_refl _) (fun q e => by injection e with e; omega)).more hgr.size).snoc (f := ⟨nm, id, (sz : Int), bs⟩) I.len.1 hd (by have := I.le; omega) (Cs.of_own I.own) (fun hn0 a ha => by
    obtain ⟨q, cap, hv, hb, -⟩ := I.own.form hn0
    injection hv with hv _ _
    rw [ha] at hv
    injection hv with hv
    subst hv
    refine ⟨by show M + 1 ≤ q; omega, fun e => ?_⟩
    have := (hr _ e).2
    have : wr.heap.size + 1 ≤ q := hb
    simp only at *
    omega)
  have hF2 := hF1.past hA (Nat.le_refl _)
  have hF2' := hF2.keep (q := (Value.slice A n c).ownBlock) hg hA.size (fun q e => .inr e)
  have hF3 := hF2'.row (r' := (Value.slice A6 (n + 1) d6).ownBlock) (by
    rcases hloc with h | h
    · exact .inl h
    · exact .inr ⟨_, h, hA.size⟩)
  have hF4 := (hF3.keep (q := some M) (grownBy_set w6 ⟨M, 2, none⟩ (.slice A6 (n + 1) d6)) (Nat.le_trans hA.size hg.size) (fun q e => by injection e with e; omega)).more (B' := (w6.setCell ⟨M, 2, none⟩ (.slice A6 (n + 1) d6)).heap.size) (Nat.le_trans hA.size (Nat.le_trans hg.size (by simp [World.setCell])))
  have hne : ∀ b, b ≤ M → (Value.slice A n c).ownBlock ≠ some b := fun b hb e => by have := (hr b e).1; omega
  have hlo : Below B W w6 := ((I.rf.lo R.lo hW hgB).alloc (Nat.le_trans hW (I.rf.lo R.lo hW hgB).size) _).trans ⟨hg.os, hg.tape, hg.output, hg.size, fun k hk => hg.block k (by have := (I.rf.lo R.lo hW hgB).size; have := hA.size; omega) (fun e => by have := (hr k e.symm).1; omega)⟩
  have hNn : N - n = (N - (n + 1)) + 1 := by omega
  have hgd := R.good rfl
  rw [hNn, parseFs] at hgd
  refine ⟨?_, ?_, hlo.setCell (p := ⟨M, 2, none⟩) (show B ≤ M by omega) _, ?_, hF4, fun hx => ?_, fun hx => ?_, by simp [R.len], by omega, fun f hf => ?_⟩
  · obtain ⟨A0, n0, c0, ht, hq⟩ := I.rf.rd
    exact ⟨A0, n0, c0, (((ht.past hA).grown hg (hne g (by omega))).setOther (p := ⟨M, 2, none⟩) (show M ≠ g by omega) _), hq⟩
  · exact ((((R.mb.grown hgr (fun e => by injection e with e; omega)).past hA).grown hg (hne M (Nat.le_refl _))).set 2 (.slice A6 (n + 1) d6))
  · exact ownsRow_setCell_below ho (a := ⟨M, 2, none⟩) (show M < M + 1 by omega) (.slice A6 (n + 1) d6)
  · have hk : n5 = N2 := by
      rcases he with h | h
      · exact absurd hx h
      · exact h
    have h5 := I.good hx
    rw [hk, Nat.sub_self, parseB] at h5
    rw [h5] at hgd
    exact hgd
  · rw [I.bad hx] at hgd
    exact hgd
  · rcases List.mem_append.1 hf with hf | hf
    · exact R.wf f hf
    · simp at hf
      subst hf
      exact ⟨hid, by simp only; omega, by simp only; omega, fun b hb => by have := I.wf b hb; omega⟩
end Go.Proofs.Ytcnmamdfiicdaaa
