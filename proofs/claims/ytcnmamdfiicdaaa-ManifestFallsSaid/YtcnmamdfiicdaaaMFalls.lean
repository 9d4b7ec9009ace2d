/- ManifestFalls: of manifests that were written one behind the other the last one is read; with one more under way when the power falls, that, or the one ahead of it. -/
import Derived.Test.YtcnmamdfiicdaaaFallN
import Derived.Test.YtcnmamdfiicdaaaMixed
import Derived.Test.YtcnmamdfiicdaaaMSpoil
namespace Go.Proofs.Ytcnmamdfiicdaaa
open Go.RowKit Me Mf Rw Ds

/-- A box of the law's, outside the disk's memory. -/
def Bx (w : World) (own : Nat → Prop) (b : Nat) (cs : List Value) : Prop := Blk w b cs ∧ ¬ own b
section
variable {w w' : World} {own own' : Nat → Prop} {b : Nat} {cs : List Value}
theorem Bx.past (h : Bx w own b cs) (hb : Below w.heap.size w w') : Bx w' own b cs := ⟨h.1.past hb, h.2⟩
theorem Bx.post (h : Bx w own b cs) (ho : Out own w w') (hn : ∀ j, own' j → own j ∨ w.heap.size ≤ j) : Bx w' own' b cs :=
  ⟨h.1.out ho h.2, fun hb => by
    rcases hn b hb with h1 | h1
    · exact h.2 h1
    · have := h.1.lt; omega⟩
theorem Bx.new {B D : Nat} {S : Dsk} (hd : DiskAt w B D S own) (hb : Below w.heap.size w w') (h : Blk w' b cs) (hl : w.heap.size ≤ b) : Bx w' own b cs := ⟨h, fun ho => by have := (hd.lt ho).2; omega⟩
end
/-- What stands in each round. -/
structure FSt (w : World) (D : Nat) (S : Dsk) (own : Nat → Prop) (b : Nat) (mw : ManD) (A : Option Addr) (n c : Nat) (W : World) : Prop where
  disk : DiskAt W w.heap.size D S own
  box : Bx W own b [.int .u64 (mw.version : Int), .int .u32 (mw.next : Int), .slice A n c]
  man : ManAt W w.heap.size A n c mw
  below : Below w.heap.size w W
section
variable {w W W' : World} {D b n c : Nat} {S S' : Dsk} {own own' : Nat → Prop} {mw : ManD} {A : Option Addr}
theorem FSt.past (h : FSt w D S own b mw A n c W) (hb : Below W.heap.size W W') : FSt w D S own b mw A n c W' :=
  ⟨h.disk.past hb, h.box.past hb, h.man.below (hb.mono h.below.size), h.below.trans (hb.mono h.below.size)⟩
theorem FSt.post (h : FSt w D S own b mw A n c W) (hd : DiskAt W' w.heap.size D S' own') (ho : Out own W W') (hn : ∀ j, own' j → own j ∨ W.heap.size ≤ j) : FSt w D S' own' b mw A n c W' := by
  have hb : Below w.heap.size W W' := ho.below (fun j _ hj => (h.disk.lt hj).1) h.below.size
  exact ⟨hd, h.box.post ho hn, h.man.below hb, h.below.trans hb⟩
end
/-- What is known of each slot of the region that reads both slots. -/
def aheadG (q : Nat) (dv : Value) (ah0 ah1 : List UInt8) : Gw.Fact := fun t v w =>
  match t with
  | 17 => v = .pointer (some ⟨q, 0, none⟩)
  | 86 | 89 => v = dv
  | 87 => ∃ X t, (∃ cx, v = .slice X t cx) ∧ ah0.length = t ∧ Rd w w.heap.size X ah0
  | 90 => ∃ X t, (∃ cx, v = .slice X t cx) ∧ ah1.length = t ∧ Rd w w.heap.size X ah1
  | 88 | 18 => v = strQ ah0
  | 91 | 19 => v = strQ ah1
  | _ => True
theorem same_eq (A A' : Option Addr) (n n' c c' : Nat) (a b : ManD) (w : World) (h : ManAt w w.heap.size A n c a) (h' : ManAt w w.heap.size A' n' c' b) (hab : a = b) :
    Calls Try.prog 11 #[mval a.version a.next A n c, mval b.version b.next A' n' c'] w fun e w' => e = .returned (.bool true) ∧ Below w.heap.size w w' :=
  (msame_any A A' n n' c c' a b w h h').mono fun e w' ⟨x, he, hb, hw⟩ => ⟨by rw [he, hb.2 hab], hw⟩
section
variable {w w' : World} {q : Nat} {x f : Int} {o : Bool} {A A' : Option Addr} {n c n' c' : Nat}
/-- A number in memory, through a store into the box of a disk that leaves the box's numbers. -/
theorem int_box {v1 v2 : Value} {o' : Bool} {p : Addr} {z : Int} (hb : Blk w q [.int .i64 x, .bool o, .int .i64 f, .slice A n c, .slice A' n' c']) (hb' : Blk w' q [.int .i64 x, .bool o', .int .i64 f, v1, v2]) (ho : Out (fun k => k = q) w w') (hlt : p.block < w.heap.size) (hc : w.cell? p = some (.int .i64 z)) : w'.cell? p = some (.int .i64 z) := by
  by_cases e : p.block = q
  · obtain ⟨t, h⟩ := hb
    obtain ⟨t', h'⟩ := hb'
    unfold World.cell? at hc ⊢
    rw [e, h] at hc
    rw [e, h']
    simp only at hc ⊢
    split at hc
    · cases hc
    · rename_i hs
      rw [if_neg hs]
      generalize p.off = i at hc ⊢
      match i with
      | 0 => exact hc
      | 1 => simp at hc
      | 2 => exact hc
      | 3 => simp at hc
      | 4 => simp at hc
      | i + 5 => simp at hc
  · exact (ho.cell hlt e).trans hc
/-- A manifest, the document's disk in memory, through a store into the box of such a disk. -/
theorem ManAt.dbox {v1 v2 : Value} {o' : Bool} {L : Option Addr} {k d : Nat} {m : ManD} (h : ManAt w w.heap.size L k d m) (hb : Blk w q [.int .i64 x, .bool o, .int .i64 f, .slice A n c, .slice A' n' c']) (hb' : Blk w' q [.int .i64 x, .bool o', .int .i64 f, v1, v2]) (ho : Out (fun k => k = q) w w') : ManAt w' w'.heap.size L k d m := by
  refine ⟨fun hn => ?_, h.len, h.cap, h.most, h.wf⟩
  obtain ⟨a, rfl, h1, hc⟩ := h.files hn
  refine ⟨a, rfl, Nat.lt_of_lt_of_le h1 ho.size, fun i g hg => ?_⟩
  obtain ⟨A1, n1, c1, g0, g1, g2, g3, g4, g5, g6, g7⟩ := hc i g hg
  have hne : (a.add (i * 4)).block ≠ q := hb.ne g0 (by simp [sv])
  have hlt : (a.add (i * 4)).block < w.heap.size := by rw [block_add]; exact h1
  refine ⟨A1, n1, c1, (ho.cell hlt hne).trans g0, (ho.cell (p := ⟨_, _, Option.none⟩) hlt hne).trans g1, (ho.cell (p := ⟨_, _, Option.none⟩) hlt hne).trans g2, (ho.cell (p := ⟨_, _, Option.none⟩) hlt hne).trans g3, g4, g5, g6, fun hn' => ?_⟩
  obtain ⟨y, rfl, q1, q2⟩ := g7 hn'
  refine ⟨y, rfl, Nat.lt_of_lt_of_le q1 ho.size, fun j u hu => ?_⟩
  have hmem := List.mem_of_getElem? hu
  obtain ⟨z, -, rfl⟩ := List.mem_map.1 hmem
  exact int_box hb hb' ho (by rw [block_add]; exact q1) (q2 j _ hu)
theorem Cy.dbox {own : Nat → Prop} {L : Option Addr} {l : List WD} (h : Cy w own L l) (hb : Blk w q [.int .i64 x, .bool o, .int .i64 f, .slice A n c, .slice A' n' c']) (ho : Out (fun k => k = q) w w') : Cy w' own L l := fun hn => by
  obtain ⟨y, hy⟩ : ∃ y, l[0]? = some y := ⟨_, List.getElem?_eq_getElem hn⟩
  obtain ⟨g, e, q1, q2, -, q4⟩ := h.at hy
  have hne : g ≠ q := hb.ne (p := ⟨g, 0 * 2 + 1, none⟩) q4 (by simp [sv])
  obtain ⟨g', e', h1, h2, h3⟩ := h hn
  rw [e] at e'
  injection e' with e'
  injection e' with e'
  subst e'
  exact ⟨g, e, Nat.lt_of_lt_of_le h1 ho.size, h2, fun i v hv => (ho.cell (p := ⟨g, i, none⟩) h1 hne).trans (h3 i v hv)⟩
theorem RefAt.dbox {own : Nat → Prop} {M : RefM} {Am Aw : Option Addr} {cm cw : Nat} (h : RefAt w own M Am cm Aw cw) (hb : Blk w q [.int .i64 x, .bool o, .int .i64 f, .slice A n c, .slice A' n' c']) (ho : Out (fun k => k = q) w w') : RefAt w' own M Am cm Aw cw :=
  ⟨h.made.dbox hb ho, h.wait.dbox hb ho, h.cm, h.cw⟩
end
set_option maxRecDepth 100000 in
set_option maxHeartbeats 16000000 in
theorem mfalls_law (A : Option Addr) (n c : Nat) (l : List ManD) (z : Int) (K Tn : Nat) (w : World) (hl : l.length = n) (hn : n ≤ c) (hn63 : n ≤ 9223372036854775807) (hm : Mans w w.heap.size A l) (hz : z ≤ 9223372036854775807) (hK : K < 18446744073709551616) (hTn : Tn < 18446744073709551616) :
    Calls Try.prog 5 #[.slice A n c, .int .i64 z, .int .u64 (K : Int), .int .u64 (Tn : Int)] w fun e w' => e = .returned (.bool true) ∧ Below w.heap.size w w' := by
  have HL := Lib.hid hl
  have HM := Lib.hid hm
  clear hl hm
  by_cases h20 : 20 < n
  · go_enter Try.func5, Try.ntmps5
    go_wp2_with (go_at_call 8; refine (awake_any _).mono ?_; rintro e w5 ⟨rfl, hb5⟩)
    go_ret
    exact ⟨rfl, hb5⟩
  go_enter Try.func5, Try.ntmps5
  go_wp2_with fail
  refine (dnew_any 40 (by omega) (by omega) w).mono ?_
  rintro e w1 ⟨D, own, rfl, hd, hb1⟩
  obtain ⟨w2, hw2⟩ : ∃ w2, w2 = w1.alloc (.cells #[.int .u64 0, .int .u32 0, .slice none 0 0] 28) := ⟨_, rfl⟩
  obtain ⟨H, hH⟩ : ∃ H, H = w1.heap.size := ⟨_, rfl⟩
  have HW2 := Lib.hid hw2
  have HH := Lib.hid hH
  have hb2 : Below w1.heap.size w1 w2 := by rw [hw2]; exact (Below.refl _ _).alloc (Nat.le_refl _) _
  have F2 := Lib.hid (show FSt w D (newD 40) own H noMan none 0 0 w2 from
    ⟨hd.past hb2, Bx.new hd hb2 (by rw [hw2, hH]; exact Blk.new w1 [.int .u64 0, .int .u32 0, .slice none 0 0] _) (by omega), ManAt.none _ _, hb1.trans (hb2.mono hb1.size)⟩)
  have HSZ := Lib.hid (show w.heap.size ≤ H by have := hb1.size; omega)
  clear hw2 hH hb1 hb2 hd
  go_upto_region 7 with fail
  rw [← HW2.out, ← HH.out]
  have HHL := Lib.hid HSZ.out
  clear HW2 HH
  go_wp2_with fail
  go_loopw [12] (fun i wr => ∃ (k : Nat) (S : Dsk) (own' : Nat → Prop) (mw : ManD) (Aw : Option Addr) (nw cw : Nat), k ≤ n ∧ i = .int .i64 (k : Int) ∧ Hid (FSt w D S own' H mw Aw nw cw wr) ∧ Hid (Old S mw)) (fun i _ => n - (intOf i).toNat)
  case atStart => exact ⟨0, newD 40, own, noMan, none, 0, 0, Nat.zero_le _, rfl, F2, Lib.hid Old.new⟩
  case round =>
    clear F2
    obtain ⟨k, S, own', mw, Aw, nw, cw, hkn, rfl, F, HO⟩ := hrel
    by_cases hlt : k < n
    · obtain ⟨a, mk, Ak, nk, ck, rfl, g0, g1, g2, g3⟩ : ∃ a mk Ak nk ck, A = some a ∧ wr.cell? (a.add (k * 3)) = some (.int .u64 (mk.version : Int)) ∧ wr.cell? ⟨(a.add (k * 3)).block, (a.add (k * 3)).off + 1, none⟩ = some (.int .u32 (mk.next : Int)) ∧ wr.cell? ⟨(a.add (k * 3)).block, (a.add (k * 3)).off + 2, none⟩ = some (.slice Ak nk ck) ∧ ManAt wr w.heap.size Ak nk ck mk := by
        have hk' : k < l.length := by rw [HL.out]; exact hlt
        obtain ⟨a, e, h1, hc⟩ := (HM.out.below F.out.below) (by omega)
        obtain ⟨Ak, nk, ck, g0, g1, g2, g3⟩ := hc k l[k] (List.getElem?_eq_getElem hk')
        exact ⟨a, l[k], Ak, nk, ck, e, g0, g1, g2, g3⟩
      obtain ⟨m, hm⟩ : ∃ m : ManD, m = ⟨(mw.version + 1) % 18446744073709551616, mk.next, mk.files⟩ := ⟨_, rfl⟩
      have HMM := Lib.hid (show ManAt wr w.heap.size Ak nk ck m by rw [hm]; exact ⟨g3.files, g3.len, g3.cap, g3.most, ⟨Nat.mod_lt _ (by omega), g3.wf.next, g3.wf.files⟩⟩)
      have e1 : IntKind.u64.wrap ((mw.version : Int) + 1) = (m.version : Int) := by
        rw [hm]
        simp [IntKind.wrap, IntKind.bits, IntKind.signed]
        try omega
      have hnx : mk.next = m.next := by rw [hm]
      rw [hnx] at g1
      obtain ⟨u0, hu0⟩ : ∃ u0, u0 = mk.version := ⟨_, rfl⟩
      rw [← hu0] at g0
      have x0 := F.out.box.1.cell (i := 0) rfl
      obtain ⟨b, hb⟩ : ∃ b, b = wr.heap.size := ⟨_, rfl⟩
      have HBN := Lib.hid hb
      have hHb : H < wr.heap.size := F.out.box.1.lt
      have HBX := Lib.hid (Blk.new wr [.int .u64 (m.version : Int), .int .u32 (m.next : Int), .slice Ak nk ck] 28)
      obtain ⟨w3, hw3⟩ : ∃ w3, w3 = wr.alloc (.cells #[.int .u64 (m.version : Int), .int .u32 (m.next : Int), .slice Ak nk ck] 28) := ⟨_, rfl⟩
      have HW3 := Lib.hid hw3
      have hb3 : Below wr.heap.size wr w3 := by rw [hw3]; exact (Below.refl _ _).alloc (Nat.le_refl _) _
      have F3 := Lib.hid (F.out.past hb3)
      have M3 := Lib.hid (show ManAt w3 w.heap.size Ak nk ck m from HMM.out.below (hb3.mono F.out.below.size))
      have B3 := Lib.hid (Bx.new F.out.disk hb3 (show Blk w3 b [.int .u64 (m.version : Int), .int .u32 (m.next : Int), .slice Ak nk ck] by rw [hw3, hb]; exact HBX.out) (by omega))
      clear hu0 hnx hm g3 hb3 hw3 hb HMM HBX
      go_upto_region 12 with fail
      rw [← HW3.out, ← HBN.out]
      clear HW3 g0 g1 g2 e1 x0
      have HBL := Lib.hid (show w.heap.size ≤ b ∧ H < b by have := F.out.below.size; have := HBN.out; omega)
      obtain ⟨i0, i1, i2⟩ : w3.cell? ⟨b, 0, none⟩ = some (.int .u64 (m.version : Int)) ∧ w3.cell? ⟨b, 1, none⟩ = some (.int .u32 (m.next : Int)) ∧ w3.cell? ⟨b, 2, none⟩ = some (.slice Ak nk ck) := ⟨B3.out.1.cell rfl, B3.out.1.cell rfl, B3.out.1.cell rfl⟩
      go_wp2_with fail
      refine (great_any m.version m.next Ak nk ck m w3 (M3.out.more F3.out.below.size)).mono ?_
      rintro e w4 ⟨b1, rfl, ht4, hb4⟩
      have F4 := Lib.hid (F3.out.past hb4)
      have M4 := Lib.hid (M3.out.below (hb4.mono F3.out.below.size))
      have B4 := Lib.hid (B3.out.past hb4)
      have HT := Lib.hid ht4
      clear ht4 hb4 i0 i1 i2 F3 M3 B3
      cases b1 with
      | true =>
        go_wp2_with fail
        refine (awake_any w4).mono ?_
        rintro e w5 ⟨rfl, hb5⟩
        have HB5 := Lib.hid (F4.out.below.trans (hb5.mono F4.out.below.size))
        clear hb5
        go_wp2
        go_ret
        exact ⟨rfl, HB5.out⟩
      | false =>
      have HTY := Lib.hid (show Tiny m from Classical.byContradiction fun hc => by have := HT.out.2 hc; cases this)
      have hn60 : nk ≤ 60 := by rw [← M4.out.len]; exact HTY.out.1
      obtain ⟨i0, i1, i2⟩ : w4.cell? ⟨b, 0, none⟩ = some (.int .u64 (m.version : Int)) ∧ w4.cell? ⟨b, 1, none⟩ = some (.int .u32 (m.next : Int)) ∧ w4.cell? ⟨b, 2, none⟩ = some (.slice Ak nk ck) := ⟨B4.out.1.cell rfl, B4.out.1.cell rfl, B4.out.1.cell rfl⟩
      go_wp2_with fail
      refine (rmay_any Ak nk ck m w4 (by omega) (fun hg => by have := tiny_body HTY.out M4.out.wf hg; omega) (M4.out.more F4.out.below.size)).mono ?_
      rintro e w5 ⟨b2, rfl, ht5, hb5⟩
      have F5 := Lib.hid (F4.out.past hb5)
      have M5 := Lib.hid (M4.out.below (hb5.mono F4.out.below.size))
      have B5 := Lib.hid (B4.out.past hb5)
      have HFT := Lib.hid ht5
      clear ht5 hb5 i0 i1 i2 F4 M4 B4
      cases b2 with
      | false =>
        go_wp2_with fail
        refine (awake_any w5).mono ?_
        rintro e w6 ⟨rfl, hb6⟩
        have HB6 := Lib.hid (F5.out.below.trans (hb6.mono F5.out.below.size))
        clear hb6
        go_wp2
        go_ret
        exact ⟨rfl, HB6.out⟩
      | true =>
      have HFIT := Lib.hid (show Fit m from HFT.out.1 (by trivial))
      have HWF := Lib.hid M5.out.wf
      clear HFT HT
      by_cases hlast : k + 1 < n
      · have hlast' : (k : Int) < (n : Int) - 1 := by omega
        obtain ⟨i0, i1, i2⟩ : w5.cell? ⟨b, 0, none⟩ = some (.int .u64 (m.version : Int)) ∧ w5.cell? ⟨b, 1, none⟩ = some (.int .u32 (m.next : Int)) ∧ w5.cell? ⟨b, 2, none⟩ = some (.slice Ak nk ck) := ⟨B5.out.1.cell rfl, B5.out.1.cell rfl, B5.out.1.cell rfl⟩
        have HMW := Lib.hid (mwrite_any F5.out.disk Ak nk ck m (M5.out.more F5.out.below.size) (fit_small HFIT.out) HFIT.out (by rw [HO.out.calm.pend]; simp))
        obtain ⟨hz2, ho2⟩ := HO.out.write HFIT.out HWF.out
        have hwr := fun (T : Nat → Option ManD) (Z : Nat → Bool) => HO.out.written (T := T) (Z := Z) HFIT.out HWF.out
        obtain ⟨S2, hS2⟩ : ∃ S2, S2 = (wmD S m 2).1 := ⟨_, rfl⟩
        rw [hz2, ← hS2] at HMW
        rw [← hS2] at ho2 hwr
        have HO2 := Lib.hid ho2
        obtain ⟨T, Z, hT, hZ⟩ := slots_say S2
        have HA := Lib.hid (hwr T Z hT)
        have HT := Lib.hid hT
        have HZ := Lib.hid hZ
        clear hz2 ho2 hwr hS2 hT hZ
        go_wp2_with fail
        refine HMW.out.mono ?_
        rintro e w6 ⟨rfl, own2, hd6, ho6, hn6⟩
        have F6 := Lib.hid (F5.out.post hd6 ho6 hn6)
        have M6 := Lib.hid (M5.out.below (ho6.below (B := w.heap.size) (fun j _ hj => (F5.out.disk.lt hj).1) F5.out.below.size))
        have B6 := Lib.hid (B5.out.post ho6 hn6)
        have HRD := mread_any F6.out.disk (by rw [HO2.out.calm.pend]; simp) HT.out HZ.out
        rw [HA.out] at HRD
        have HRR := Lib.hid HRD
        clear hd6 ho6 hn6 i0 i1 i2 HMW HRD F5 M5 B5
        go_wp2_with fail
        refine HRR.out.mono ?_
        rintro e w7 ⟨hb7, A3, n3, c3, he, hm3⟩
        replace he : e = .returned (.tuple #[mval m.version m.next A3 n3 c3, .int .i64 0]) := he
        subst he
        obtain ⟨w8, hw8⟩ : ∃ w8, w8 = w7.alloc (.cells #[.int .u64 (m.version : Int), .int .u32 (m.next : Int), .slice A3 n3 c3] 28) := ⟨_, rfl⟩
        have HW8 := Lib.hid hw8
        have hb8 : Below w7.heap.size w7 w8 := by rw [hw8]; exact (Below.refl _ _).alloc (Nat.le_refl _) _
        have X8 := (show Blk w8 w7.heap.size [.int .u64 (m.version : Int), .int .u32 (m.next : Int), .slice A3 n3 c3] by rw [hw8]; exact Blk.new w7 [.int .u64 (m.version : Int), .int .u32 (m.next : Int), .slice A3 n3 c3] _)
        have hb68 : Below w6.heap.size w6 w8 := hb7.trans (hb8.mono hb7.size)
        have F8 := Lib.hid (F6.out.past hb68)
        have M8 := Lib.hid (M6.out.below (hb68.mono F6.out.below.size))
        have B8 := Lib.hid (B6.out.past hb68)
        have HM8 := Lib.hid (show ManAt w8 w8.heap.size A3 n3 c3 m from (hm3.past hb8))
        obtain ⟨i0, i1, i2⟩ : w8.cell? ⟨b, 0, none⟩ = some (.int .u64 (m.version : Int)) ∧ w8.cell? ⟨b, 1, none⟩ = some (.int .u32 (m.next : Int)) ∧ w8.cell? ⟨b, 2, none⟩ = some (.slice Ak nk ck) := ⟨B8.out.1.cell rfl, B8.out.1.cell rfl, B8.out.1.cell rfl⟩
        obtain ⟨x0, x1, x2⟩ : w8.cell? ⟨w7.heap.size, 0, none⟩ = some (.int .u64 (m.version : Int)) ∧ w8.cell? ⟨w7.heap.size, 1, none⟩ = some (.int .u32 (m.next : Int)) ∧ w8.cell? ⟨w7.heap.size, 2, none⟩ = some (.slice A3 n3 c3) := ⟨X8.cell rfl, X8.cell rfl, X8.cell rfl⟩
        have hb7l : b < w7.heap.size := Nat.lt_of_lt_of_le B6.out.1.lt hb7.size
        rw [hw8] at i0 i1 i2 x0 x1 x2
        clear hb7 hm3 hb8 hb68 hw8 X8 F6 M6 B6 HRR
        go_wp2_with fail
        rw [← HW8.out]
        refine (same_self A3 Ak n3 nk c3 ck m w8 HM8.out (M8.out.more F8.out.below.size)).mono ?_
        rintro e w9 ⟨rfl, hb9⟩
        have F9 := Lib.hid (F8.out.past hb9)
        have M9 := Lib.hid (M8.out.below (hb9.mono F8.out.below.size))
        have B9 := Lib.hid (B8.out.past hb9)
        clear hb9 i0 i1 i2 x0 x1 x2 HW8 F8 M8 B8 HM8
        obtain ⟨i0, i1, i2⟩ : w9.cell? ⟨b, 0, none⟩ = some (.int .u64 (m.version : Int)) ∧ w9.cell? ⟨b, 1, none⟩ = some (.int .u32 (m.next : Int)) ∧ w9.cell? ⟨b, 2, none⟩ = some (.slice Ak nk ck) := ⟨B9.out.1.cell rfl, B9.out.1.cell rfl, B9.out.1.cell rfl⟩
        go_wp2_with (refine wpList_store_blk rfl 28 _ _ rfl H _ #[.int .u64 (m.version : Int), .int .u32 (m.next : Int), .slice Ak nk ck] rfl rfl F9.out.box.1 rfl man_size (man_one _ _ _ _ _) ?_
                     intro w10 hb10 ho10
                     have F10 := Lib.hid (show FSt w D S2 own2 H m Ak nk ck w10 from by
                       have hbl : Below w.heap.size w9 w10 := ho10.below (fun j _ hj => by have := HBL.out; have := HHL.out; omega) F9.out.below.size
                       exact ⟨F9.out.disk.out ho10 (fun j hj e => F9.out.box.2 (e ▸ hj)), ⟨hb10, F9.out.box.2⟩, M9.out.below hbl, F9.out.below.trans hbl⟩)
                     clear hb10 ho10 i0 i1 i2)
        go_roundw
        case rel => exact ⟨k + 1, S2, own2, m, Ak, nk, ck, by omega, by go_num, F10, HO2⟩
        case measure => simp [intOf]; omega
      · have hlast' : ¬ (k : Int) < (n : Int) - 1 := by omega
        clear hlast
        have HMD := Lib.hid (model_any F5.out.disk (by rw [HO.out.calm.pend]; simp) HO.out.on)
        obtain ⟨M, hM⟩ : ∃ M, M = mdlR S := ⟨_, rfl⟩
        rw [← hM] at HMD
        have HMM := Lib.hid hM
        have HMW := Lib.hid (show M.wait.length = 0 by rw [hM]; rfl)
        have HRL := Lib.hid (show ∀ i, (readR M i).length ≤ 128 by rw [hM]; exact readR_mdl_le F5.out.disk.good)
        have HA0 := Lib.hid (show slotR M 0 16 = slotS S.stored 0 16 by rw [hM, slotR_mdl HO.out.on (by omega) 16 (Nat.le_refl _), HO.out.slot (by omega)])
        have HA1 := Lib.hid (show slotR M 1 16 = slotS S.stored 1 16 by rw [hM, slotR_mdl HO.out.on (by omega) 16 (Nat.le_refl _), HO.out.slot (by omega)])
        clear hM
        go_wp2_with fail
        refine HMD.out.mono ?_
        rintro e w6 ⟨hb6, Am, nm, cm, rfl, hnm, hnm32, href⟩
        have HNM := Lib.hid hnm
        obtain ⟨q, hq⟩ : ∃ q, q = w6.heap.size := ⟨_, rfl⟩
        obtain ⟨w7, hw7⟩ : ∃ w7, w7 = w6.alloc (.cells #[.int .i64 (M.count : Int), .bool M.off, .int .i64 M.fuse, .slice Am nm cm, .slice none 0 0] 51) := ⟨_, rfl⟩
        have HW7 := Lib.hid hw7
        have HQ := Lib.hid hq
        have hb7 : Below w6.heap.size w6 w7 := by rw [hw7]; exact (Below.refl _ _).alloc (Nat.le_refl _) _
        have hb57 : Below w5.heap.size w5 w7 := hb6.trans (hb7.mono hb6.size)
        have F7 := Lib.hid (F5.out.past hb57)
        have M7 := Lib.hid (M5.out.below (hb57.mono F5.out.below.size))
        have B7 := Lib.hid (B5.out.past hb57)
        have Q7 := Lib.hid (Bx.new F5.out.disk hb57 (show Blk w7 q [.int .i64 (M.count : Int), .bool M.off, .int .i64 M.fuse, .slice Am nm cm, .slice none 0 0] by rw [hw7, hq]; exact Blk.new w6 [.int .i64 (M.count : Int), .bool M.off, .int .i64 M.fuse, .slice Am nm cm, .slice none 0 0] _) (by rw [hq]; exact hb6.size))
        have RF7 := Lib.hid (href.past hb7)
        have HQL := Lib.hid (show w.heap.size ≤ q ∧ H < q ∧ b < q by
          have h1 := hb6.size; have h2 := B5.out.1.lt; have h3 := F5.out.box.1.lt; have h4 := F5.out.below.size; omega)
        clear hnm hw7 hq hb6 hb7 hb57 href HMD F5 M5 B5
        have HSL := Lib.hid (fun (k : Nat) (hk : k ≤ 1) (W : World) (hB : Below w7.heap.size w7 W) => rslot_any (RF7.out.past hB) HNM.out HMW.out (by omega) (by omega) HRL.out k hk)
        obtain ⟨ah0, hah0⟩ : ∃ ah0, ah0 = slotR M 0 16 := ⟨_, rfl⟩
        obtain ⟨ah1, hah1⟩ : ∃ ah1, ah1 = slotR M 1 16 := ⟨_, rfl⟩
        have HS0 := Lib.hid (show ∀ (W : World), Below w7.heap.size w7 W → Calls Try.prog 19 #[.agg #[.int .i64 (M.count : Int), .bool M.off, .int .i64 M.fuse, .slice Am nm cm, .slice none 0 0], .int .i64 0] W fun e w' => Below W.heap.size W w' ∧ ∃ A t c, e = .returned (.slice A t c) ∧ ah0.length = t ∧ t ≤ c ∧ c ≤ 9223372036854775807 ∧ t ≤ 2048 ∧ Rd w' w'.heap.size A ah0 from fun W hB => by rw [hah0]; exact HSL.out 0 (by omega) W hB)
        have HS1 := Lib.hid (show ∀ (W : World), Below w7.heap.size w7 W → Calls Try.prog 19 #[.agg #[.int .i64 (M.count : Int), .bool M.off, .int .i64 M.fuse, .slice Am nm cm, .slice none 0 0], .int .i64 1] W fun e w' => Below W.heap.size W w' ∧ ∃ A t c, e = .returned (.slice A t c) ∧ ah1.length = t ∧ t ≤ c ∧ c ≤ 9223372036854775807 ∧ t ≤ 2048 ∧ Rd w' w'.heap.size A ah1 from fun W hB => by rw [hah1]; exact HSL.out 1 (by omega) W hB)
        rw [← hah0] at HA0
        rw [← hah1] at HA1
        clear hah0 hah1 HSL RF7
        go_upto_region 21 with fail
        rw [← HW7.out, ← HQ.out]
        clear HW7 HQ
        refine Gw.wp_region_grow (aheadG q (.agg #[.int .i64 (M.count : Int), .bool M.off, .int .i64 M.fuse, .slice Am nm cm, .slice none 0 0]) ah0 ah1) [86, 87, 88, 89, 90, 91, 18, 19] [([17], none), ([86], none), ([87], none), ([17], none), ([89], none), ([90], none), ([88], none), ([91], none)] 160 (by kernel_rfl) (by kernel_rfl) rfl ?h0 ?hreq ?hend
        case h0 =>
          intro t W hnd _
          unfold aheadG
          split <;> first | rfl | trivial | exact absurd (by simp) hnd
        case hreq =>
          refine ⟨?_, ?_, ?_, ?_, ?_, ?_, ?_, ?_, trivial⟩
          all_goals
            intro ac W hg hk
            obtain ⟨k0, k1, k2, k3, k4⟩ := (Q7.out.1.past (show Below w7.heap.size w7 W from hg)).five
            simp only [Gw.Knows, aheadG] at hk
            try (simp [go_sem, Gw.OpReq, Gw.Ok, Gw.Post, Gw.Holds, aheadG, Gw.Grows.refl, hk, k0, k1, k2, k3, k4]; done)
          · simp [go_sem, Gw.OpReq, Gw.Ok, Gw.Post, Gw.Holds, aheadG, Gw.Grows.refl, hk]
            refine (HS0.out W hg).mono ?_
            rintro e w5 ⟨hb5, X, t, cx, rfl, h1, -, -, -, h2⟩
            exact ⟨_, rfl, hb5, fun W2 hW2 => ⟨X, t, ⟨cx, rfl⟩, h1, (h2.below hW2).more (Below.size hW2)⟩⟩
          · obtain ⟨⟨X, t, ⟨cx, he⟩, h1, h2⟩, -⟩ := hk
            have k3 : (convert 22 9 (.slice X t cx)).run Try.prog W = .ok (strQ ah0) W := str_any X t cx ah0 W _ h1 h2
            simp [go_sem, Gw.OpReq, Gw.Ok, Gw.Post, Gw.Holds, aheadG, Gw.Grows.refl, he, k3]
          · simp [go_sem, Gw.OpReq, Gw.Ok, Gw.Post, Gw.Holds, aheadG, Gw.Grows.refl, hk]
            refine (HS1.out W hg).mono ?_
            rintro e w5 ⟨hb5, X, t, cx, rfl, h1, -, -, -, h2⟩
            exact ⟨_, rfl, hb5, fun W2 hW2 => ⟨X, t, ⟨cx, rfl⟩, h1, (h2.below hW2).more (Below.size hW2)⟩⟩
          · obtain ⟨⟨X, t, ⟨cx, he⟩, h1, h2⟩, -⟩ := hk
            have k3 : (convert 22 9 (.slice X t cx)).run Try.prog W = .ok (strQ ah1) W := str_any X t cx ah1 W _ h1 h2
            simp [go_sem, Gw.OpReq, Gw.Ok, Gw.Post, Gw.Holds, aheadG, Gw.Grows.refl, he, k3]
        case hend =>
          intro x' w8 hg hx'
          have h18 := (hx' 18 (by simp)).now
          have h19 := (hx' 19 (by simp)).now
          have hb8 : Below w7.heap.size w7 w8 := hg
          have F8 := Lib.hid (F7.out.past hb8)
          have M8 := Lib.hid (M7.out.below (hb8.mono F7.out.below.size))
          have B8 := Lib.hid (B7.out.past hb8)
          have Q8 := Lib.hid (Q7.out.past hb8)
          clear hx' hg hb8 F7 M7 B7 Q7 HS0 HS1
          simp only [Gw.putAll, Act.put, List.setIfInBounds_toArray, List.set_cons_zero, List.set_cons_succ]
          rw [show x' 18 = sv ah0 from h18, show x' 19 = sv ah1 from h19]
          clear h18 h19
          have HFU := Lib.hid (fuse_any F8.out.disk z hz)
          go_wp2_with fail
          refine HFU.out.mono ?_
          rintro e w9 ⟨rfl, own2, hd9, ho9, hn9⟩
          have F9 := Lib.hid (F8.out.post hd9 ho9 hn9)
          have M9 := Lib.hid (M8.out.below (ho9.below (B := w.heap.size) (fun j _ hj => (F8.out.disk.lt hj).1) F8.out.below.size))
          have B9 := Lib.hid (B8.out.post ho9 hn9)
          have Q9 := Lib.hid (Q8.out.post ho9 hn9)
          clear hd9 ho9 hn9 F8 M8 B8 Q8 HFU
          obtain ⟨i0, i1, i2⟩ : w9.cell? ⟨b, 0, none⟩ = some (.int .u64 (m.version : Int)) ∧ w9.cell? ⟨b, 1, none⟩ = some (.int .u32 (m.next : Int)) ∧ w9.cell? ⟨b, 2, none⟩ = some (.slice Ak nk ck) := ⟨B9.out.1.cell rfl, B9.out.1.cell rfl, B9.out.1.cell rfl⟩
          have HWR := Lib.hid (mwrite_any F9.out.disk Ak nk ck m (M9.out.more F9.out.below.size) (fit_small HFIT.out) HFIT.out (by rw [show ({ S with fuse := max z (-1) } : Dsk).pend = [] from HO.out.calm.pend]; simp))
          have hpen : (wmD { S with fuse := max z (-1) } m 2).1.pend.length ≤ 32 := by
            have h1 := wmD_pend { S with fuse := max z (-1) } m 2
            have h0 : ({ S with fuse := max z (-1) } : Dsk).pend.length = 0 := by show S.pend.length = 0; rw [HO.out.calm.pend]; rfl
            omega
          have HS3 := Lib.hid (fallD_size HO.out HFIT.out z K Tn)
          have HAN := Lib.hid (fun (Tl : Nat → Option ManD) (Z : Nat → Bool) => fall_ans (Tl := Tl) (Z := Z) HO.out HFIT.out HWF.out z K Tn)
          obtain ⟨x2, hx2⟩ : ∃ x2, x2 = (wmD { S with fuse := max z (-1) } m 2).2 := ⟨_, rfl⟩
          rw [← hx2] at HWR HAN
          clear hx2
          go_wp2_with fail
          refine HWR.out.mono ?_
          rintro e w10 ⟨rfl, own3, hd10, ho10, hn10⟩
          have F10 := Lib.hid (F9.out.post hd10 ho10 hn10)
          have M10 := Lib.hid (M9.out.below (ho10.below (B := w.heap.size) (fun j _ hj => (F9.out.disk.lt hj).1) F9.out.below.size))
          have B10 := Lib.hid (B9.out.post ho10 hn10)
          have Q10 := Lib.hid (Q9.out.post ho10 hn10)
          have HBK := Lib.hid (back_any F10.out.disk K Tn hK hTn (by omega))
          obtain ⟨S3, hS3⟩ : ∃ S3, S3 = fallD S z m K Tn := ⟨_, rfl⟩
          rw [show backD K Tn (wmD { S with fuse := max z (-1) } m 2).1 = S3 from hS3.symm] at HBK
          rw [← hS3] at HS3 HAN
          clear hd10 ho10 hn10 F9 M9 B9 Q9 HWR i0 i1 i2 hpen hS3
          go_wp2_with fail
          refine HBK.out.mono ?_
          rintro e w11 ⟨rfl, own4, hd11, ho11, hn11⟩
          have F11 := Lib.hid (F10.out.post hd11 ho11 hn11)
          have M11 := Lib.hid (M10.out.below (ho11.below (B := w.heap.size) (fun j _ hj => (F10.out.disk.lt hj).1) F10.out.below.size))
          have B11 := Lib.hid (B10.out.post ho11 hn11)
          have Q11 := Lib.hid (Q10.out.post ho11 hn11)
          obtain ⟨T, Z, hT, hZ⟩ := slots_say S3
          have HP := Lib.hid (HAN.out T Z hT hZ)
          have HT := Lib.hid hT
          have HZ := Lib.hid hZ
          have HRD := mread_any F11.out.disk (by rw [HS3.out.2.2]; simp) HT.out HZ.out
          have hans := (ans_on (S := S3) HS3.out.2.1 T Z)
          obtain ⟨⟨pm, px⟩, hp⟩ : ∃ p, p = ansD S3 T Z := ⟨_, rfl⟩
          rw [← hp] at HRD HP hans
          have HRR := Lib.hid HRD
          have HANS := Lib.hid hans
          have HMD3 := Lib.hid (fun (W : World) (hB : Below w11.heap.size w11 W) => model_any (F11.out.past hB).disk (by rw [HS3.out.2.2]; simp) HS3.out.2.1)
          obtain ⟨M3, hM3⟩ : ∃ M3, M3 = mdlR S3 := ⟨_, rfl⟩
          rw [← hM3] at HMD3 HANS
          have HMM3 := Lib.hid hM3
          have HCF := Lib.hid (show M3.count = M.count ∧ M3.fuse = M.fuse by rw [hM3, HMM.out]; exact ⟨by show S3.stored.length = S.stored.length; rw [HS3.out.1, HO.out.size], rfl⟩)
          have HMW3 := Lib.hid (show M3.wait.length = 0 by rw [hM3]; rfl)
          have HRL3 := Lib.hid (show ∀ i, (readR M3 i).length ≤ 128 by rw [hM3]; exact readR_mdl_le F11.out.disk.good)
          have HSR := Lib.hid (show ∀ k, k < 2 → slotR M3 k 16 = slotD S3 k 16 from fun k hk => by rw [hM3]; exact slotR_mdl HS3.out.2.1 (by omega) 16 (Nat.le_refl _))
          clear hd11 ho11 hn11 F10 M10 B10 Q10 HBK hT hZ HRD hans hp hM3 HAN
          go_wp2_with fail
          refine HRR.out.mono ?_
          rintro e w12 ⟨hb12, A3, n3, c3, he, hm3⟩
          replace he : e = .returned (.tuple #[mval pm.version pm.next A3 n3 c3, .int .i64 px]) := he
          subst he
          obtain ⟨r, hr⟩ : ∃ r, r = w12.heap.size := ⟨_, rfl⟩
          obtain ⟨w13, hw13⟩ : ∃ w13, w13 = w12.alloc (.cells #[.int .u64 (pm.version : Int), .int .u32 (pm.next : Int), .slice A3 n3 c3] 28) := ⟨_, rfl⟩
          have HW13 := Lib.hid hw13
          have HR := Lib.hid hr
          have hb13 : Below w12.heap.size w12 w13 := by rw [hw13]; exact (Below.refl _ _).alloc (Nat.le_refl _) _
          have hb1113 : Below w11.heap.size w11 w13 := hb12.trans (hb13.mono hb12.size)
          have F13 := Lib.hid (F11.out.past hb1113)
          have M13 := Lib.hid (M11.out.below (hb1113.mono F11.out.below.size))
          have B13 := Lib.hid (B11.out.past hb1113)
          have Q13 := Lib.hid (Q11.out.past hb1113)
          have X13 := Lib.hid (Bx.new F11.out.disk hb1113 (show Blk w13 r [.int .u64 (pm.version : Int), .int .u32 (pm.next : Int), .slice A3 n3 c3] by rw [hw13, hr]; exact Blk.new w12 [.int .u64 (pm.version : Int), .int .u32 (pm.next : Int), .slice A3 n3 c3] _) (by rw [hr]; exact hb12.size))
          have N13 := Lib.hid (show ManAt w13 w13.heap.size A3 n3 c3 pm from (hm3.past hb13))
          have HMX := Lib.hid (HMD3.out w13 hb1113)
          have HRQ := Lib.hid (show r ≠ q ∧ r ≠ b ∧ r ≠ H ∧ w.heap.size ≤ r by
            have h1 := hb12.size; have h2 := Q11.out.1.lt; have h3 := B11.out.1.lt; have h4 := F11.out.box.1.lt; have h5 := F11.out.below.size; omega)
          clear hb12 hb13 hb1113 hm3 hw13 hr F11 M11 B11 Q11 HMD3 HRR
          go_wp2_with fail
          rw [← HW13.out, ← HR.out]
          clear HW13 HR
          refine HMX.out.mono ?_
          rintro e w14 ⟨hb14, Am3, nm3, cm3, rfl, hnm3, hnm33, href3⟩
          have F14 := Lib.hid (F13.out.past hb14)
          have M14 := Lib.hid (M13.out.below (hb14.mono F13.out.below.size))
          have B14 := Lib.hid (B13.out.past hb14)
          have Q14 := Lib.hid (Q13.out.past hb14)
          have X14 := Lib.hid (X13.out.past hb14)
          have N14 := Lib.hid (N13.out.past hb14)
          have RF14 := Lib.hid href3
          have HNM3 := Lib.hid hnm3
          clear hb14 hnm3 href3 F13 M13 B13 Q13 X13 N13 HMX
          go_wp2_with (first
            | (refine wpList_store_blk rfl 51 _ _ rfl q _ #[.int .i64 (M3.count : Int), .bool M3.off, .int .i64 M3.fuse, .slice Am3 nm3 cm3, .slice none 0 0] rfl rfl Q14.out.1 rfl d_size' (d_one' _ _ _ _ _ _ _ _ _) ?_
               intro w15 hbq ho15
               have HQB := HQL.out
               have hbl : Below w.heap.size w14 w15 := ho15.below (fun j _ hj => by omega) F14.out.below.size
               have F15 := Lib.hid (show FSt w D S3 own4 H mw Aw nw cw w15 from ⟨F14.out.disk.out ho15 (fun j hj e => Q14.out.2 (e ▸ hj)), ⟨F14.out.box.1.out ho15 (by omega), F14.out.box.2⟩, F14.out.man.below hbl, F14.out.below.trans hbl⟩)
               have M15 := Lib.hid (M14.out.below hbl)
               have B15 := Lib.hid (show Bx w15 own4 b [.int .u64 (m.version : Int), .int .u32 (m.next : Int), .slice Ak nk ck] from ⟨B14.out.1.out ho15 (by omega), B14.out.2⟩)
               have X15 := Lib.hid (show Bx w15 own4 r [.int .u64 (pm.version : Int), .int .u32 (pm.next : Int), .slice A3 n3 c3] from ⟨X14.out.1.out ho15 HRQ.out.1, X14.out.2⟩)
               have Q15 := Lib.hid (show Bx w15 own4 q [.int .i64 (M3.count : Int), .bool M3.off, .int .i64 M3.fuse, .slice Am3 nm3 cm3, .slice none 0 0] from ⟨hbq, Q14.out.2⟩)
               have N15 := Lib.hid (N14.out.dbox Q14.out.1 (by rw [← HCF.out.1, ← HCF.out.2]; exact hbq) ho15)
               have RF15 := Lib.hid (RF14.out.dbox Q14.out.1 ho15)
               obtain ⟨k0, k1, k2, k3, k4⟩ := Q15.out.1.five
               clear hbq ho15 hbl HQB F14 M14 B14 Q14 X14 N14 RF14)
            | fail)
          refine (rread_any' (T := T) (Z := Z) RF15.out HNM3.out HMW3.out (by omega) (by omega) HRL3.out (fun _ k hk => by rw [HSR.out k hk]; exact HT.out k hk) (fun _ k hk => by rw [HSR.out k hk]; exact HZ.out k hk)).mono ?_
          rw [HANS.out]
          rintro e w16 ⟨hb16, A4, n4, c4, he, hm4⟩
          replace he : e = .returned (.tuple #[mval pm.version pm.next A4 n4 c4, .int .i64 px]) := he
          subst he
          obtain ⟨w17, hw17⟩ : ∃ w17, w17 = w16.alloc (.cells #[.int .u64 (pm.version : Int), .int .u32 (pm.next : Int), .slice A4 n4 c4] 28) := ⟨_, rfl⟩
          have HW17 := Lib.hid hw17
          have hb17 : Below w16.heap.size w16 w17 := by rw [hw17]; exact (Below.refl _ _).alloc (Nat.le_refl _) _
          have hb1517 : Below w15.heap.size w15 w17 := hb16.trans (hb17.mono hb16.size)
          have F17 := Lib.hid (F15.out.past hb1517)
          have M17 := Lib.hid (M15.out.below (hb1517.mono F15.out.below.size))
          have B17 := Lib.hid (B15.out.past hb1517)
          have Q17 := Lib.hid (Q15.out.past hb1517)
          have X17 := Lib.hid (X15.out.past hb1517)
          have N17 := Lib.hid (N15.out.past hb1517)
          have RF17 := Lib.hid (RF15.out.past hb1517)
          have Y17 := (show Blk w17 w16.heap.size [.int .u64 (pm.version : Int), .int .u32 (pm.next : Int), .slice A4 n4 c4] by rw [hw17]; exact Blk.new w16 [.int .u64 (pm.version : Int), .int .u32 (pm.next : Int), .slice A4 n4 c4] _)
          have O17 := Lib.hid (show ManAt w17 w17.heap.size A4 n4 c4 pm from (hm4.past hb17))
          obtain ⟨x0, x1, x3⟩ : w17.cell? ⟨r, 0, none⟩ = some (.int .u64 (pm.version : Int)) ∧ w17.cell? ⟨r, 1, none⟩ = some (.int .u32 (pm.next : Int)) ∧ w17.cell? ⟨r, 2, none⟩ = some (.slice A3 n3 c3) := ⟨X17.out.1.cell rfl, X17.out.1.cell rfl, X17.out.1.cell rfl⟩
          obtain ⟨y0, y1, y2⟩ : w17.cell? ⟨w16.heap.size, 0, none⟩ = some (.int .u64 (pm.version : Int)) ∧ w17.cell? ⟨w16.heap.size, 1, none⟩ = some (.int .u32 (pm.next : Int)) ∧ w17.cell? ⟨w16.heap.size, 2, none⟩ = some (.slice A4 n4 c4) := ⟨Y17.cell rfl, Y17.cell rfl, Y17.cell rfl⟩
          have dpx : (px != px) = false := by simp
          clear hb16 hb17 hb1517 hm4 Y17 k0 k1 k2 k3 k4 F15 M15 B15 Q15 X15 N15 RF15 hw17
          go_upto_region 28 with fail
          rw [← HW17.out]
          clear HW17
          go_wp2_with fail
          refine (same_self A3 A4 n3 n4 c3 c4 pm w17 N17.out O17.out).mono ?_
          rintro e w18 ⟨rfl, hb18⟩
          have F18 := Lib.hid (F17.out.past hb18)
          have M18 := Lib.hid (M17.out.below (hb18.mono F17.out.below.size))
          have B18 := Lib.hid (B17.out.past hb18)
          have Q18 := Lib.hid (Q17.out.past hb18)
          have X18 := Lib.hid (X17.out.past hb18)
          have N18 := Lib.hid (N17.out.past hb18)
          have RF18 := Lib.hid (RF17.out.past hb18)
          clear hb18 x0 x1 x3 y0 y1 y2 F17 M17 B17 Q17 X17 N17 RF17 O17
          by_cases hx2 : x2 = 0
          · subst hx2
            have hpm := HP.out.1 rfl
            have hpm' : pm = m := congrArg Prod.fst hpm
            obtain ⟨x0, x1, x3⟩ : w18.cell? ⟨r, 0, none⟩ = some (.int .u64 (pm.version : Int)) ∧ w18.cell? ⟨r, 1, none⟩ = some (.int .u32 (pm.next : Int)) ∧ w18.cell? ⟨r, 2, none⟩ = some (.slice A3 n3 c3) := ⟨X18.out.1.cell rfl, X18.out.1.cell rfl, X18.out.1.cell rfl⟩
            obtain ⟨i0, i1, i2⟩ : w18.cell? ⟨b, 0, none⟩ = some (.int .u64 (m.version : Int)) ∧ w18.cell? ⟨b, 1, none⟩ = some (.int .u32 (m.next : Int)) ∧ w18.cell? ⟨b, 2, none⟩ = some (.slice Ak nk ck) := ⟨B18.out.1.cell rfl, B18.out.1.cell rfl, B18.out.1.cell rfl⟩
            have HSE := Lib.hid (same_eq A3 Ak n3 nk c3 ck pm m w18 N18.out (M18.out.more F18.out.below.size) hpm')
            clear hpm hpm'
            go_wp2_with fail
            refine HSE.out.mono ?_
            rintro e w19 ⟨rfl, hb19⟩
            have F19 := Lib.hid (F18.out.past hb19)
            have M19 := Lib.hid (M18.out.below (hb19.mono F18.out.below.size))
            have B19 := Lib.hid (B18.out.past hb19)
            have Q19 := Lib.hid (Q18.out.past hb19)
            have X19 := Lib.hid (X18.out.past hb19)
            have N19 := Lib.hid (N18.out.past hb19)
            have RF19 := Lib.hid (RF18.out.past hb19)
            clear hb19 x0 x1 x3 i0 i1 i2 F18 M18 B18 Q18 X18 N18 RF18 HSE
            obtain ⟨i0, i1, i2⟩ : w19.cell? ⟨b, 0, none⟩ = some (.int .u64 (m.version : Int)) ∧ w19.cell? ⟨b, 1, none⟩ = some (.int .u32 (m.next : Int)) ∧ w19.cell? ⟨b, 2, none⟩ = some (.slice Ak nk ck) := ⟨B19.out.1.cell rfl, B19.out.1.cell rfl, B19.out.1.cell rfl⟩
            obtain ⟨k0, k1, k2, k3, k4⟩ := Q19.out.1.five
            have HX0 := Lib.hid (show Calls Try.prog 23 #[.agg #[.int .i64 (M3.count : Int), .bool M3.off, .int .i64 M3.fuse, .slice Am3 nm3 cm3, .slice none 0 0], .int .i64 0, sv ah0, mval m.version m.next Ak nk ck] w19 (MixPost w19 (slotR M3 0 16) ah0 (slotOf m) (T 0)) from
              rmixed_any RF19.out HNM3.out HMW3.out (by omega) (by omega) HRL3.out 0 (by omega) ah0 Ak nk ck m (M19.out.more F19.out.below.size) HFIT.out (T 0) (by rw [HSR.out 0 (by omega)]; exact HT.out 0 (by omega)))
            go_wp2_with fail
            refine HX0.out.mono ?_
            rintro e w20 ⟨hb20, mx0, rfl, hmx0⟩
            have F20 := Lib.hid (F19.out.past hb20)
            have M20 := Lib.hid (M19.out.below (hb20.mono F19.out.below.size))
            have B20 := Lib.hid (B19.out.past hb20)
            have Q20 := Lib.hid (Q19.out.past hb20)
            have X20 := Lib.hid (X19.out.past hb20)
            have N20 := Lib.hid (N19.out.past hb20)
            have RF20 := Lib.hid (RF19.out.past hb20)
            have HC0 := Lib.hid hmx0
            clear hb20 hmx0 i0 i1 i2 k0 k1 k2 k3 k4 HX0
            cases mx0 with
            | true =>
              go_wp2_with fail
              refine (awake_any w20).mono ?_
              rintro e w21 ⟨rfl, hb21⟩
              have HB21 := Lib.hid (F20.out.below.trans (hb21.mono F20.out.below.size))
              clear hb21
              go_wp2
              go_ret
              exact ⟨rfl, HB21.out⟩
            | false =>
            obtain ⟨i0, i1, i2⟩ : w20.cell? ⟨b, 0, none⟩ = some (.int .u64 (m.version : Int)) ∧ w20.cell? ⟨b, 1, none⟩ = some (.int .u32 (m.next : Int)) ∧ w20.cell? ⟨b, 2, none⟩ = some (.slice Ak nk ck) := ⟨B20.out.1.cell rfl, B20.out.1.cell rfl, B20.out.1.cell rfl⟩
            obtain ⟨k0, k1, k2, k3, k4⟩ := Q20.out.1.five
            have HX1 := Lib.hid (show Calls Try.prog 23 #[.agg #[.int .i64 (M3.count : Int), .bool M3.off, .int .i64 M3.fuse, .slice Am3 nm3 cm3, .slice none 0 0], .int .i64 1, sv ah1, mval m.version m.next Ak nk ck] w20 (MixPost w20 (slotR M3 1 16) ah1 (slotOf m) (T 1)) from
              rmixed_any RF20.out HNM3.out HMW3.out (by omega) (by omega) HRL3.out 1 (by omega) ah1 Ak nk ck m (M20.out.more F20.out.below.size) HFIT.out (T 1) (by rw [HSR.out 1 (by omega)]; exact HT.out 1 (by omega)))
            go_wp2_with fail
            refine HX1.out.mono ?_
            rintro e w21 ⟨hb21, mx1, rfl, hmx1⟩
            have F21 := Lib.hid (F20.out.past hb21)
            have M21 := Lib.hid (M20.out.below (hb21.mono F20.out.below.size))
            have B21 := Lib.hid (B20.out.past hb21)
            have X21 := Lib.hid (X20.out.past hb21)
            have N21 := Lib.hid (N20.out.past hb21)
            have HC1 := Lib.hid hmx1
            clear hb21 hmx1 i0 i1 i2 k0 k1 k2 k3 k4 HX1
            cases mx1 with
            | true =>
              go_wp2_with fail
              refine (awake_any w21).mono ?_
              rintro e w22 ⟨rfl, hb22⟩
              have HB22 := Lib.hid (F21.out.below.trans (hb22.mono F21.out.below.size))
              clear hb22
              go_wp2
              go_ret
              exact ⟨rfl, HB22.out⟩
            | false =>
            have hfin := HP.out.2 (fun k hk hs => by
              rcases (show k = 0 ∨ k = 1 by omega) with rfl | rfl
              · rw [← HSR.out 0 (by omega), ← HA0.out]; exact HC0.out (by trivial) hs
              · rw [← HSR.out 1 (by omega), ← HA1.out]; exact HC1.out (by trivial) hs)
            have hpx : px = 0 := by rcases hfin with h | h <;> exact congrArg Prod.snd h
            have hor : pm = m ∨ pm = mw := by rcases hfin with h | h; exact .inl (congrArg Prod.fst h); exact .inr (congrArg Prod.fst h)
            have HOR := Lib.hid hor
            subst hpx
            clear hfin hor HP HC0 HC1
            obtain ⟨x0, x1, x3⟩ : w21.cell? ⟨r, 0, none⟩ = some (.int .u64 (pm.version : Int)) ∧ w21.cell? ⟨r, 1, none⟩ = some (.int .u32 (pm.next : Int)) ∧ w21.cell? ⟨r, 2, none⟩ = some (.slice A3 n3 c3) := ⟨X21.out.1.cell rfl, X21.out.1.cell rfl, X21.out.1.cell rfl⟩
            obtain ⟨i0, i1, i2⟩ : w21.cell? ⟨b, 0, none⟩ = some (.int .u64 (m.version : Int)) ∧ w21.cell? ⟨b, 1, none⟩ = some (.int .u32 (m.next : Int)) ∧ w21.cell? ⟨b, 2, none⟩ = some (.slice Ak nk ck) := ⟨B21.out.1.cell rfl, B21.out.1.cell rfl, B21.out.1.cell rfl⟩
            go_wp2_with fail
            refine (msame_any A3 Ak n3 nk c3 ck pm m w21 N21.out (M21.out.more F21.out.below.size)).mono ?_
            rintro e w22 ⟨eq, rfl, heq, hb22⟩
            have F22 := Lib.hid (F21.out.past hb22)
            have X22 := Lib.hid (X21.out.past hb22)
            have N22 := Lib.hid (N21.out.past hb22)
            have HEQ := Lib.hid heq
            clear hb22 heq x0 x1 x3 i0 i1 i2
            cases eq with
            | true =>
              go_wp2_with fail
              refine (awake_any w22).mono ?_
              rintro e w23 ⟨rfl, hb23⟩
              have HB23 := Lib.hid (F22.out.below.trans (hb23.mono F22.out.below.size))
              clear hb23
              go_wp2
              go_ret
              exact ⟨rfl, HB23.out⟩
            | false =>
            have hpw : pm = mw := by
              rcases HOR.out with h | h
              · have := HEQ.out.2 h; cases this
              · exact h
            obtain ⟨x0, x1, x3⟩ : w22.cell? ⟨r, 0, none⟩ = some (.int .u64 (pm.version : Int)) ∧ w22.cell? ⟨r, 1, none⟩ = some (.int .u32 (pm.next : Int)) ∧ w22.cell? ⟨r, 2, none⟩ = some (.slice A3 n3 c3) := ⟨X22.out.1.cell rfl, X22.out.1.cell rfl, X22.out.1.cell rfl⟩
            obtain ⟨j0, j1, j2⟩ : w22.cell? ⟨H, 0, none⟩ = some (.int .u64 (mw.version : Int)) ∧ w22.cell? ⟨H, 1, none⟩ = some (.int .u32 (mw.next : Int)) ∧ w22.cell? ⟨H, 2, none⟩ = some (.slice Aw nw cw) := ⟨F22.out.box.1.cell rfl, F22.out.box.1.cell rfl, F22.out.box.1.cell rfl⟩
            have HSE := Lib.hid (same_eq A3 Aw n3 nw c3 cw pm mw w22 N22.out (F22.out.man.more F22.out.below.size) hpw)
            clear hpw
            go_wp2_with fail
            refine HSE.out.mono ?_
            rintro e w23 ⟨rfl, hb23⟩
            have HB23 := Lib.hid (F22.out.below.trans (hb23.mono F22.out.below.size))
            clear hb23 x0 x1 x3 j0 j1 j2
            go_wp2_with fail
            refine (awake_any w23).mono ?_
            rintro e w24 ⟨rfl, hb24⟩
            have HB24 := Lib.hid (HB23.out.trans (hb24.mono HB23.out.size))
            clear hb24
            go_wp2
            go_ret
            exact ⟨rfl, HB24.out⟩
          · have d2 : (x2 == 0) = false := by rw [beq_eq_false_iff_ne]; exact hx2
            obtain ⟨i0, i1, i2⟩ : w18.cell? ⟨b, 0, none⟩ = some (.int .u64 (m.version : Int)) ∧ w18.cell? ⟨b, 1, none⟩ = some (.int .u32 (m.next : Int)) ∧ w18.cell? ⟨b, 2, none⟩ = some (.slice Ak nk ck) := ⟨B18.out.1.cell rfl, B18.out.1.cell rfl, B18.out.1.cell rfl⟩
            obtain ⟨k0, k1, k2, k3, k4⟩ := Q18.out.1.five
            have HX0 := Lib.hid (show Calls Try.prog 23 #[.agg #[.int .i64 (M3.count : Int), .bool M3.off, .int .i64 M3.fuse, .slice Am3 nm3 cm3, .slice none 0 0], .int .i64 0, sv ah0, mval m.version m.next Ak nk ck] w18 (MixPost w18 (slotR M3 0 16) ah0 (slotOf m) (T 0)) from
              rmixed_any RF18.out HNM3.out HMW3.out (by omega) (by omega) HRL3.out 0 (by omega) ah0 Ak nk ck m (M18.out.more F18.out.below.size) HFIT.out (T 0) (by rw [HSR.out 0 (by omega)]; exact HT.out 0 (by omega)))
            go_wp2_with fail
            refine HX0.out.mono ?_
            rintro e w20 ⟨hb20, mx0, rfl, hmx0⟩
            have F20 := Lib.hid (F18.out.past hb20)
            have M20 := Lib.hid (M18.out.below (hb20.mono F18.out.below.size))
            have B20 := Lib.hid (B18.out.past hb20)
            have Q20 := Lib.hid (Q18.out.past hb20)
            have X20 := Lib.hid (X18.out.past hb20)
            have N20 := Lib.hid (N18.out.past hb20)
            have RF20 := Lib.hid (RF18.out.past hb20)
            have HC0 := Lib.hid hmx0
            clear hb20 hmx0 i0 i1 i2 k0 k1 k2 k3 k4 HX0
            cases mx0 with
            | true =>
              go_wp2_with fail
              refine (awake_any w20).mono ?_
              rintro e w21 ⟨rfl, hb21⟩
              have HB21 := Lib.hid (F20.out.below.trans (hb21.mono F20.out.below.size))
              clear hb21
              go_wp2
              go_ret
              exact ⟨rfl, HB21.out⟩
            | false =>
            obtain ⟨i0, i1, i2⟩ : w20.cell? ⟨b, 0, none⟩ = some (.int .u64 (m.version : Int)) ∧ w20.cell? ⟨b, 1, none⟩ = some (.int .u32 (m.next : Int)) ∧ w20.cell? ⟨b, 2, none⟩ = some (.slice Ak nk ck) := ⟨B20.out.1.cell rfl, B20.out.1.cell rfl, B20.out.1.cell rfl⟩
            obtain ⟨k0, k1, k2, k3, k4⟩ := Q20.out.1.five
            have HX1 := Lib.hid (show Calls Try.prog 23 #[.agg #[.int .i64 (M3.count : Int), .bool M3.off, .int .i64 M3.fuse, .slice Am3 nm3 cm3, .slice none 0 0], .int .i64 1, sv ah1, mval m.version m.next Ak nk ck] w20 (MixPost w20 (slotR M3 1 16) ah1 (slotOf m) (T 1)) from
              rmixed_any RF20.out HNM3.out HMW3.out (by omega) (by omega) HRL3.out 1 (by omega) ah1 Ak nk ck m (M20.out.more F20.out.below.size) HFIT.out (T 1) (by rw [HSR.out 1 (by omega)]; exact HT.out 1 (by omega)))
            go_wp2_with fail
            refine HX1.out.mono ?_
            rintro e w21 ⟨hb21, mx1, rfl, hmx1⟩
            have F21 := Lib.hid (F20.out.past hb21)
            have M21 := Lib.hid (M20.out.below (hb21.mono F20.out.below.size))
            have B21 := Lib.hid (B20.out.past hb21)
            have X21 := Lib.hid (X20.out.past hb21)
            have N21 := Lib.hid (N20.out.past hb21)
            have HC1 := Lib.hid hmx1
            clear hb21 hmx1 i0 i1 i2 k0 k1 k2 k3 k4 HX1
            cases mx1 with
            | true =>
              go_wp2_with fail
              refine (awake_any w21).mono ?_
              rintro e w22 ⟨rfl, hb22⟩
              have HB22 := Lib.hid (F21.out.below.trans (hb22.mono F21.out.below.size))
              clear hb22
              go_wp2
              go_ret
              exact ⟨rfl, HB22.out⟩
            | false =>
            have hfin := HP.out.2 (fun k hk hs => by
              rcases (show k = 0 ∨ k = 1 by omega) with rfl | rfl
              · rw [← HSR.out 0 (by omega), ← HA0.out]; exact HC0.out (by trivial) hs
              · rw [← HSR.out 1 (by omega), ← HA1.out]; exact HC1.out (by trivial) hs)
            have hpx : px = 0 := by rcases hfin with h | h <;> exact congrArg Prod.snd h
            have hor : pm = m ∨ pm = mw := by rcases hfin with h | h; exact .inl (congrArg Prod.fst h); exact .inr (congrArg Prod.fst h)
            have HOR := Lib.hid hor
            subst hpx
            clear hfin hor HP HC0 HC1
            obtain ⟨x0, x1, x3⟩ : w21.cell? ⟨r, 0, none⟩ = some (.int .u64 (pm.version : Int)) ∧ w21.cell? ⟨r, 1, none⟩ = some (.int .u32 (pm.next : Int)) ∧ w21.cell? ⟨r, 2, none⟩ = some (.slice A3 n3 c3) := ⟨X21.out.1.cell rfl, X21.out.1.cell rfl, X21.out.1.cell rfl⟩
            obtain ⟨i0, i1, i2⟩ : w21.cell? ⟨b, 0, none⟩ = some (.int .u64 (m.version : Int)) ∧ w21.cell? ⟨b, 1, none⟩ = some (.int .u32 (m.next : Int)) ∧ w21.cell? ⟨b, 2, none⟩ = some (.slice Ak nk ck) := ⟨B21.out.1.cell rfl, B21.out.1.cell rfl, B21.out.1.cell rfl⟩
            go_wp2_with fail
            refine (msame_any A3 Ak n3 nk c3 ck pm m w21 N21.out (M21.out.more F21.out.below.size)).mono ?_
            rintro e w22 ⟨eq, rfl, heq, hb22⟩
            have F22 := Lib.hid (F21.out.past hb22)
            have X22 := Lib.hid (X21.out.past hb22)
            have N22 := Lib.hid (N21.out.past hb22)
            have HEQ := Lib.hid heq
            clear hb22 heq x0 x1 x3 i0 i1 i2
            cases eq with
            | true =>
              go_wp2_with fail
              refine (awake_any w22).mono ?_
              rintro e w23 ⟨rfl, hb23⟩
              have HB23 := Lib.hid (F22.out.below.trans (hb23.mono F22.out.below.size))
              clear hb23
              go_wp2
              go_ret
              exact ⟨rfl, HB23.out⟩
            | false =>
            have hpw : pm = mw := by
              rcases HOR.out with h | h
              · have := HEQ.out.2 h; cases this
              · exact h
            obtain ⟨x0, x1, x3⟩ : w22.cell? ⟨r, 0, none⟩ = some (.int .u64 (pm.version : Int)) ∧ w22.cell? ⟨r, 1, none⟩ = some (.int .u32 (pm.next : Int)) ∧ w22.cell? ⟨r, 2, none⟩ = some (.slice A3 n3 c3) := ⟨X22.out.1.cell rfl, X22.out.1.cell rfl, X22.out.1.cell rfl⟩
            obtain ⟨j0, j1, j2⟩ : w22.cell? ⟨H, 0, none⟩ = some (.int .u64 (mw.version : Int)) ∧ w22.cell? ⟨H, 1, none⟩ = some (.int .u32 (mw.next : Int)) ∧ w22.cell? ⟨H, 2, none⟩ = some (.slice Aw nw cw) := ⟨F22.out.box.1.cell rfl, F22.out.box.1.cell rfl, F22.out.box.1.cell rfl⟩
            have HSE := Lib.hid (same_eq A3 Aw n3 nw c3 cw pm mw w22 N22.out (F22.out.man.more F22.out.below.size) hpw)
            clear hpw
            go_wp2_with fail
            refine HSE.out.mono ?_
            rintro e w23 ⟨rfl, hb23⟩
            have HB23 := Lib.hid (F22.out.below.trans (hb23.mono F22.out.below.size))
            clear hb23 x0 x1 x3 j0 j1 j2
            go_wp2_with fail
            refine (awake_any w23).mono ?_
            rintro e w24 ⟨rfl, hb24⟩
            have HB24 := Lib.hid (HB23.out.trans (hb24.mono HB23.out.size))
            clear hb24
            go_wp2
            go_ret
            exact ⟨rfl, HB24.out⟩
    · go_wp2_with fail
      refine (awake_any _).mono ?_
      rintro e w5 ⟨rfl, hb5⟩
      have HB5 := Lib.hid (F.out.below.trans (hb5.mono F.out.below.size))
      go_wp2
      go_ret
      exact ⟨rfl, HB5.out⟩
open Go.ChangeShapes Go.WideShapes Go.ChangeAt Go.Joins
set_option maxRecDepth 100000 in
theorem manifestFalls_lifted (os : Os) (started : os.Started) (H : Type) (enc : TypeId × Value → H) :
    ReturnsInHanded {} Try.checked os 5 .any (Rows.manifestFallsSpec.pre6 enc Try.prog Try.f5 Rows.manifestFallsRow.domain false) (Rows.manifestFallsSpec.post enc Try.prog Try.f5 false true false false) := by
  refine returnsInHanded_of_change (C := Try.checked) own started (by kernel_rfl) Try.func5
    (ChangeSpec.witness6 (enc := enc) (C := Try.checked) false ⟨#[], #[.slice none 0 0, .int .i64 0, .int .u64 0, .int .u64 0], []⟩ 8 (by kernel_rfl) (by kernel_rfl) (by kernel_rfl) (by kernel_rfl)) ?_
  intro W base args ds gs before hval0 hW hcnd _
  have hval : ∀ (j : Nat) t v, Try.f5.params[j]? = some t → args[j]? = some v → Value.okWide Try.prog W .any base t v := hval0
  have hW' := hW
  obtain ⟨p, q, hA0, hV, rfl, hfz, hnd⟩ := hW
  have hA : DataW.TrodAll enc Try.prog W 0 (fun _ => true) true Try.f5.params.toList args.toList ds p := hA0
  rw [Try.params5] at hA hval
  obtain ⟨v0, v1, v2, v3, d0, d1, d2, d3, p0, p1, p2, p3, rfl, rfl, rfl, h0, h1, h2, h3⟩ := trodAll_four hA
  obtain ⟨A, n, c, l, rfl, hl, hnc, hn63, hm⟩ := open_mans (hval 0 43 v0 rfl rfl) h0
  obtain ⟨z, rfl, -, -, wz⟩ := open_int Try.underlying3 (hval 1 3 v1 rfl rfl) h1
  obtain ⟨y2, rfl, -, -, w2⟩ := open_int Try.underlying24 (hval 2 24 v2 rfl rfl) h2
  obtain ⟨y3, rfl, -, -, w3⟩ := open_int Try.underlying24 (hval 3 24 v3 rfl rfl) h3
  obtain ⟨K, rfl, hK⟩ := u64_of w2
  obtain ⟨Tn, rfl, hTn⟩ := u64_of w3
  have hwalk : Calls Try.prog 5 #[.slice A n c, .int .i64 z, .int .u64 (K : Int), .int .u64 (Tn : Int)] W fun e w' => e = .returned (.bool true) ∧ Below W.heap.size W w' := by
    exact mfalls_law A n c l z K Tn W hl hnc hn63 hm (i64_of wz).2 hK hTn
  refine hwalk.mono fun e W' ⟨he, hb⟩ => ?_
  subst he
  exact ⟨_, rfl, Lw.post_true laidOut (by kernel_rfl) rfl rfl rfl rfl (by kernel_rfl) Try.underlying4 hW' hb⟩

/-- ManifestFalls: of manifests that were written one behind the other, each of the next Version, the last one is read; with one more under way when the power falls, that, or the one ahead of it, is read, unless blocks of two writes together are a manifest's bytes. -/
theorem manifestFalls_holds : Rows.ManifestFallsSaid :=
  OpenClaim.holds_of_wide 5 Try.f5 rfl rfl rfl rfl rfl rfl rfl ⟨rfl, rfl, rfl, rfl, rfl⟩ rfl rfl rfl rfl rfl (by kernel_rfl) Try.func5 (by kernel_rfl)
    (of_decide_eq_true (by kernel_rfl)) (by unfold Func.isWrapper; rw [if_neg (of_decide_eq_false (by kernel_rfl))]; exact ⟨rfl, rfl⟩)
    (fun os started H enc _ => manifestFalls_lifted os started H enc)
#print axioms manifestFalls_holds
end Go.Proofs.Ytcnmamdfiicdaaa

