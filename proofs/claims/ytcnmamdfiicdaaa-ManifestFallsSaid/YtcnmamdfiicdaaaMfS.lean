/- Texts put together: RBody, Great, MSame. -/
import Derived.Test.YtcnmamdfiicdaaaMfB
import Derived.Test.YtcnmamdfiicdaaaGen
/-! What the section of a manifest contains, the document's. -/
namespace Go.Proofs.Ytcnmamdfiicdaaa
open Go.RowKit Me Mf Va

/-- A block as it was laid. -/
def Kp (w : World) (b : Nat) (o : Obj) : Prop := w.heap[b]? = some o ∧ b < w.heap.size
theorem Kp.past {w w' : World} {b : Nat} {o : Obj} (h : Kp w b o) (hb : Below w.heap.size w w') : Kp w' b o := ⟨(hb.block b h.2).trans h.1, Nat.lt_of_lt_of_le h.2 hb.size⟩
theorem Kp.new (w : World) (o : Obj) : Kp (w.alloc o) w.heap.size o := ⟨heap_alloc_new w o, by simp⟩
theorem Kp.app {w w' : World} {b base n : Nat} {cs : Array Value} {t : TypeId} {v : Value} {xs : List Value} (h : Kp w b (.cells cs t)) (hne : 5 ≠ t) (ho : w.ownsRow base 5 1 v n xs) (hg : w.grownBy w' v.ownBlock) : Kp w' b (.cells cs t) :=
  ⟨(hg.block b h.2 (own_not_box ho h.1 hne ∘ Eq.symm)).trans h.1, Nat.lt_of_lt_of_le h.2 hg.size⟩
/-- A manifest's box. -/
abbrev mbox (v x : Nat) (A : Option Addr) (n c : Nat) : Obj := .cells #[.int .u64 (v : Int), .int .u32 (x : Int), .slice A n c] 28
theorem Kp.man {w : World} {b v x : Nat} {A : Option Addr} {n c : Nat} (h : Kp w b (mbox v x A n c)) : w.cell? ⟨b, 0, none⟩ = some (.int .u64 (v : Int)) ∧ w.cell? ⟨b, 1, none⟩ = some (.int .u32 (x : Int)) ∧ w.cell? ⟨b, 2, none⟩ = some (.slice A n c) := by
  refine ⟨?_, ?_, ?_⟩ <;> (simp only [World.cell?, h.1]; rfl)
theorem Kp.file {w : World} {b : Nat} {nm : List UInt8} {id : Nat} {sz : Int} {A : Option Addr} {n c : Nat} (h : Kp w b (fbox nm id sz A n c)) :
    w.cell? ⟨b, 0, none⟩ = some (.string ⟨nm.toArray⟩) ∧ w.cell? ⟨b, 1, none⟩ = some (.int .u32 (id : Int)) ∧ w.cell? ⟨b, 2, none⟩ = some (.int .i64 sz) ∧ w.cell? ⟨b, 3, none⟩ = some (.slice A n c) := fbox_cells h.1
theorem u8_man : 5 ≠ 28 := by decide
theorem u8_file : 5 ≠ 41 := by decide
/-- Bytes of one's own. -/
structure Ow (w wr : World) (v : Value) (t : Nat) (l : List UInt8) : Prop where
  own : wr.ownsRow w.heap.size 5 1 v t (cellsOf l)
  below : Below w.heap.size w wr
section
variable {w wr w1 : World} {v v' : Value} {t t' : Nat} {l l' : List UInt8}
theorem Ow.len (h : Ow w wr v t l) : l.length = t := by
  have := h.own.1
  rwa [cellsOf_length, Nat.mul_one] at this
theorem Ow.past (h : Ow w wr v t l) (hb : Below wr.heap.size wr w1) : Ow w w1 v t l := ⟨own_below h.own hb, h.below.trans (hb.mono h.below.size)⟩
theorem Ow.app (h : Ow w wr v t l) (ho : w1.ownsRow w.heap.size 5 1 v' t' (cellsOf l')) (hg : wr.grownBy w1 v.ownBlock) : Ow w w1 v' t' l' := ⟨ho, h.below.grown hg h.below.size (fun k hk => (h.own.lt k hk).1)⟩
end
set_option maxRecDepth 100000 in
set_option maxHeartbeats 4000000 in
theorem rbody_any (A : Option Addr) (n c : Nat) (m : ManD) (w : World) (hpos : ∀ f ∈ m.files, PosF f) (hbl : (body m).length ≤ 1099511627776) (h : ManAt w w.heap.size A n c m) :
    Calls Try.prog 40 #[mval m.version m.next A n c] w (News w (body m)) := by
  obtain ⟨i0, hi0, hz0, hz1, hz2⟩ := info_parts u8_info
  obtain ⟨HF, HL, -, -, HWF⟩ := h
  have hn40 : n ≤ 1099511627776 := by
    have h1 := body_length m
    have h2 := encFs_length m.files
    omega
  have HF := Lib.hid HF
  have HL := Lib.hid HL
  have HPOS := Lib.hid hpos
  have HBL := Lib.hid hbl
  obtain ⟨l, hl⟩ : ∃ l, l = m.files := ⟨_, rfl⟩
  obtain ⟨v, hv⟩ : ∃ v, v = m.version := ⟨_, rfl⟩
  obtain ⟨x, hx⟩ : ∃ x, x = m.next := ⟨_, rfl⟩
  have hv64 : v < 18446744073709551616 := by rw [hv]; exact HWF.version
  have hx32 : x < 4294967296 := by rw [hx]; exact HWF.next
  have HWF := Lib.hid HWF.files
  have HBY := Lib.hid (show body m = enc v ++ enc x ++ enc n ++ encFs l by
    unfold body
    simp only [List.append_assoc]
    rw [hv, hx, hl, HL.out])
  rw [← hv, ← hx]
  rw [← hl] at HF HL HPOS HWF
  clear hpos hbl hl hv hx
  have e1 : IntKind.u64.wrap (x : Int) = (x : Int) := wrap_u64_of (by omega) (by omega)
  have e2 : IntKind.u64.wrap (n : Int) = (n : Int) := wrap_u64_of (by omega) (by omega)
  have hv10 := enc_ten hv64
  have hx10 := enc_ten (show x < 18446744073709551616 by omega)
  have hn10 := enc_ten (show n < 18446744073709551616 by omega)
  have HT10 := Lib.hid (And.intro hv10 (And.intro hx10 hn10))
  obtain ⟨wb, hwb⟩ : ∃ wb, wb = w.alloc (mbox v x A n c) := ⟨_, rfl⟩
  have HWB := Lib.hid hwb
  have KM := Lib.hid (show Kp wb w.heap.size (mbox v x A n c) by rw [hwb]; exact Kp.new w _)
  have HB0 := Lib.hid (show Below w.heap.size w wb by rw [hwb]; exact (Below.refl _ _).alloc (Nat.le_refl _) _)
  clear hwb hv10 hx10 hn10
  go_enter Try.func40, Try.ntmps40
  go_wp2_with fail
  rw [← HWB.out]
  clear HWB
  refine (ref_num_any v wb hv64).mono ?_
  rintro e w1 ⟨v1, t1, rfl, ho1, hb1⟩
  have O1 := Lib.hid (show Ow w w1 v1 t1 (enc v) from ⟨own_more ho1 HB0.out.size, HB0.out.trans (hb1.mono HB0.out.size)⟩)
  have K1 := Lib.hid (KM.out.past hb1)
  obtain ⟨-, q1, -⟩ := K1.out.man
  have ht1 : t1 ≤ 10 := by have := O1.out.len; have := HT10.out.1; omega
  clear ho1 hb1 KM HB0
  go_wp2_with fail
  refine (ref_num_any x w1 (by omega)).mono ?_
  intro e w2 h2
  obtain ⟨A2, n2, c2, rfl, hl2, -, -, hr2, hb2⟩ := h2.open
  have O2 := Lib.hid (O1.out.past hb2)
  have K2 := Lib.hid (K1.out.past hb2)
  have HL2 := Lib.hid hl2
  have HR2 := Lib.hid hr2
  have HS2 := Lib.hid O2.out.below.size
  have hn2 : n2 ≤ 10 := by have := HT10.out.2.1; omega
  clear h2 hl2 hr2 hb2 O1 K1 q1
  go_upto_region 3 with (at_builtin; refine wpList_app rfl (.tmp 10) (.tmp 14) 22 rfl w.heap.size 5 i0 _ Try.underlying22 hi0 hz0 hz1 hz2 rfl v1 t1 _ rfl O2.out.own w2.heap.size A2 n2 c2 (enc x) rfl HL2.out HR2.out (by omega) HS2.out ?_; intro v3 w3 ho3 hg3 _)
  have O3 := Lib.hid (O2.out.app ho3 hg3)
  have K3 := Lib.hid (K2.out.app u8_man O2.out.own hg3)
  obtain ⟨-, -, q2⟩ := K3.out.man
  clear ho3 hg3 O2 K2 HR2 HS2
  go_wp2_with fail
  refine (ref_num_any n w3 (by omega)).mono ?_
  intro e w4 h4
  obtain ⟨A4, n4, c4, rfl, hl4, -, -, hr4, hb4⟩ := h4.open
  have O4 := Lib.hid (O3.out.past hb4)
  have K4 := Lib.hid (K3.out.past hb4)
  have HL4 := Lib.hid hl4
  have HR4 := Lib.hid hr4
  have HS4 := Lib.hid O4.out.below.size
  have hn4 : n4 ≤ 10 := by have := HT10.out.2.2; omega
  clear h4 hl4 hr4 hb4 O3 K3 q2
  go_upto_region 4 with (at_builtin; refine wpList_app rfl (.tmp 16) (.tmp 21) 22 rfl w.heap.size 5 i0 _ Try.underlying22 hi0 hz0 hz1 hz2 rfl v3 (t1 + n2) _ rfl O4.out.own w4.heap.size A4 n4 c4 (enc n) rfl HL4.out HR4.out (by omega) HS4.out ?_; intro v5 w5 ho5 hg5 _)
  have O5 := Lib.hid (O4.out.app ho5 hg5)
  have K5 := Lib.hid (K4.out.app u8_man O4.out.own hg5)
  obtain ⟨-, -, q3⟩ := K5.out.man
  clear ho5 hg5 O4 K4 HR4 HS4
  obtain ⟨hd, hhd⟩ : ∃ hd, hd = enc v ++ enc x ++ enc n := ⟨_, rfl⟩
  rw [← hhd] at HBY O5
  clear hhd
  go_wp2
  clear q3
  go_loopw [3, 26] (fun y i wr => ∃ k t : Nat, k ≤ n ∧ i = .int .i64 (k : Int) ∧ Hid (Ow w wr y t (hd ++ encFs (l.take k))) ∧ Hid (Kp wr w.heap.size (mbox v x A n c))) (fun _ i _ => n - (intOf i).toNat)
  case atStart => exact ⟨0, _, Nat.zero_le _, rfl, Lib.hid (by simpa [encFs] using O5.out), K5⟩
  case round =>
    clear O5 K5
    obtain ⟨k, t, hk, rfl, O, K⟩ := hrel
    have HB := Lib.hid O.out.below
    by_cases hlt : k < n
    · obtain ⟨a, f, rfl, hab, hf, A2, n2, c2, g0, g1, g2, g3, g4, -, -, g7⟩ := HF.out.at (by rw [HL.out]; exact hlt)
      have hax : (a.add (k * 4)).block < w.heap.size := by rw [block_add]; exact hab
      replace g0 := (HB.out.cell hax).trans g0
      replace g1 := (HB.out.cell (p := ⟨_, _, none⟩) hax).trans g1
      replace g2 := (HB.out.cell (p := ⟨_, _, none⟩) hax).trans g2
      replace g3 := (HB.out.cell (p := ⟨_, _, none⟩) hax).trans g3
      have hfm := List.mem_of_getElem? hf
      have hfw := HWF.out f hfm
      have hfp := HPOS.out f hfm
      have hbig : (hd ++ encFs (l.take k)).length + (encF f).length ≤ 1099511627776 := by
        have h1 := HBL.out
        rw [HBY.out] at h1
        have h2 := encFs_le (l := l) (k + 1)
        rw [encFs_take hf] at h2
        simp only [List.length_append] at h1 h2 ⊢
        omega
      obtain ⟨nm, hnm⟩ : ∃ nm, nm = f.name := ⟨_, rfl⟩
      obtain ⟨id, hid⟩ : ∃ id : Nat, id = f.id := ⟨_, rfl⟩
      obtain ⟨z, hz⟩ : ∃ z : Nat, z = f.size.toNat := ⟨_, rfl⟩
      have hsz : f.size = (z : Int) := by have := hfp.size; omega
      obtain ⟨bs, hbs⟩ : ∃ bs, bs = f.blocks := ⟨_, rfl⟩
      obtain ⟨lst, hlst⟩ : ∃ lst, lst = hd ++ encFs (l.take k) := ⟨_, rfl⟩
      have hef : encF f = enc nm.length ++ (nm ++ (enc id ++ (enc z ++ encBs bs))) := by
        unfold encF
        rw [hnm, hid, hz, hbs]
      have HNX := Lib.hid (show hd ++ encFs (l.take (k + 1)) = lst ++ (enc nm.length ++ (nm ++ (enc id ++ (enc z ++ encBs bs)))) by
        rw [encFs_take hf, ← List.append_assoc, ← hlst, hef])
      rw [← hlst, hef] at hbig
      rw [← hlst] at O
      have hid32 : id < 4294967296 := by rw [hid]; exact hfw.id
      have hz63 : (z : Int) ≤ 9223372036854775807 := by rw [← hsz]; exact hfw.high
      have HBP := Lib.hid hfp.blocks
      have HBW := Lib.hid hfw.blocks
      rw [← hbs] at HBP HBW g4 g7
      rw [← hnm] at g0
      rw [← hid] at g1
      rw [hsz] at g2
      have HBLN := Lib.hid g4
      have HBC := Lib.hid g7
      obtain ⟨m1, hm1⟩ : ∃ m1, m1 = nm.length := ⟨_, rfl⟩
      have hs1 : (ByteArray.mk nm.toArray).size = m1 := by rw [hm1]; exact List.size_toArray ..
      rw [← hm1] at hbig HNX
      have HM1 := Lib.hid hm1
      have hsum : t + (enc m1).length + m1 + (enc id).length + (enc z).length + (encBs bs).length ≤ 1099511627776 := by
        have := O.out.len
        simp only [List.length_append] at hbig this
        omega
      obtain ⟨L1, hL1⟩ : ∃ L1, L1 = (enc m1).length := ⟨_, rfl⟩
      obtain ⟨L2, hL2⟩ : ∃ L2, L2 = (enc id).length := ⟨_, rfl⟩
      obtain ⟨L3, hL3⟩ : ∃ L3, L3 = (enc z).length := ⟨_, rfl⟩
      obtain ⟨L4, hL4⟩ : ∃ L4, L4 = (encBs bs).length := ⟨_, rfl⟩
      rw [← hL1, ← hL2, ← hL3, ← hL4] at hsum
      have HLS := Lib.hid (And.intro hL1 (And.intro hL2 (And.intro hL3 hL4)))
      have hm40 : m1 ≤ 1099511627776 := by omega
      have hn240 : n2 ≤ 1099511627776 := by
        have h2 := encBs_length bs
        omega
      have e3 : IntKind.u64.wrap (m1 : Int) = (m1 : Int) := wrap_u64_of (by omega) (by omega)
      have e4 : IntKind.u64.wrap (id : Int) = (id : Int) := wrap_u64_of (by omega) (by omega)
      have e5 : IntKind.u64.wrap (z : Int) = (z : Int) := wrap_u64_of (by omega) (by omega)
      clear hf hfm hfw hfp hnm hid hz hsz hbs hlst hef hm1 g4 g7 hbig hL1 hL2 hL3 hL4
      obtain ⟨-, -, q2⟩ := K.out.man
      obtain ⟨wz, hwz⟩ : ∃ wz, wz = wr.alloc (fbox nm id z A2 n2 c2) := ⟨_, rfl⟩
      have HWZ := Lib.hid hwz
      have hbz : Below wr.heap.size wr wz := by rw [hwz]; exact (Below.refl _ _).alloc (Nat.le_refl _) _
      have OZ := Lib.hid (O.out.past hbz)
      have KZ := Lib.hid (K.out.past hbz)
      have FZ := Lib.hid (show Kp wz wr.heap.size (fbox nm id z A2 n2 c2) by rw [hwz]; exact Kp.new wr _)
      have hwr : w.heap.size < wr.heap.size := K.out.2
      clear hwz hbz
      go_wp2_with fail
      rw [← HWZ.out]
      clear HWZ q2 O K g0 g1 g2 g3 hax
      refine (ref_num_any m1 wz (by omega)).mono ?_
      intro e w6 h6
      obtain ⟨A6, n6, c6, rfl, hl6, -, -, hr6, hb6⟩ := h6.open
      have O6 := Lib.hid (OZ.out.past hb6)
      have K6 := Lib.hid (KZ.out.past hb6)
      have F6 := Lib.hid (FZ.out.past hb6)
      have HL6 := Lib.hid hl6
      have HR6 := Lib.hid hr6
      have HS6 := Lib.hid O6.out.below.size
      have hn6 : n6 = L1 := by rw [← hl6]; exact HLS.out.1.symm
      subst hn6
      clear h6 hl6 hr6 hb6 OZ KZ FZ
      go_upto_region 9 with (at_builtin; refine wpList_app rfl (.tmp 34) (.tmp 39) 22 rfl w.heap.size 5 i0 _ Try.underlying22 hi0 hz0 hz1 hz2 rfl u3 t _ rfl O6.out.own w6.heap.size A6 n6 c6 (enc m1) rfl HL6.out HR6.out (by omega) HS6.out ?_; intro v7 w7 ho hg _)
      have O7 := Lib.hid (O6.out.app ho hg)
      have K7 := Lib.hid (K6.out.app u8_man O6.out.own hg)
      have F7 := Lib.hid (F6.out.app u8_file O6.out.own hg)
      clear ho hg O6 K6 F6 HL6 HR6 HS6
      obtain ⟨q0, -, -, -⟩ := F7.out.file
      obtain ⟨w8, c8, hr8, hb8, hs8, hc8, -⟩ := run_conv (P := Try.prog) 9 22 5 Try.underlying9 Try.underlying22 Try.underlying5 w7 nm
      have O8 := Lib.hid (O7.out.past hb8)
      have K8 := Lib.hid (K7.out.past hb8)
      have F8 := Lib.hid (F7.out.past hb8)
      have HR8 := Lib.hid (show Rd w8 w8.heap.size (some ⟨w7.heap.size, 0, none⟩) nm from fun _ => ⟨_, rfl, hs8, fun j u hu => by
        have := hc8 j u hu
        have e : (⟨w7.heap.size, 0, none⟩ : Addr).add j = ⟨w7.heap.size, j, none⟩ := by unfold Addr.add; split <;> simp_all
        rw [e]; exact this⟩)
      have HS8 := Lib.hid O8.out.below.size
      have HC8 := Lib.hid hr8
      rw [← HM1.out] at HC8
      clear hr8 hb8 hs8 hc8 O7 K7 F7
      go_upto_region 10 with (first
        | (refine wpList_convert_run rfl 9 22 _ rfl _ _ rfl HC8.out ?_)
        | (at_builtin; refine wpList_app rfl (.tmp 41) (.tmp 44) 22 rfl w.heap.size 5 i0 _ Try.underlying22 hi0 hz0 hz1 hz2 rfl v7 (t + n6) _ rfl O8.out.own w8.heap.size (some ⟨w7.heap.size, 0, none⟩) m1 c8 nm rfl HM1.out.symm HR8.out (by omega) HS8.out ?_; intro v9 w9 ho hg _))
      have O9 := Lib.hid (O8.out.app ho hg)
      have K9 := Lib.hid (K8.out.app u8_man O8.out.own hg)
      have F9 := Lib.hid (F8.out.app u8_file O8.out.own hg)
      clear ho hg O8 K8 F8 HR8 HS8 HC8 q0
      obtain ⟨-, q1, -, -⟩ := F9.out.file
      go_wp2_with fail
      refine (ref_num_any id w9 (by omega)).mono ?_
      intro e w10 h6
      obtain ⟨A10, n10, c10, rfl, hl6, -, -, hr6, hb6⟩ := h6.open
      have O10 := Lib.hid (O9.out.past hb6)
      have K10 := Lib.hid (K9.out.past hb6)
      have F10 := Lib.hid (F9.out.past hb6)
      have HL6 := Lib.hid hl6
      have HR6 := Lib.hid hr6
      have HS6 := Lib.hid O10.out.below.size
      have hn10 : n10 = L2 := by rw [← hl6]; exact HLS.out.2.1.symm
      subst hn10
      clear h6 hl6 hr6 hb6 O9 K9 F9 q1
      go_upto_region 11 with (at_builtin; refine wpList_app rfl (.tmp 46) (.tmp 50) 22 rfl w.heap.size 5 i0 _ Try.underlying22 hi0 hz0 hz1 hz2 rfl v9 (t + n6 + m1) _ rfl O10.out.own w10.heap.size A10 n10 c10 (enc id) rfl HL6.out HR6.out (by omega) HS6.out ?_; intro v11 w11 ho hg _)
      have O11 := Lib.hid (O10.out.app ho hg)
      have K11 := Lib.hid (K10.out.app u8_man O10.out.own hg)
      have F11 := Lib.hid (F10.out.app u8_file O10.out.own hg)
      clear ho hg O10 K10 F10 HL6 HR6 HS6
      obtain ⟨-, -, q1, -⟩ := F11.out.file
      go_wp2_with fail
      refine (ref_num_any z w11 (by omega)).mono ?_
      intro e w12 h6
      obtain ⟨A12, n12, c12, rfl, hl6, -, -, hr6, hb6⟩ := h6.open
      have O12 := Lib.hid (O11.out.past hb6)
      have K12 := Lib.hid (K11.out.past hb6)
      have F12 := Lib.hid (F11.out.past hb6)
      have HL6 := Lib.hid hl6
      have HR6 := Lib.hid hr6
      have HS6 := Lib.hid O12.out.below.size
      have hn12 : n12 = L3 := by rw [← hl6]; exact HLS.out.2.2.1.symm
      subst hn12
      clear h6 hl6 hr6 hb6 O11 K11 F11 q1
      go_upto_region 12 with (at_builtin; refine wpList_app rfl (.tmp 52) (.tmp 56) 22 rfl w.heap.size 5 i0 _ Try.underlying22 hi0 hz0 hz1 hz2 rfl v11 (t + n6 + m1 + n10) _ rfl O12.out.own w12.heap.size A12 n12 c12 (enc z) rfl HL6.out HR6.out (by omega) HS6.out ?_; intro v13 w13 ho hg _)
      have O13 := Lib.hid (O12.out.app ho hg)
      have K13 := Lib.hid (K12.out.app u8_man O12.out.own hg)
      have F13 := Lib.hid (F12.out.app u8_file O12.out.own hg)
      clear ho hg O12 K12 F12 HL6 HR6 HS6
      obtain ⟨-, -, -, q3⟩ := F13.out.file
      obtain ⟨pre, hpre⟩ : ∃ pre, pre = lst ++ enc m1 ++ nm ++ enc id ++ enc z := ⟨_, rfl⟩
      rw [← hpre] at O13
      have HNY := Lib.hid (show hd ++ encFs (l.take (k + 1)) = pre ++ encBs bs by rw [HNX.out, hpre]; simp only [List.append_assoc])
      have HPB := Lib.hid (show pre.length + (encBs bs).length ≤ 1099511627776 by
        have h1 := O13.out.len
        have h2 := HLS.out.2.2.2
        omega)
      obtain ⟨Bf, hBf⟩ : ∃ Bf, Bf = wr.heap.size := ⟨_, rfl⟩
      rw [← hBf] at F13 q3 hwr ⊢
      clear hpre hBf
      go_wp2
      clear q3
      go_loopw [3, 61] (fun y i wr => ∃ j t' : Nat, j ≤ n2 ∧ i = .int .i64 (j : Int) ∧ Hid (Ow w wr y t' (pre ++ encBs (bs.take j))) ∧ Hid (Kp wr w.heap.size (mbox v x (some a) n c)) ∧ Hid (Kp wr Bf (fbox nm id z A2 n2 c2))) (fun _ i _ => n2 - (intOf i).toNat)
      case atStart => exact ⟨0, _, Nat.zero_le _, rfl, Lib.hid (by simpa [encBs] using O13.out), K13, F13⟩
      case round =>
        clear O13 K13 F13
        obtain ⟨j, t', hj, rfl, O, K, F⟩ := hrel
        have HBJ := Lib.hid O.out.below
        obtain ⟨-, -, -, q3⟩ := F.out.file
        by_cases hjl : j < n2
        · obtain ⟨y, hy⟩ : ∃ y, bs[j]? = some y := ⟨_, List.getElem?_eq_getElem (by rw [HBLN.out]; exact hjl)⟩
          have hym := List.mem_of_getElem? hy
          obtain ⟨p, hp⟩ : ∃ p : Nat, p = y.toNat := ⟨_, rfl⟩
          have hyp : y = (p : Int) := by have := HBP.out y hym; omega
          have hp64 : (p : Int) ≤ 9223372036854775807 := by rw [← hyp]; exact (HBW.out y hym).2
          obtain ⟨a2, rfl, hab2, hcz⟩ := (HBC.out.below HBJ.out).int hy
          rw [hyp] at hcz
          have e6 : IntKind.u64.wrap (p : Int) = (p : Int) := wrap_u64_of (by omega) (by omega)
          have HBX := Lib.hid (show pre ++ encBs (bs.take (j + 1)) = (pre ++ encBs (bs.take j)) ++ enc p by
            rw [encBs_take hy, hp]
            simp only [List.append_assoc])
          have hbb : t' + (enc p).length ≤ 1099511627776 := by
            have h1 := HPB.out
            have h2 := O.out.len
            have h3 : (encBs (bs.take (j + 1))).length ≤ (encBs bs).length := by
              have e : encBs bs = encBs (bs.take (j + 1)) ++ encBs (bs.drop (j + 1)) := by rw [← encBs_append, List.take_append_drop]
              rw [e, List.length_append]; omega
            have h4 := congrArg List.length HBX.out
            simp only [List.length_append] at h2 h4
            omega
          have HBB := Lib.hid hbb
          clear hy hym hp hyp hbb
          go_wp2_with fail
          refine (ref_num_any p wr (by omega)).mono ?_
          intro e w14 h6
          obtain ⟨A14, n14, c14, rfl, hl6, -, -, hr6, hb6⟩ := h6.open
          have O14 := Lib.hid (O.out.past hb6)
          have K14 := Lib.hid (K.out.past hb6)
          have F14 := Lib.hid (F.out.past hb6)
          have HL6 := Lib.hid hl6
          have HR6 := Lib.hid hr6
          have HS6 := Lib.hid O14.out.below.size
          have hbg : t' + n14 ≤ 1099511627776 := by have := HBB.out; rw [hl6] at this; exact this
          clear h6 hl6 hr6 hb6 O K F q3 HBJ
          go_upto_region 16 with (at_builtin; refine wpList_app rfl (.tmp 64) (.tmp 71) 22 rfl w.heap.size 5 i0 _ Try.underlying22 hi0 hz0 hz1 hz2 rfl u3 t' _ rfl O14.out.own w14.heap.size A14 n14 c14 (enc p) rfl HL6.out HR6.out (by omega) HS6.out ?_; intro v15 w15 ho hg _)
          have O15 := Lib.hid (O14.out.app ho hg)
          have K15 := Lib.hid (K14.out.app u8_man O14.out.own hg)
          have F15 := Lib.hid (F14.out.app u8_file O14.out.own hg)
          rw [← HBX.out] at O15
          clear ho hg O14 K14 F14 HL6 HR6 HS6
          go_wp2
          go_roundw
          case rel => exact ⟨j + 1, _, by omega, by go_num, O15, K15, F15⟩
          case measure => simp [intOf]; omega
        · have hjn : j = n2 := by omega
          subst hjn
          have e : bs.take j = bs := by rw [← HBLN.out, List.take_length]
          have OE := O
          rw [e, ← HNY.out] at OE
          clear O e q3
          go_wp2
          go_roundw
          case rel => exact ⟨k + 1, t', by omega, by go_num, OE, K⟩
          case measure => simp [intOf]; omega
    · have hkn : k = n := by omega
      subst hkn
      have e : l.take k = l := by rw [← HL.out, List.take_length]
      have OE := O
      rw [e, ← HBY.out] at OE
      clear O e
      go_wp2
      go_ret
      exact ⟨_, _, rfl, OE.out.own, OE.out.below⟩
end Go.Proofs.Ytcnmamdfiicdaaa

/-! More than is gone through? -/
namespace Go.Proofs.Ytcnmamdfiicdaaa
open Go.RowKit Me Mf Va

/-- How much is gone through. -/
def tinySum : List FileD → Nat
  | [] => 0
  | f :: l => min f.blocks.length 3000 + min f.name.length 3000 + tinySum l
theorem tinySum_append : ∀ l m : List FileD, tinySum (l ++ m) = tinySum l + tinySum m
  | [], m => by simp [tinySum]
  | f :: l, m => by simp only [List.cons_append, tinySum, tinySum_append l m]; omega
theorem tinySum_take {l : List FileD} {k : Nat} {f : FileD} (h : l[k]? = some f) : tinySum (l.take (k + 1)) = tinySum (l.take k) + (min f.blocks.length 3000 + min f.name.length 3000) := by
  rw [take_snoc h, tinySum_append]; simp [tinySum]
theorem tinySum_le : ∀ l : List FileD, tinySum l ≤ 6000 * l.length
  | [] => Nat.le_refl _
  | f :: l => by have := tinySum_le l; simp only [tinySum, List.length_cons]; omega
def Tiny (m : ManD) : Prop := m.files.length ≤ 60 ∧ tinySum m.files ≤ 3000
theorem body_of_names : ∀ l : List FileD, (∀ f ∈ l, WfF f) → (∀ f ∈ l, 1 ≤ f.name.length ∧ f.name.length ≤ 32) → tinySum l ≤ 3000 → (encFs l).length ≤ 64 * l.length + 10 * tinySum l
  | [], _, _, _ => Nat.le_refl _
  | f :: l, hw, hn, ht => by
    simp only [tinySum] at ht
    have h1 := body_of_names l (fun g hg => hw g (by simp [hg])) (fun g hg => hn g (by simp [hg])) (by omega)
    have h2 := hn f (by simp)
    have h3 := hw f (by simp)
    have e1 := enc_ten (show f.name.length < 18446744073709551616 by omega)
    have e2 := enc_ten (show f.id < 18446744073709551616 by have := h3.id; omega)
    have e3 := enc_ten (show f.size.toNat < 18446744073709551616 by have := h3.high; omega)
    have e4 : (encBs f.blocks).length ≤ 10 * f.blocks.length := by
      have : ∀ bs : List Int, (∀ b ∈ bs, b ≤ 9223372036854775807) → (encBs bs).length ≤ 10 * bs.length := by
        intro bs
        induction bs with
        | nil => intro _; exact Nat.le_refl _
        | cons b r ih =>
          intro hb
          have := ih (fun c hc => hb c (by simp [hc]))
          have := enc_ten (show b.toNat < 18446744073709551616 by have := hb b (by simp); omega)
          simp only [encBs, List.length_append, List.length_cons]; omega
      exact this _ fun b hb => (h3.blocks b hb).2
    simp only [encFs, encF, List.length_append, List.length_cons, tinySum]
    omega
theorem tiny_body {m : ManD} (h : Tiny m) (hw : Wf m) (hg : Mf.Good m.next m.files) : (body m).length ≤ 40000 := by
  have h1 := body_of_names m.files hw.files hg.1.1 h.2
  have h2 := enc_ten hw.version
  have h3 := enc_ten (show m.next < 18446744073709551616 by have := hw.next; omega)
  have h4 := enc_ten (show m.files.length < 18446744073709551616 by have := h.1; omega)
  have h5 := h.1
  have h6 := h.2
  unfold body
  simp only [List.length_append]
  omega
set_option maxRecDepth 100000 in
set_option maxHeartbeats 2000000 in
theorem great_any (v x : Nat) (A : Option Addr) (n c : Nat) (m : ManD) (w : World) (h : ManAt w w.heap.size A n c m) :
    Calls Try.prog 12 #[mval v x A n c] w (Bp w (¬ Tiny m)) := by
  obtain ⟨HF, HL, -, hn63, -⟩ := h
  have HF := Lib.hid HF
  have HL := Lib.hid HL
  obtain ⟨l, hl⟩ : ∃ l, l = m.files := ⟨_, rfl⟩
  have HT := Lib.hid (show Tiny m ↔ (n ≤ 60 ∧ tinySum l ≤ 3000) by unfold Tiny; rw [HL.out, hl])
  rw [← hl] at HF HL
  clear hl
  obtain ⟨wb, hwb⟩ : ∃ wb, wb = w.alloc (mbox v x A n c) := ⟨_, rfl⟩
  have HWB := Lib.hid hwb
  have HB0 := Lib.hid (show Below w.heap.size w wb by rw [hwb]; exact (Below.refl _ _).alloc (Nat.le_refl _) _)
  have KM := Lib.hid (show Kp wb w.heap.size (mbox v x A n c) by rw [hwb]; exact Kp.new w _)
  clear hwb
  by_cases h60 : 60 < n
  · have d1 : decide ((60 : Int) < (n : Int)) = true := by simp; omega
    clear HB0 KM HWB
    go_enter Try.func12, Try.ntmps12
    go_wp2
    go_ret
    exact ⟨true, rfl, ⟨fun _ h => (by have := (HT.out.1 h).1; omega), fun _ => rfl⟩, (Below.refl _ _).alloc (Nat.le_refl _) _⟩
  · have d1 : decide ((60 : Int) < (n : Int)) = false := by simp; omega
    go_enter Try.func12, Try.ntmps12
    go_wp2_with fail
    rw [← HWB.out]
    clear HWB
    go_loopw [3, 12] (fun s i wr => ∃ k t : Nat, k ≤ n ∧ i = .int .i64 (k : Int) ∧ s = .int .i64 (t : Int) ∧ t ≤ 6000 * k ∧ Hid (t = tinySum (l.take k)) ∧ Hid (Kp wr w.heap.size (mbox v x A n c)) ∧ Hid (Below w.heap.size w wr)) (fun _ i _ => n - (intOf i).toNat)
    case atStart => exact ⟨0, 0, Nat.zero_le _, rfl, rfl, by omega, Lib.hid rfl, KM, HB0⟩
    case round =>
      clear HB0 KM
      obtain ⟨k, t, hk, rfl, rfl, ht, HS, K, HB⟩ := hrel
      by_cases hlt : k < n
      · obtain ⟨a, f, rfl, hab, hf, A2, n2, c2, g0, -, -, g3, g4, -⟩ := (HF.out.below HB.out).at (by rw [HL.out]; exact hlt)
        obtain ⟨nm, hnm⟩ : ∃ nm, nm = f.name := ⟨_, rfl⟩
        rw [← hnm] at g0
        obtain ⟨m1, hm1⟩ : ∃ m1, m1 = nm.length := ⟨_, rfl⟩
        have hs1 : (ByteArray.mk nm.toArray).size = m1 := by rw [hm1]; exact List.size_toArray ..
        obtain ⟨u1, hu1⟩ : ∃ u1 : Nat, u1 = min n2 3000 := ⟨_, rfl⟩
        obtain ⟨u2, hu2⟩ : ∃ u2 : Nat, u2 = min m1 3000 := ⟨_, rfl⟩
        have hu1' : u1 ≤ 3000 := by omega
        have hu2' : u2 ≤ 3000 := by omega
        have HSX := Lib.hid (show t + u1 + u2 = tinySum (l.take (k + 1)) from by
          rw [tinySum_take hf, HS.out, hu1, hu2, hm1, hnm, g4]; omega)
        have HU1 := Lib.hid (show (if (3000 : Int) < (n2 : Int) then (3000 : Int) else (n2 : Int)) = (u1 : Int) by rw [hu1]; split <;> omega)
        have HU2 := Lib.hid (show (if (3000 : Int) < (m1 : Int) then (3000 : Int) else (m1 : Int)) = (u2 : Int) by rw [hu2]; split <;> omega)
        have HG0 := Lib.hid g0
        have HG3 := Lib.hid g3
        have hab2 : (a.add (k * 4)).block < w.heap.size := by rw [block_add]; exact hab
        clear hf hnm hm1 hu1 hu2 g0 g3 g4
        have hwr : w.heap.size < wr.heap.size := K.out.2
        obtain ⟨-, -, k2⟩ := K.out.man
        have k0 := HG0.out
        have k3 := HG3.out
        have q1 := HU1.out
        have q2 := HU2.out
        have q3 : IntKind.i64.wrap ((t : Int) + (u1 : Int)) = (t : Int) + u1 := by rw [IntKind.wrap_i64]; omega
        have q4 : IntKind.i64.wrap ((t : Int) + (u1 : Int) + (u2 : Int)) = (t : Int) + u1 + u2 := by rw [IntKind.wrap_i64]; omega
        go_wp2_with fail
        go_region
        clear q1 q2 q3 q4 k0 k2 k3
        obtain ⟨t', ht'⟩ : ∃ t', t' = t + u1 + u2 := ⟨_, rfl⟩
        have hts : (t : Int) + (u1 : Int) + (u2 : Int) = (t' : Int) := by omega
        have ht6 : t' ≤ 6000 * (k + 1) := by omega
        rw [← ht'] at HSX
        rw [hts]
        clear ht' hts
        have K2 := Lib.hid (K.out.past (Below.refl _ _).drew)
        have B2 := Lib.hid HB.out.drew
        go_wp2
        go_roundw
        case rel => exact ⟨k + 1, t', by omega, by go_num, rfl, ht6, HSX, K2, B2⟩
        case measure => simp [intOf]; omega
      · have hkn : k = n := by omega
        subst hkn
        have e : l.take k = l := by rw [← HL.out, List.take_length]
        have HSE := HS
        rw [e] at HSE
        clear HS e
        by_cases hbig : 3000 < t
        · have d2 : decide ((3000 : Int) < (t : Int)) = true := by simp; omega
          go_wp2
          go_ret
          exact ⟨true, rfl, ⟨fun _ h => (by have := (HT.out.1 h).2; have := HSE.out; omega), fun _ => rfl⟩, HB.out⟩
        · have d2 : decide ((3000 : Int) < (t : Int)) = false := by simp; omega
          go_wp2
          go_ret
          exact ⟨false, rfl, ⟨fun h => (by cases h), fun h => absurd (HT.out.2 ⟨by omega, by have := HSE.out; omega⟩) h⟩, HB.out⟩
end Go.Proofs.Ytcnmamdfiicdaaa

/-! The same manifests? -/
namespace Go.Proofs.Ytcnmamdfiicdaaa
open Go.RowKit Me Mf

theorem man_ext {a b : ManD} (h1 : a.version = b.version) (h2 : a.next = b.next) (h3 : a.files = b.files) : a = b := by
  cases a; cases b; simp_all
theorem file_ext {a b : FileD} (h1 : a.name = b.name) (h2 : a.id = b.id) (h3 : a.size = b.size) (h4 : a.blocks = b.blocks) : a = b := by
  cases a; cases b; simp_all
theorem same_at {α : Type} {l m : List α} {k : Nat} {x y : α} (hx : l[k]? = some x) (hy : m[k]? = some y) (h : x ≠ y) : l ≠ m := fun e => by
  rw [e, hy] at hx
  injection hx with hx
  exact h hx.symm
set_option maxRecDepth 100000 in
set_option maxHeartbeats 4000000 in
theorem msame_any (A A' : Option Addr) (n n' c c' : Nat) (a b : ManD) (w : World) (h : ManAt w w.heap.size A n c a) (h' : ManAt w w.heap.size A' n' c' b) :
    Calls Try.prog 11 #[mval a.version a.next A n c, mval b.version b.next A' n' c'] w (Bp w (a = b)) := by
  obtain ⟨HF, HL, -, hn63, -⟩ := h
  obtain ⟨HF', HL', -, -, -⟩ := h'
  have HF := Lib.hid HF
  have HF' := Lib.hid HF'
  have HL := Lib.hid HL
  have HL' := Lib.hid HL'
  obtain ⟨va, hva⟩ : ∃ v, v = a.version := ⟨_, rfl⟩
  obtain ⟨vb, hvb⟩ : ∃ v, v = b.version := ⟨_, rfl⟩
  obtain ⟨xa, hxa⟩ : ∃ v, v = a.next := ⟨_, rfl⟩
  obtain ⟨xb, hxb⟩ : ∃ v, v = b.next := ⟨_, rfl⟩
  obtain ⟨la, hla⟩ : ∃ l, l = a.files := ⟨_, rfl⟩
  obtain ⟨lb, hlb⟩ : ∃ l, l = b.files := ⟨_, rfl⟩
  have HE := Lib.hid (show a = b ↔ (va = vb ∧ xa = xb ∧ la = lb) by
    rw [hva, hvb, hxa, hxb, hla, hlb]
    exact ⟨fun e => by rw [e]; exact ⟨rfl, rfl, rfl⟩, fun ⟨h1, h2, h3⟩ => man_ext h1 h2 h3⟩)
  rw [← hva, ← hvb, ← hxa, ← hxb]
  rw [← hla] at HF HL
  rw [← hlb] at HF' HL'
  clear hva hvb hxa hxb hla hlb
  obtain ⟨wb, hwb⟩ : ∃ wb, wb = (w.alloc (mbox va xa A n c)).alloc (mbox vb xb A' n' c') := ⟨_, rfl⟩
  have HWB := Lib.hid hwb
  have HB0 := Lib.hid (show Below w.heap.size w wb by rw [hwb]; exact ((Below.refl _ _).alloc (Nat.le_refl _) _).alloc (by simp) _)
  have KA := Lib.hid (show Kp wb w.heap.size (mbox va xa A n c) by rw [hwb]; exact (Kp.new w _).past ((Below.refl _ _).alloc (Nat.le_refl _) _))
  have KB := Lib.hid (show Kp wb (w.heap.size + 1) (mbox vb xb A' n' c') by rw [hwb]; have := Kp.new (w.alloc (mbox va xa A n c)) (mbox vb xb A' n' c'); simpa using this)
  clear hwb
  by_cases hv : va = vb
  case neg =>
    have d1 : ((va : Int) != (vb : Int)) = true := by rw [bne_iff_ne]; omega
    have d2 : (va != vb) = true := by rw [bne_iff_ne]; exact hv
    clear KA KB HWB HB0
    go_enter Try.func11, Try.ntmps11
    go_wp2
    go_ret
    exact ⟨false, rfl, ⟨fun h => (by cases h), fun h => absurd (HE.out.1 h).1 hv⟩, ((Below.refl _ _).alloc (Nat.le_refl _) _).alloc (by simp) _⟩
  case pos =>
  have HV := Lib.hid hv
  have d1 : ((va : Int) != (vb : Int)) = false := by rw [bne_eq_false_iff_eq]; omega
  have d2 : (va != vb) = false := by rw [bne_eq_false_iff_eq]; exact hv
  clear hv
  by_cases hx : xa = xb
  case neg =>
    have d3 : ((xa : Int) != (xb : Int)) = true := by rw [bne_iff_ne]; omega
    have d4 : (xa != xb) = true := by rw [bne_iff_ne]; exact hx
    clear KA KB HWB HB0
    go_enter Try.func11, Try.ntmps11
    go_wp2
    go_ret
    exact ⟨false, rfl, ⟨fun h => (by cases h), fun h => absurd (HE.out.1 h).2.1 hx⟩, ((Below.refl _ _).alloc (Nat.le_refl _) _).alloc (by simp) _⟩
  case pos =>
  have HX := Lib.hid hx
  have d3 : ((xa : Int) != (xb : Int)) = false := by rw [bne_eq_false_iff_eq]; omega
  have d4 : (xa != xb) = false := by rw [bne_eq_false_iff_eq]; exact hx
  clear hx
  by_cases hnn : n = n'
  case neg =>
    have d5 : ((n : Int) != (n' : Int)) = true := by rw [bne_iff_ne]; omega
    have d6 : (n != n') = true := by rw [bne_iff_ne]; exact hnn
    clear KA KB HWB HB0
    go_enter Try.func11, Try.ntmps11
    go_wp2
    go_ret
    exact ⟨false, rfl, ⟨fun h => (by cases h), fun h => by have e := (HE.out.1 h).2.2; have h1 := HL.out; have h2 := HL'.out; rw [e] at h1; omega⟩, ((Below.refl _ _).alloc (Nat.le_refl _) _).alloc (by simp) _⟩
  case pos =>
  subst hnn
  have d5 : ((n : Int) != (n : Int)) = false := by simp
  obtain ⟨q0, q1, q2⟩ := KA.out.man
  obtain ⟨p0, p1, p2⟩ := KB.out.man
  go_enter Try.func11, Try.ntmps11
  go_wp2_with fail
  rw [← HWB.out]
  clear HWB q0 q1 q2 p0 p1 p2
  go_loopw [33] (fun i wr => ∃ k : Nat, k ≤ n ∧ i = .int .i64 (k : Int) ∧ Hid (la.take k = lb.take k) ∧ Hid (Kp wr w.heap.size (mbox va xa A n c)) ∧ Hid (Kp wr (w.heap.size + 1) (mbox vb xb A' n c')) ∧ Hid (Below w.heap.size w wr)) (fun i _ => n - (intOf i).toNat)
  case atStart => exact ⟨0, Nat.zero_le _, rfl, Lib.hid (by simp), KA, KB, HB0⟩
  case round =>
    clear KA KB HB0
    obtain ⟨k, hk, rfl, HT, KA, KB, HB⟩ := hrel
    obtain ⟨-, -, q2⟩ := KA.out.man
    obtain ⟨-, -, p2⟩ := KB.out.man
    by_cases hlt : k < n
    · obtain ⟨y, f, rfl, hyb, hf, A2, n2, c2, g0, g1, g2, g3, g4, -, g6, g7⟩ := HF.out.at (i := k) (by rw [HL.out]; exact hlt)
      obtain ⟨y', g, rfl, hyb', hg, A3, n3, c3, e0, e1, e2, e3, e4, -, -, e7⟩ := HF'.out.at (i := k) (by rw [HL'.out]; exact hlt)
      have hya : (y.add (k * 4)).block < w.heap.size := by rw [block_add]; exact hyb
      have hya' : (y'.add (k * 4)).block < w.heap.size := by rw [block_add]; exact hyb'
      replace g0 := (HB.out.cell hya).trans g0
      replace g1 := (HB.out.cell (p := ⟨_, _, none⟩) hya).trans g1
      replace g2 := (HB.out.cell (p := ⟨_, _, none⟩) hya).trans g2
      replace g3 := (HB.out.cell (p := ⟨_, _, none⟩) hya).trans g3
      replace e0 := (HB.out.cell hya').trans e0
      replace e1 := (HB.out.cell (p := ⟨_, _, none⟩) hya').trans e1
      replace e2 := (HB.out.cell (p := ⟨_, _, none⟩) hya').trans e2
      replace e3 := (HB.out.cell (p := ⟨_, _, none⟩) hya').trans e3
      have HFK := Lib.hid hf
      have HGK := Lib.hid hg
      obtain ⟨nf, hnf⟩ : ∃ v, v = f.name := ⟨_, rfl⟩
      obtain ⟨ng, hng⟩ : ∃ v, v = g.name := ⟨_, rfl⟩
      obtain ⟨jf, hjf⟩ : ∃ v : Nat, v = f.id := ⟨_, rfl⟩
      obtain ⟨jg, hjg⟩ : ∃ v : Nat, v = g.id := ⟨_, rfl⟩
      obtain ⟨sf, hsf⟩ : ∃ v, v = f.size := ⟨_, rfl⟩
      obtain ⟨sg, hsg⟩ : ∃ v, v = g.size := ⟨_, rfl⟩
      obtain ⟨bf, hbf⟩ : ∃ v, v = f.blocks := ⟨_, rfl⟩
      obtain ⟨bg, hbg⟩ : ∃ v, v = g.blocks := ⟨_, rfl⟩
      rw [← hnf] at g0
      rw [← hjf] at g1
      rw [← hsf] at g2
      rw [← hbf] at g4 g7
      rw [← hng] at e0
      rw [← hjg] at e1
      rw [← hsg] at e2
      rw [← hbg] at e4 e7
      have HFE := Lib.hid (show f = g ↔ (nf = ng ∧ jf = jg ∧ sf = sg ∧ bf = bg) by
        rw [hnf, hng, hjf, hjg, hsf, hsg, hbf, hbg]
        exact ⟨fun e => by rw [e]; exact ⟨rfl, rfl, rfl, rfl⟩, fun ⟨h1, h2, h3, h4⟩ => file_ext h1 h2 h3 h4⟩)
      have HNO := Lib.hid (show f ≠ g → ¬ a = b from fun hne e => same_at HFK.out HGK.out hne (HE.out.1 e).2.2)
      have HG4 := Lib.hid g4
      have HE4 := Lib.hid e4
      have HG7 := Lib.hid g7
      have HE7 := Lib.hid e7
      have hws : w.heap.size + 1 < wr.heap.size := KB.out.2
      have hws0 : w.heap.size < wr.heap.size := KA.out.2
      have hya2 : (y'.add (k * 4)).block < wr.heap.size := by omega
      have HBE := Lib.hid (show ∀ o o' : Obj, Below w.heap.size w ((wr.alloc o).alloc o') from fun o o' => (HB.out.alloc HB.out.size o).alloc (by have := HB.out.size; simp; omega) o')
      clear hf hg hnf hng hjf hjg hsf hsg hbf hbg g4 e4 g7 e7
      by_cases h1 : nf = ng
      case neg =>
        have d : (nf == ng) = false := by simpa using h1
        go_wp2
        go_ret
        exact ⟨false, rfl, ⟨fun h => (by cases h), fun h => absurd h (HNO.out fun e => h1 (HFE.out.1 e).1)⟩, HBE.out _ _⟩
      case pos =>
      subst h1
      have d7 : (nf == nf) = true := by simp
      by_cases h2 : jf = jg
      case neg =>
        have d8 : ((jf : Int) != (jg : Int)) = true := by rw [bne_iff_ne]; omega
        have d9 : (jf != jg) = true := by rw [bne_iff_ne]; exact h2
        go_wp2
        go_ret
        exact ⟨false, rfl, ⟨fun h => (by cases h), fun h => absurd h (HNO.out fun e => h2 (HFE.out.1 e).2.1)⟩, HBE.out _ _⟩
      case pos =>
      subst h2
      have d8 : ((jf : Int) != (jf : Int)) = false := by simp
      by_cases h3 : sf = sg
      case neg =>
        have d9 : (sf != sg) = true := by rw [bne_iff_ne]; exact h3
        go_wp2
        go_ret
        exact ⟨false, rfl, ⟨fun h => (by cases h), fun h => absurd h (HNO.out fun e => h3 (HFE.out.1 e).2.2.1)⟩, HBE.out _ _⟩
      case pos =>
      subst h3
      have d9 : (sf != sf) = false := by simp
      by_cases h4 : n2 = n3
      case neg =>
        have d10 : ((n2 : Int) != (n3 : Int)) = true := by rw [bne_iff_ne]; omega
        have d11 : (n2 != n3) = true := by rw [bne_iff_ne]; exact h4
        go_wp2
        go_ret
        exact ⟨false, rfl, ⟨fun h => (by cases h), fun h => absurd h (HNO.out fun e => h4 (by have e4 := (HFE.out.1 e).2.2.2; have h5 := HG4.out; have h6 := HE4.out; rw [e4] at h5; omega))⟩, HBE.out _ _⟩
      case pos =>
      subst h4
      have d10 : ((n2 : Int) != (n2 : Int)) = false := by simp
      obtain ⟨wz, hwz⟩ : ∃ wz, wz = (wr.alloc (fbox nf jf sf A2 n2 c2)).alloc (fbox nf jf sf A3 n2 c3) := ⟨_, rfl⟩
      have HWZ := Lib.hid hwz
      have HBZ := Lib.hid (show Below w.heap.size w wz by rw [hwz]; exact HBE.out _ _)
      have hrz : Below wr.heap.size wr wz := by rw [hwz]; exact ((Below.refl _ _).alloc (Nat.le_refl _) _).alloc (by simp) _
      have KA2 := Lib.hid (KA.out.past hrz)
      have KB2 := Lib.hid (KB.out.past hrz)
      have KF := Lib.hid (show Kp wz wr.heap.size (fbox nf jf sf A2 n2 c2) by rw [hwz]; exact (Kp.new wr _).past ((Below.refl _ _).alloc (Nat.le_refl _) _))
      have KG := Lib.hid (show Kp wz (wr.heap.size + 1) (fbox nf jf sf A3 n2 c3) by rw [hwz]; have := Kp.new (wr.alloc (fbox nf jf sf A2 n2 c2)) (fbox nf jf sf A3 n2 c3); simpa using this)
      clear hwz hrz
      go_wp2_with fail
      rw [← HWZ.out]
      obtain ⟨Bf, hBf⟩ : ∃ Bf, Bf = wr.heap.size := ⟨_, rfl⟩
      obtain ⟨Bg, hBg⟩ : ∃ Bg, Bg = wr.heap.size + 1 := ⟨_, rfl⟩
      rw [← hBg, ← hBf]
      rw [← hBf] at KF
      rw [← hBg] at KG
      clear HWZ KA KB HB q2 p2 g0 g1 g2 g3 e0 e1 e2 e3 hBf hBg hws hws0
      go_loopw [77] (fun i wr => ∃ j : Nat, j ≤ n2 ∧ i = .int .i64 (j : Int) ∧ Hid (bf.take j = bg.take j) ∧ Hid (Kp wr Bf (fbox nf jf sf A2 n2 c2)) ∧ Hid (Kp wr Bg (fbox nf jf sf A3 n2 c3)) ∧ Hid (Kp wr w.heap.size (mbox va xa (some y) n c)) ∧ Hid (Kp wr (w.heap.size + 1) (mbox vb xb (some y') n c')) ∧ Hid (Below w.heap.size w wr)) (fun i _ => n2 - (intOf i).toNat)
      case atStart => exact ⟨0, Nat.zero_le _, rfl, Lib.hid (by simp), KF, KG, KA2, KB2, HBZ⟩
      case round =>
        clear KF KG KA2 KB2 HBZ
        obtain ⟨j, hj, rfl, HTJ, KF, KG, KA, KB, HB⟩ := hrel
        obtain ⟨-, -, -, q3⟩ := KF.out.file
        obtain ⟨-, -, -, p3⟩ := KG.out.file
        by_cases hjl : j < n2
        · obtain ⟨u, hu⟩ : ∃ u, bf[j]? = some u := ⟨_, List.getElem?_eq_getElem (by rw [HG4.out]; exact hjl)⟩
          obtain ⟨u', hu'⟩ : ∃ u, bg[j]? = some u := ⟨_, List.getElem?_eq_getElem (by rw [HE4.out]; exact hjl)⟩
          obtain ⟨a2, rfl, ha2, hcu⟩ := (HG7.out.below HB.out).int hu
          obtain ⟨a3, rfl, ha3, hcu'⟩ := (HE7.out.below HB.out).int hu'
          have HU := Lib.hid hu
          have HU' := Lib.hid hu'
          clear hu hu'
          by_cases huu : u = u'
          case neg =>
            have d : (u != u') = true := by rw [bne_iff_ne]; exact huu
            go_wp2
            go_region
            all_goals
              go_wp2
              go_ret
              exact ⟨false, rfl, ⟨fun h => (by cases h), fun h => absurd h (HNO.out fun e => same_at HU.out HU'.out huu (HFE.out.1 e).2.2.2)⟩, HB.out.drew⟩
          case pos =>
            subst huu
            have d : (u != u) = false := by simp
            have HTX := Lib.hid (show bf.take (j + 1) = bg.take (j + 1) from by rw [take_snoc HU.out, take_snoc HU'.out, HTJ.out])
            have KF2 := Lib.hid (KF.out.past (Below.refl _ _).drew)
            have KG2 := Lib.hid (KG.out.past (Below.refl _ _).drew)
            have KA2 := Lib.hid (KA.out.past (Below.refl _ _).drew)
            have KB2 := Lib.hid (KB.out.past (Below.refl _ _).drew)
            have HB2 := Lib.hid HB.out.drew
            go_wp2
            go_region
            all_goals
              go_wp2
              go_roundw
              case rel => exact ⟨j + 1, by omega, by go_num, HTX, KF2, KG2, KA2, KB2, HB2⟩
              case measure => simp [intOf]; omega
        · have hjn : j = n2 := by omega
          subst hjn
          have e1 : bf.take j = bf := by rw [← HG4.out, List.take_length]
          have e2 : bg.take j = bg := by rw [← HE4.out, List.take_length]
          have HTX := Lib.hid (show la.take (k + 1) = lb.take (k + 1) from by
            rw [take_snoc HFK.out, take_snoc HGK.out, HT.out]
            have := HTJ.out
            rw [e1, e2] at this
            rw [HFE.out.2 ⟨by trivial, by trivial, by trivial, this⟩])
          clear e1 e2 HTJ
          go_wp2
          go_roundw
          case rel => exact ⟨k + 1, by omega, by go_num, HTX, KA, KB, HB⟩
          case measure => simp [intOf]; omega
    · have hkn : k = n := by omega
      subst hkn
      have e1 : la.take k = la := by rw [← HL.out, List.take_length]
      have e2 : lb.take k = lb := by rw [← HL'.out, List.take_length]
      have HTE := HT
      rw [e1, e2] at HTE
      clear e1 e2 HT
      go_wp2
      go_ret
      exact ⟨true, rfl, ⟨fun _ => HE.out.2 ⟨HV.out, HX.out, HTE.out⟩, fun _ => rfl⟩, HB.out⟩
end Go.Proofs.Ytcnmamdfiicdaaa
