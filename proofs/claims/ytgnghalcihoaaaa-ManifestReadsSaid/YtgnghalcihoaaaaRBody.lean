/- What the section of a manifest contains, the document's. -/
import Derived.Test.YtgnghalcihoaaaaBody
import Derived.Test.YtgnghalcihoaaaaStore
namespace Go.Proofs.Ytgnghalcihoaaaa
open Go.RowKit Me Mf Va

/-- A block as it was laid. -/
def Kp (w : World) (b : Nat) (o : Obj) : Prop := w.heap[b]? = some o ∧ b < w.heap.size
theorem Kp.past {w w' : World} {b : Nat} {o : Obj} (h : Kp w b o) (hb : Below w.heap.size w w') : Kp w' b o := ⟨(hb.block b h.2).trans h.1, Nat.lt_of_lt_of_le h.2 hb.size⟩
theorem Kp.new (w : World) (o : Obj) : Kp (w.alloc o) w.heap.size o := ⟨heap_alloc_new w o, by simp⟩
theorem Kp.app {w w' : World} {b base n : Nat} {cs : Array Value} {t : TypeId} {v : Value} {xs : List Value} (h : Kp w b (.cells cs t)) (hne : 5 ≠ t) (ho : w.ownsRow base 5 1 v n xs) (hg : w.grownBy w' v.ownBlock) : Kp w' b (.cells cs t) :=
  ⟨(hg.block b h.2 (own_not_box ho h.1 hne ∘ Eq.symm)).trans h.1, Nat.lt_of_lt_of_le h.2 hg.size⟩
/-- A manifest's box. -/
abbrev mbox (v x : Nat) (A : Option Addr) (n c : Nat) : Obj := .cells #[.int .u64 (v : Int), .int .u32 (x : Int), .slice A n c] 28
theorem Kp.man {w : World} {b v x : Nat} {A : Option Addr} {n c : Nat} (h : Kp w b (mbox v x A n c)) : w.cell? ⟨b, 0, none⟩ = some (.int .u64 (v : Int)) ∧ w.cell? ⟨b, 1, none⟩ = some (.int .u32 (x : Int)) ∧ w.cell? ⟨b, 2, none⟩ = some (.slice A n c) := by
  refine ⟨?_, ?_, ?_⟩ <;> (simp only [World.cell?, h.1]; rfl)
theorem Kp.file {w : World} {b : Nat} {nm : List UInt8} {id : Nat} {sz : Int} {A : Option Addr} {n c : Nat} (h : Kp w b (fbox nm id sz A n c)) :
    w.cell? ⟨b, 0, none⟩ = some (.string ⟨nm.toArray⟩) ∧ w.cell? ⟨b, 1, none⟩ = some (.int .u32 (id : Int)) ∧ w.cell? ⟨b, 2, none⟩ = some (.int .i64 sz) ∧ w.cell? ⟨b, 3, none⟩ = some (.slice A n c) := fbox_cells h.1
theorem u8_man : 5 ≠ 28 := by decide
theorem u8_file : 5 ≠ 41 := by decide
/-- Bytes of one's own. -/
structure Ow (w wr : World) (v : Value) (t : Nat) (l : List UInt8) : Prop where
  own : wr.ownsRow w.heap.size 5 1 v t (cellsOf l)
  below : Below w.heap.size w wr
section
variable {w wr w1 : World} {v v' : Value} {t t' : Nat} {l l' : List UInt8}
theorem Ow.len (h : Ow w wr v t l) : l.length = t := by
  have := h.own.1
  rwa [cellsOf_length, Nat.mul_one] at this
theorem Ow.past (h : Ow w wr v t l) (hb : Below wr.heap.size wr w1) : Ow w w1 v t l := ⟨own_below h.own hb, h.below.trans (hb.mono h.below.size)⟩
theorem Ow.app (h : Ow w wr v t l) (ho : w1.ownsRow w.heap.size 5 1 v' t' (cellsOf l')) (hg : wr.grownBy w1 v.ownBlock) : Ow w w1 v' t' l' := ⟨ho, h.below.grown hg h.below.size (fun k hk => (h.own.lt k hk).1)⟩
end
set_option maxRecDepth 100000 in
set_option maxHeartbeats 4000000 in
theorem rbody_any (A : Option Addr) (n c : Nat) (m : ManD) (w : World) (hpos : ∀ f ∈ m.files, PosF f) (hbl : (body m).length ≤ 1099511627776) (h : ManAt w w.heap.size A n c m) :
    Calls Try.prog 40 #[mval m.version m.next A n c] w (News w (body m)) := by
  obtain ⟨i0, hi0, hz0, hz1, hz2⟩ := info_parts u8_info
  obtain ⟨HF, HL, -, -, HWF⟩ := h
  have hn40 : n ≤ 1099511627776 := by
    have h1 := body_length m
    have h2 := encFs_length m.files
    omega
  have HF := Lib.hid HF
  have HL := Lib.hid HL
  have HPOS := Lib.hid hpos
  have HBL := Lib.hid hbl
  obtain ⟨l, hl⟩ : ∃ l, l = m.files := ⟨_, rfl⟩
  obtain ⟨v, hv⟩ : ∃ v, v = m.version := ⟨_, rfl⟩
  obtain ⟨x, hx⟩ : ∃ x, x = m.next := ⟨_, rfl⟩
  have hv64 : v < 18446744073709551616 := by rw [hv]; exact HWF.version
  have hx32 : x < 4294967296 := by rw [hx]; exact HWF.next
  have HWF := Lib.hid HWF.files
  have HBY := Lib.hid (show body m = enc v ++ enc x ++ enc n ++ encFs l by
    unfold body
    simp only [List.append_assoc]
    rw [hv, hx, hl, HL.out])
  rw [← hv, ← hx]
  rw [← hl] at HF HL HPOS HWF
  clear hpos hbl hl hv hx
  have e1 : IntKind.u64.wrap (x : Int) = (x : Int) := wrap_u64_of (by omega) (by omega)
  have e2 : IntKind.u64.wrap (n : Int) = (n : Int) := wrap_u64_of (by omega) (by omega)
  have hv10 := enc_ten hv64
  have hx10 := enc_ten (show x < 18446744073709551616 by omega)
  have hn10 := enc_ten (show n < 18446744073709551616 by omega)
  have HT10 := Lib.hid (And.intro hv10 (And.intro hx10 hn10))
  obtain ⟨wb, hwb⟩ : ∃ wb, wb = w.alloc (mbox v x A n c) := ⟨_, rfl⟩
  have HWB := Lib.hid hwb
  have KM := Lib.hid (show Kp wb w.heap.size (mbox v x A n c) by rw [hwb]; exact Kp.new w _)
  have HB0 := Lib.hid (show Below w.heap.size w wb by rw [hwb]; exact (Below.refl _ _).alloc (Nat.le_refl _) _)
  clear hwb hv10 hx10 hn10
  go_enter Try.func40, Try.ntmps40
  go_wp2_with fail
  rw [← HWB.out]
  clear HWB
  refine (ref_num_any v wb hv64).mono ?_
  rintro e w1 ⟨v1, t1, rfl, ho1, hb1⟩
  have O1 := Lib.hid (show Ow w w1 v1 t1 (enc v) from ⟨own_more ho1 HB0.out.size, HB0.out.trans (hb1.mono HB0.out.size)⟩)
  have K1 := Lib.hid (KM.out.past hb1)
  obtain ⟨-, q1, -⟩ := K1.out.man
  have ht1 : t1 ≤ 10 := by have := O1.out.len; have := HT10.out.1; omega
  clear ho1 hb1 KM HB0
  go_wp2_with fail
  refine (ref_num_any x w1 (by omega)).mono ?_
  intro e w2 h2
  obtain ⟨A2, n2, c2, rfl, hl2, -, -, hr2, hb2⟩ := h2.open
  have O2 := Lib.hid (O1.out.past hb2)
  have K2 := Lib.hid (K1.out.past hb2)
  have HL2 := Lib.hid hl2
  have HR2 := Lib.hid hr2
  have HS2 := Lib.hid O2.out.below.size
  have hn2 : n2 ≤ 10 := by have := HT10.out.2.1; omega
  clear h2 hl2 hr2 hb2 O1 K1 q1
  go_upto_region 3 with (at_builtin; refine wpList_app rfl (.tmp 10) (.tmp 14) 22 rfl w.heap.size 5 i0 _ Try.underlying22 hi0 hz0 hz1 hz2 rfl v1 t1 _ rfl O2.out.own w2.heap.size A2 n2 c2 (enc x) rfl HL2.out HR2.out (by omega) HS2.out ?_; intro v3 w3 ho3 hg3 _)
  have O3 := Lib.hid (O2.out.app ho3 hg3)
  have K3 := Lib.hid (K2.out.app u8_man O2.out.own hg3)
  obtain ⟨-, -, q2⟩ := K3.out.man
  clear ho3 hg3 O2 K2 HR2 HS2
  go_wp2_with fail
  refine (ref_num_any n w3 (by omega)).mono ?_
  intro e w4 h4
  obtain ⟨A4, n4, c4, rfl, hl4, -, -, hr4, hb4⟩ := h4.open
  have O4 := Lib.hid (O3.out.past hb4)
  have K4 := Lib.hid (K3.out.past hb4)
  have HL4 := Lib.hid hl4
  have HR4 := Lib.hid hr4
  have HS4 := Lib.hid O4.out.below.size
  have hn4 : n4 ≤ 10 := by have := HT10.out.2.2; omega
  clear h4 hl4 hr4 hb4 O3 K3 q2
  go_upto_region 4 with (at_builtin; refine wpList_app rfl (.tmp 16) (.tmp 21) 22 rfl w.heap.size 5 i0 _ Try.underlying22 hi0 hz0 hz1 hz2 rfl v3 (t1 + n2) _ rfl O4.out.own w4.heap.size A4 n4 c4 (enc n) rfl HL4.out HR4.out (by omega) HS4.out ?_; intro v5 w5 ho5 hg5 _)
  have O5 := Lib.hid (O4.out.app ho5 hg5)
  have K5 := Lib.hid (K4.out.app u8_man O4.out.own hg5)
  obtain ⟨-, -, q3⟩ := K5.out.man
  clear ho5 hg5 O4 K4 HR4 HS4
  obtain ⟨hd, hhd⟩ : ∃ hd, hd = enc v ++ enc x ++ enc n := ⟨_, rfl⟩
  rw [← hhd] at HBY O5
  clear hhd
  go_wp2
  clear q3
  go_loopw [3, 26] (fun y i wr => ∃ k t : Nat, k ≤ n ∧ i = .int .i64 (k : Int) ∧ Hid (Ow w wr y t (hd ++ encFs (l.take k))) ∧ Hid (Kp wr w.heap.size (mbox v x A n c))) (fun _ i _ => n - (intOf i).toNat)
  case atStart => exact ⟨0, _, Nat.zero_le _, rfl, Lib.hid (by simpa [encFs] using O5.out), K5⟩
  case round =>
    clear O5 K5
    obtain ⟨k, t, hk, rfl, O, K⟩ := hrel
    have HB := Lib.hid O.out.below
    by_cases hlt : k < n
    · obtain ⟨a, f, rfl, hab, hf, A2, n2, c2, g0, g1, g2, g3, g4, -, -, g7⟩ := HF.out.at (by rw [HL.out]; exact hlt)
      have hax : (a.add (k * 4)).block < w.heap.size := by rw [block_add]; exact hab
      replace g0 := (HB.out.cell hax).trans g0
      replace g1 := (HB.out.cell (p := ⟨_, _, none⟩) hax).trans g1
      replace g2 := (HB.out.cell (p := ⟨_, _, none⟩) hax).trans g2
      replace g3 := (HB.out.cell (p := ⟨_, _, none⟩) hax).trans g3
      have hfm := List.mem_of_getElem? hf
      have hfw := HWF.out f hfm
      have hfp := HPOS.out f hfm
      have hbig : (hd ++ encFs (l.take k)).length + (encF f).length ≤ 1099511627776 := by
        have h1 := HBL.out
        rw [HBY.out] at h1
        have h2 := encFs_le (l := l) (k + 1)
        rw [encFs_take hf] at h2
        simp only [List.length_append] at h1 h2 ⊢
        omega
      obtain ⟨nm, hnm⟩ : ∃ nm, nm = f.name := ⟨_, rfl⟩
      obtain ⟨id, hid⟩ : ∃ id : Nat, id = f.id := ⟨_, rfl⟩
      obtain ⟨z, hz⟩ : ∃ z : Nat, z = f.size.toNat := ⟨_, rfl⟩
      have hsz : f.size = (z : Int) := by have := hfp.size; omega
      obtain ⟨bs, hbs⟩ : ∃ bs, bs = f.blocks := ⟨_, rfl⟩
      obtain ⟨lst, hlst⟩ : ∃ lst, lst = hd ++ encFs (l.take k) := ⟨_, rfl⟩
      have hef : encF f = enc nm.length ++ (nm ++ (enc id ++ (enc z ++ encBs bs))) := by
        unfold encF
        rw [hnm, hid, hz, hbs]
      have HNX := Lib.hid (show hd ++ encFs (l.take (k + 1)) = lst ++ (enc nm.length ++ (nm ++ (enc id ++ (enc z ++ encBs bs)))) by
        rw [encFs_take hf, ← List.append_assoc, ← hlst, hef])
      rw [← hlst, hef] at hbig
      rw [← hlst] at O
      have hid32 : id < 4294967296 := by rw [hid]; exact hfw.id
      have hz63 : (z : Int) ≤ 9223372036854775807 := by rw [← hsz]; exact hfw.high
      have HBP := Lib.hid hfp.blocks
      have HBW := Lib.hid hfw.blocks
      rw [← hbs] at HBP HBW g4 g7
      rw [← hnm] at g0
      rw [← hid] at g1
      rw [hsz] at g2
      have HBLN := Lib.hid g4
      have HBC := Lib.hid g7
      obtain ⟨m1, hm1⟩ : ∃ m1, m1 = nm.length := ⟨_, rfl⟩
      have hs1 : (ByteArray.mk nm.toArray).size = m1 := by rw [hm1]; exact List.size_toArray ..
      rw [← hm1] at hbig HNX
      have HM1 := Lib.hid hm1
      have hsum : t + (enc m1).length + m1 + (enc id).length + (enc z).length + (encBs bs).length ≤ 1099511627776 := by
        have := O.out.len
        simp only [List.length_append] at hbig this
        omega
      obtain ⟨L1, hL1⟩ : ∃ L1, L1 = (enc m1).length := ⟨_, rfl⟩
      obtain ⟨L2, hL2⟩ : ∃ L2, L2 = (enc id).length := ⟨_, rfl⟩
      obtain ⟨L3, hL3⟩ : ∃ L3, L3 = (enc z).length := ⟨_, rfl⟩
      obtain ⟨L4, hL4⟩ : ∃ L4, L4 = (encBs bs).length := ⟨_, rfl⟩
      rw [← hL1, ← hL2, ← hL3, ← hL4] at hsum
      have HLS := Lib.hid (And.intro hL1 (And.intro hL2 (And.intro hL3 hL4)))
      have hm40 : m1 ≤ 1099511627776 := by omega
      have hn240 : n2 ≤ 1099511627776 := by
        have h2 := encBs_length bs
        omega
      have e3 : IntKind.u64.wrap (m1 : Int) = (m1 : Int) := wrap_u64_of (by omega) (by omega)
      have e4 : IntKind.u64.wrap (id : Int) = (id : Int) := wrap_u64_of (by omega) (by omega)
      have e5 : IntKind.u64.wrap (z : Int) = (z : Int) := wrap_u64_of (by omega) (by omega)
      clear hf hfm hfw hfp hnm hid hz hsz hbs hlst hef hm1 g4 g7 hbig hL1 hL2 hL3 hL4
      obtain ⟨-, -, q2⟩ := K.out.man
      obtain ⟨wz, hwz⟩ : ∃ wz, wz = wr.alloc (fbox nm id z A2 n2 c2) := ⟨_, rfl⟩
      have HWZ := Lib.hid hwz
      have hbz : Below wr.heap.size wr wz := by rw [hwz]; exact (Below.refl _ _).alloc (Nat.le_refl _) _
      have OZ := Lib.hid (O.out.past hbz)
      have KZ := Lib.hid (K.out.past hbz)
      have FZ := Lib.hid (show Kp wz wr.heap.size (fbox nm id z A2 n2 c2) by rw [hwz]; exact Kp.new wr _)
      have hwr : w.heap.size < wr.heap.size := K.out.2
      clear hwz hbz
      go_wp2_with fail
      rw [← HWZ.out]
      clear HWZ q2 O K g0 g1 g2 g3 hax
      refine (ref_num_any m1 wz (by omega)).mono ?_
      intro e w6 h6
      obtain ⟨A6, n6, c6, rfl, hl6, -, -, hr6, hb6⟩ := h6.open
      have O6 := Lib.hid (OZ.out.past hb6)
      have K6 := Lib.hid (KZ.out.past hb6)
      have F6 := Lib.hid (FZ.out.past hb6)
      have HL6 := Lib.hid hl6
      have HR6 := Lib.hid hr6
      have HS6 := Lib.hid O6.out.below.size
      have hn6 : n6 = L1 := by rw [← hl6]; exact HLS.out.1.symm
      subst hn6
      clear h6 hl6 hr6 hb6 OZ KZ FZ
      go_upto_region 9 with (at_builtin; refine wpList_app rfl (.tmp 34) (.tmp 39) 22 rfl w.heap.size 5 i0 _ Try.underlying22 hi0 hz0 hz1 hz2 rfl u3 t _ rfl O6.out.own w6.heap.size A6 n6 c6 (enc m1) rfl HL6.out HR6.out (by omega) HS6.out ?_; intro v7 w7 ho hg _)
      have O7 := Lib.hid (O6.out.app ho hg)
      have K7 := Lib.hid (K6.out.app u8_man O6.out.own hg)
      have F7 := Lib.hid (F6.out.app u8_file O6.out.own hg)
      clear ho hg O6 K6 F6 HL6 HR6 HS6
      obtain ⟨q0, -, -, -⟩ := F7.out.file
      obtain ⟨w8, c8, hr8, hb8, hs8, hc8, -⟩ := run_conv (P := Try.prog) 9 22 5 Try.underlying9 Try.underlying22 Try.underlying5 w7 nm
      have O8 := Lib.hid (O7.out.past hb8)
      have K8 := Lib.hid (K7.out.past hb8)
      have F8 := Lib.hid (F7.out.past hb8)
      have HR8 := Lib.hid (show Rd w8 w8.heap.size (some ⟨w7.heap.size, 0, none⟩) nm from fun _ => ⟨_, rfl, hs8, fun j u hu => by
        have := hc8 j u hu
        have e : (⟨w7.heap.size, 0, none⟩ : Addr).add j = ⟨w7.heap.size, j, none⟩ := by unfold Addr.add; split <;> simp_all
        rw [e]; exact this⟩)
      have HS8 := Lib.hid O8.out.below.size
      have HC8 := Lib.hid hr8
      rw [← HM1.out] at HC8
      clear hr8 hb8 hs8 hc8 O7 K7 F7
      go_upto_region 10 with (first
        | (refine wpList_convert_run rfl 9 22 _ rfl _ _ rfl HC8.out ?_)
        | (at_builtin; refine wpList_app rfl (.tmp 41) (.tmp 44) 22 rfl w.heap.size 5 i0 _ Try.underlying22 hi0 hz0 hz1 hz2 rfl v7 (t + n6) _ rfl O8.out.own w8.heap.size (some ⟨w7.heap.size, 0, none⟩) m1 c8 nm rfl HM1.out.symm HR8.out (by omega) HS8.out ?_; intro v9 w9 ho hg _))
      have O9 := Lib.hid (O8.out.app ho hg)
      have K9 := Lib.hid (K8.out.app u8_man O8.out.own hg)
      have F9 := Lib.hid (F8.out.app u8_file O8.out.own hg)
      clear ho hg O8 K8 F8 HR8 HS8 HC8 q0
      obtain ⟨-, q1, -, -⟩ := F9.out.file
      go_wp2_with fail
      refine (ref_num_any id w9 (by omega)).mono ?_
      intro e w10 h6
      obtain ⟨A10, n10, c10, rfl, hl6, -, -, hr6, hb6⟩ := h6.open
      have O10 := Lib.hid (O9.out.past hb6)
      have K10 := Lib.hid (K9.out.past hb6)
      have F10 := Lib.hid (F9.out.past hb6)
      have HL6 := Lib.hid hl6
      have HR6 := Lib.hid hr6
      have HS6 := Lib.hid O10.out.below.size
      have hn10 : n10 = L2 := by rw [← hl6]; exact HLS.out.2.1.symm
      subst hn10
      clear h6 hl6 hr6 hb6 O9 K9 F9 q1
      go_upto_region 11 with (at_builtin; refine wpList_app rfl (.tmp 46) (.tmp 50) 22 rfl w.heap.size 5 i0 _ Try.underlying22 hi0 hz0 hz1 hz2 rfl v9 (t + n6 + m1) _ rfl O10.out.own w10.heap.size A10 n10 c10 (enc id) rfl HL6.out HR6.out (by omega) HS6.out ?_; intro v11 w11 ho hg _)
      have O11 := Lib.hid (O10.out.app ho hg)
      have K11 := Lib.hid (K10.out.app u8_man O10.out.own hg)
      have F11 := Lib.hid (F10.out.app u8_file O10.out.own hg)
      clear ho hg O10 K10 F10 HL6 HR6 HS6
      obtain ⟨-, -, q1, -⟩ := F11.out.file
      go_wp2_with fail
      refine (ref_num_any z w11 (by omega)).mono ?_
      intro e w12 h6
      obtain ⟨A12, n12, c12, rfl, hl6, -, -, hr6, hb6⟩ := h6.open
      have O12 := Lib.hid (O11.out.past hb6)
      have K12 := Lib.hid (K11.out.past hb6)
      have F12 := Lib.hid (F11.out.past hb6)
      have HL6 := Lib.hid hl6
      have HR6 := Lib.hid hr6
      have HS6 := Lib.hid O12.out.below.size
      have hn12 : n12 = L3 := by rw [← hl6]; exact HLS.out.2.2.1.symm
      subst hn12
      clear h6 hl6 hr6 hb6 O11 K11 F11 q1
      go_upto_region 12 with (at_builtin; refine wpList_app rfl (.tmp 52) (.tmp 56) 22 rfl w.heap.size 5 i0 _ Try.underlying22 hi0 hz0 hz1 hz2 rfl v11 (t + n6 + m1 + n10) _ rfl O12.out.own w12.heap.size A12 n12 c12 (enc z) rfl HL6.out HR6.out (by omega) HS6.out ?_; intro v13 w13 ho hg _)
      have O13 := Lib.hid (O12.out.app ho hg)
      have K13 := Lib.hid (K12.out.app u8_man O12.out.own hg)
      have F13 := Lib.hid (F12.out.app u8_file O12.out.own hg)
      clear ho hg O12 K12 F12 HL6 HR6 HS6
      obtain ⟨-, -, -, q3⟩ := F13.out.file
      obtain ⟨pre, hpre⟩ : ∃ pre, pre = lst ++ enc m1 ++ nm ++ enc id ++ enc z := ⟨_, rfl⟩
      rw [← hpre] at O13
      have HNY := Lib.hid (show hd ++ encFs (l.take (k + 1)) = pre ++ encBs bs by rw [HNX.out, hpre]; simp only [List.append_assoc])
      have HPB := Lib.hid (show pre.length + (encBs bs).length ≤ 1099511627776 by
        have h1 := O13.out.len
        have h2 := HLS.out.2.2.2
        omega)
      obtain ⟨Bf, hBf⟩ : ∃ Bf, Bf = wr.heap.size := ⟨_, rfl⟩
      rw [← hBf] at F13 q3 hwr ⊢
      clear hpre hBf
      go_wp2
      clear q3
      go_loopw [3, 61] (fun y i wr => ∃ j t' : Nat, j ≤ n2 ∧ i = .int .i64 (j : Int) ∧ Hid (Ow w wr y t' (pre ++ encBs (bs.take j))) ∧ Hid (Kp wr w.heap.size (mbox v x (some a) n c)) ∧ Hid (Kp wr Bf (fbox nm id z A2 n2 c2))) (fun _ i _ => n2 - (intOf i).toNat)
      case atStart => exact ⟨0, _, Nat.zero_le _, rfl, Lib.hid (by simpa [encBs] using O13.out), K13, F13⟩
      case round =>
        clear O13 K13 F13
        obtain ⟨j, t', hj, rfl, O, K, F⟩ := hrel
        have HBJ := Lib.hid O.out.below
        obtain ⟨-, -, -, q3⟩ := F.out.file
        by_cases hjl : j < n2
        · obtain ⟨y, hy⟩ : ∃ y, bs[j]? = some y := ⟨_, List.getElem?_eq_getElem (by rw [HBLN.out]; exact hjl)⟩
          have hym := List.mem_of_getElem? hy
          obtain ⟨p, hp⟩ : ∃ p : Nat, p = y.toNat := ⟨_, rfl⟩
          have hyp : y = (p : Int) := by have := HBP.out y hym; omega
          have hp64 : (p : Int) ≤ 9223372036854775807 := by rw [← hyp]; exact (HBW.out y hym).2
          obtain ⟨a2, rfl, hab2, hcz⟩ := (HBC.out.below HBJ.out).int hy
          rw [hyp] at hcz
          have e6 : IntKind.u64.wrap (p : Int) = (p : Int) := wrap_u64_of (by omega) (by omega)
          have HBX := Lib.hid (show pre ++ encBs (bs.take (j + 1)) = (pre ++ encBs (bs.take j)) ++ enc p by
            rw [encBs_take hy, hp]
            simp only [List.append_assoc])
          have hbb : t' + (enc p).length ≤ 1099511627776 := by
            have h1 := HPB.out
            have h2 := O.out.len
            have h3 : (encBs (bs.take (j + 1))).length ≤ (encBs bs).length := by
              have e : encBs bs = encBs (bs.take (j + 1)) ++ encBs (bs.drop (j + 1)) := by rw [← encBs_append, List.take_append_drop]
              rw [e, List.length_append]; omega
            have h4 := congrArg List.length HBX.out
            simp only [List.length_append] at h2 h4
            omega
          have HBB := Lib.hid hbb
          clear hy hym hp hyp hbb
          go_wp2_with fail
          refine (ref_num_any p wr (by omega)).mono ?_
          intro e w14 h6
          obtain ⟨A14, n14, c14, rfl, hl6, -, -, hr6, hb6⟩ := h6.open
          have O14 := Lib.hid (O.out.past hb6)
          have K14 := Lib.hid (K.out.past hb6)
          have F14 := Lib.hid (F.out.past hb6)
          have HL6 := Lib.hid hl6
          have HR6 := Lib.hid hr6
          have HS6 := Lib.hid O14.out.below.size
          have hbg : t' + n14 ≤ 1099511627776 := by have := HBB.out; rw [hl6] at this; exact this
          clear h6 hl6 hr6 hb6 O K F q3 HBJ
          go_upto_region 16 with (at_builtin; refine wpList_app rfl (.tmp 64) (.tmp 71) 22 rfl w.heap.size 5 i0 _ Try.underlying22 hi0 hz0 hz1 hz2 rfl u3 t' _ rfl O14.out.own w14.heap.size A14 n14 c14 (enc p) rfl HL6.out HR6.out (by omega) HS6.out ?_; intro v15 w15 ho hg _)
          have O15 := Lib.hid (O14.out.app ho hg)
          have K15 := Lib.hid (K14.out.app u8_man O14.out.own hg)
          have F15 := Lib.hid (F14.out.app u8_file O14.out.own hg)
          rw [← HBX.out] at O15
          clear ho hg O14 K14 F14 HL6 HR6 HS6
          go_wp2
          go_roundw
          case rel => exact ⟨j + 1, _, by omega, by go_num, O15, K15, F15⟩
          case measure => simp [intOf]; omega
        · have hjn : j = n2 := by omega
          subst hjn
          have e : bs.take j = bs := by rw [← HBLN.out, List.take_length]
          have OE := O
          rw [e, ← HNY.out] at OE
          clear O e q3
          go_wp2
          go_roundw
          case rel => exact ⟨k + 1, t', by omega, by go_num, OE, K⟩
          case measure => simp [intOf]; omega
    · have hkn : k = n := by omega
      subst hkn
      have e : l.take k = l := by rw [← HL.out, List.take_length]
      have OE := O
      rw [e, ← HBY.out] at OE
      clear O e
      go_wp2
      go_ret
      exact ⟨_, _, rfl, OE.out.own, OE.out.below⟩
end Go.Proofs.Ytgnghalcihoaaaa
