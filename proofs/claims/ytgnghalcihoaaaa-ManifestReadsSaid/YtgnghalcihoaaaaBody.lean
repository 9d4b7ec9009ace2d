/- What the section of a manifest contains. -/
import Derived.Test.YtgnghalcihoaaaaEnc
import Derived.Test.YtgnghalcihoaaaaBlks
import Derived.Lib.AppendStr
import Derived.Deep.DeepCutAuto
import Derived.Deep.CutBlock
namespace Go.Proofs.Ytgnghalcihoaaaa
open Go.RowKit Me Mf Va

/-- A file's box. -/
abbrev fbox (nm : List UInt8) (id : Nat) (sz : Int) (A : Option Addr) (n c : Nat) : Obj := .cells #[.string ⟨nm.toArray⟩, .int .u32 (id : Int), .int .i64 sz, .slice A n c] 41
theorem fbox_cells {w : World} {b : Nat} {nm : List UInt8} {id : Nat} {sz : Int} {A : Option Addr} {n c : Nat} (h : w.heap[b]? = some (fbox nm id sz A n c)) :
    w.cell? ⟨b, 0, none⟩ = some (.string ⟨nm.toArray⟩) ∧ w.cell? ⟨b, 1, none⟩ = some (.int .u32 (id : Int)) ∧ w.cell? ⟨b, 2, none⟩ = some (.int .i64 sz) ∧ w.cell? ⟨b, 3, none⟩ = some (.slice A n c) := by
  refine ⟨?_, ?_, ?_, ?_⟩ <;> (simp only [World.cell?, h]; rfl)
/-- Bytes of one's own while a file lies in a box. -/
structure Ap (w wr : World) (b : Nat) (o : Obj) (v : Value) (t : Nat) (l : List UInt8) : Prop where
  own : wr.ownsRow w.heap.size 5 1 v t (cellsOf l)
  box : wr.heap[b]? = some o
  lt : b < wr.heap.size
  below : Below w.heap.size w wr
theorem Ap.len {w wr : World} {b t : Nat} {o : Obj} {v : Value} {l : List UInt8} (h : Ap w wr b o v t l) : l.length = t := by
  have := h.own.1
  rwa [cellsOf_length, Nat.mul_one] at this
theorem Ap.past {w wr w1 : World} {b t : Nat} {o : Obj} {v : Value} {l : List UInt8} (h : Ap w wr b o v t l) (hb : Below wr.heap.size wr w1) : Ap w w1 b o v t l :=
  ⟨own_below h.own hb, (hb.block b h.lt).trans h.box, Nat.lt_of_lt_of_le h.lt hb.size, h.below.trans (hb.mono h.below.size)⟩
theorem Ap.app {w wr w1 : World} {b t t' : Nat} {cs : Array Value} {v v' : Value} {l l' : List UInt8} (h : Ap w wr b (.cells cs 41) v t l) (ho : w1.ownsRow w.heap.size 5 1 v' t' (cellsOf l')) (hg : wr.grownBy w1 v.ownBlock) : Ap w w1 b (.cells cs 41) v' t' l' :=
  ⟨ho, (hg.block b h.lt (own_not_box h.own h.box (by decide) ∘ Eq.symm)).trans h.box, Nat.lt_of_lt_of_le h.lt hg.size, h.below.grown hg h.below.size (fun k hk => (h.own.lt k hk).1)⟩
theorem strCells_eq (l : List UInt8) : Lib.strCells ⟨l.toArray⟩ = cellsOf l := by
  simp [Lib.strCells, cellsOf]
theorem wrap_u64_of {z : Int} (h1 : 0 ≤ z) (h2 : z < 18446744073709551616) : IntKind.u64.wrap z = z := by rw [IntKind.wrap_u64]; omega
set_option maxRecDepth 100000 in
set_option maxHeartbeats 2000000 in
theorem body_any (A : Option Addr) (n c : Nat) (m : ManD) (w : World) (hpos : ∀ f ∈ m.files, PosF f) (hbl : (body m).length ≤ 1099511627776) (h : ManAt w w.heap.size A n c m) :
    Calls Try.prog 60 #[mval m.version m.next A n c] w (News w (body m)) := by
  obtain ⟨i0, hi0, hz0, hz1, hz2⟩ := info_parts u8_info
  obtain ⟨HF, HL, -, -, HWF⟩ := h
  have hn40 : n ≤ 1099511627776 := by
    have h1 := body_length m
    have h2 := encFs_length m.files
    omega
  have HF := Lib.hid HF
  have HL := Lib.hid HL
  have HPOS := Lib.hid hpos
  have HBL := Lib.hid hbl
  obtain ⟨l, hl⟩ : ∃ l, l = m.files := ⟨_, rfl⟩
  obtain ⟨v, hv⟩ : ∃ v, v = m.version := ⟨_, rfl⟩
  obtain ⟨x, hx⟩ : ∃ x, x = m.next := ⟨_, rfl⟩
  have hv64 : v < 18446744073709551616 := by rw [hv]; exact HWF.version
  have hx32 : x < 4294967296 := by rw [hx]; exact HWF.next
  have HWF := Lib.hid HWF.files
  have HBY := Lib.hid (show body m = encNs [v, x, n] ++ encFs l by
    unfold body
    simp only [encNs, List.append_assoc, List.append_nil]
    rw [hv, hx, hl, HL.out])
  rw [← hv, ← hx]
  rw [← hl] at HF HL HPOS HWF
  clear hpos hbl hl hv hx
  have e1 : IntKind.u64.wrap (x : Int) = (x : Int) := wrap_u64_of (by omega) (by omega)
  have e2 : IntKind.u64.wrap (n : Int) = (n : Int) := wrap_u64_of (by omega) (by omega)
  have HHD := Lib.hid (encNs_ten [v, x, n] (by simp; omega))
  obtain ⟨wb, hwb⟩ : ∃ wb, wb = (w.alloc (.cells #[.int .u64 (v : Int), .int .u32 (x : Int), .slice A n c] 28)).alloc (.cells #[.int .u64 (v : Int), .int .u64 (x : Int), .int .u64 (n : Int)] 24) := ⟨_, rfl⟩
  have HWB := Lib.hid hwb
  have HB0 := Lib.hid (show Below w.heap.size w wb by rw [hwb]; exact ((Below.refl _ _).alloc (Nat.le_refl _) _).alloc (by simp) _)
  have HC0 := Lib.hid (show Cs wb wb.heap.size (some ⟨w.heap.size + 1, 0, none⟩) (ucells [v, x, n]) by
    rw [hwb]
    have := Cs.lit (w.alloc (.cells #[.int .u64 (v : Int), .int .u32 (x : Int), .slice A n c] 28)) #[.int .u64 (v : Int), .int .u64 (x : Int), .int .u64 (n : Int)] 24
    simpa [ucells] using this)
  have hq2 : wb.cell? ⟨w.heap.size, 2, none⟩ = some (.slice A n c) := by rw [hwb, World.cell?_alloc_lt _ _ _ (by simp)]; simp only [World.cell?, heap_alloc_new]; rfl
  have HQ2 := Lib.hid hq2
  have HBS := Lib.hid (show w.heap.size < wb.heap.size by rw [hwb]; simp; omega)
  clear hwb hq2
  go_enter Try.func60, Try.ntmps60
  go_wp2_with fail
  rw [← HWB.out]
  clear HWB
  refine (encoded_any (some ⟨w.heap.size + 1, 0, none⟩) 3 3 [v, x, n] wb wb.heap.size rfl (by omega) (by simp; omega) HC0.out (Nat.le_refl _)).mono ?_
  rintro e w1 ⟨v1, t1, rfl, ho1, hb1⟩
  have hlen1 := ho1.1
  rw [cellsOf_length, Nat.mul_one] at hlen1
  have HB1 := Lib.hid (HB0.out.trans (hb1.mono HB0.out.size))
  have HO1 := Lib.hid (own_more ho1 HB0.out.size)
  have hr2 : w1.cell? ⟨w.heap.size, 2, none⟩ = some (.slice A n c) := (hb1.cell (p := ⟨w.heap.size, 2, none⟩) HBS.out).trans HQ2.out
  have HT1 := Lib.hid hlen1
  clear ho1 hb1 hlen1
  go_wp2
  clear hr2
  go_loopw [3, 22] (fun y i wr => ∃ k t : Nat, k ≤ n ∧ i = .int .i64 (k : Int) ∧ Hid (wr.ownsRow w.heap.size 5 1 y t (cellsOf (encNs [v, x, n] ++ encFs (l.take k)))) ∧ Hid (Below w.heap.size w wr)) (fun _ i _ => n - (intOf i).toNat)
  case atStart => exact ⟨0, t1, Nat.zero_le _, rfl, Lib.hid (by simpa [encFs] using HO1.out), HB1⟩
  case round =>
    clear HB0 HC0 HQ2 HBS HB1 HO1 HT1
    obtain ⟨k, t, hk, rfl, HO, HB⟩ := hrel
    by_cases hlt : k < n
    · obtain ⟨a, f, rfl, hab, hf, A2, n2, c2, g0, g1, g2, g3, g4, -, -, g7⟩ := HF.out.at (by rw [HL.out]; exact hlt)
      have hax : (a.add (k * 4)).block < w.heap.size := by rw [block_add]; exact hab
      replace g0 := (HB.out.cell hax).trans g0
      replace g1 := (HB.out.cell (p := ⟨_, _, none⟩) hax).trans g1
      replace g2 := (HB.out.cell (p := ⟨_, _, none⟩) hax).trans g2
      replace g3 := (HB.out.cell (p := ⟨_, _, none⟩) hax).trans g3
      clear hax
      have hfm := List.mem_of_getElem? hf
      have hfw := HWF.out f hfm
      have hfp := HPOS.out f hfm
      have hbig : (encNs [v, x, n] ++ encFs (l.take k)).length + (encF f).length ≤ 1099511627776 := by
        have h1 := HBL.out
        rw [HBY.out] at h1
        have h2 := encFs_le (l := l) (k + 1)
        rw [encFs_take hf] at h2
        simp only [List.length_append] at h1 h2 ⊢
        omega
      obtain ⟨nm, hnm⟩ : ∃ nm, nm = f.name := ⟨_, rfl⟩
      obtain ⟨id, hid⟩ : ∃ id : Nat, id = f.id := ⟨_, rfl⟩
      obtain ⟨z, hz⟩ : ∃ z : Nat, z = f.size.toNat := ⟨_, rfl⟩
      have hsz : f.size = (z : Int) := by have := hfp.size; omega
      obtain ⟨bs, hbs⟩ : ∃ bs, bs = f.blocks := ⟨_, rfl⟩
      obtain ⟨lst, hlst⟩ : ∃ lst, lst = encNs [v, x, n] ++ encFs (l.take k) := ⟨_, rfl⟩
      have hef : encF f = encNs [nm.length] ++ (nm ++ (encNs [id, z] ++ encBs bs)) := by
        unfold encF
        rw [hnm, hid, hz, hbs]
        simp only [encNs, List.append_assoc, List.append_nil]
      have HNX := Lib.hid (show encNs [v, x, n] ++ encFs (l.take (k + 1)) = lst ++ (encNs [nm.length] ++ (nm ++ (encNs [id, z] ++ encBs bs))) by
        rw [encFs_take hf, ← List.append_assoc, ← hlst, hef])
      rw [← hlst, hef] at hbig
      rw [← hlst] at HO
      have hid32 : id < 4294967296 := by rw [hid]; exact hfw.id
      have hz63 : (z : Int) ≤ 9223372036854775807 := by rw [← hsz]; exact hfw.high
      have HBP := Lib.hid hfp.blocks
      have HBW := Lib.hid hfw.blocks
      rw [← hbs] at HBP HBW g4 g7
      rw [← hnm] at g0
      rw [← hid] at g1
      rw [hsz] at g2
      have HBLN := Lib.hid g4
      have HBC := Lib.hid g7
      obtain ⟨m1, hm1⟩ : ∃ m1, m1 = nm.length := ⟨_, rfl⟩
      have hs1 : (ByteArray.mk nm.toArray).size = m1 := by rw [hm1]; exact List.size_toArray ..
      rw [← hm1] at hbig HNX
      have HM1 := Lib.hid hm1
      have HBIG := Lib.hid hbig
      have hm40 : m1 ≤ 1099511627776 := by simp only [List.length_append] at hbig; omega
      have e3 : IntKind.u64.wrap (m1 : Int) = (m1 : Int) := wrap_u64_of (by omega) (by omega)
      have e4 : IntKind.u64.wrap (id : Int) = (id : Int) := wrap_u64_of (by omega) (by omega)
      have e5 : IntKind.u64.wrap (z : Int) = (z : Int) := wrap_u64_of (by omega) (by omega)
      clear hf hfm hfw hfp hnm hid hz hsz hbs hlst hef hm1 g4 g7 hbig
      obtain ⟨wz, hwz⟩ : ∃ wz, wz = wr.alloc (fbox nm id z A2 n2 c2) := ⟨_, rfl⟩
      obtain ⟨b, hb⟩ : ∃ b, b = wr.heap.size := ⟨_, rfl⟩
      obtain ⟨w2, hw2⟩ : ∃ w2, w2 = wz.alloc (.cells #[.int .u64 (m1 : Int)] 24) := ⟨_, rfl⟩
      have AP0 := Lib.hid (show Ap w wz b (fbox nm id z A2 n2 c2) u3 t lst from by
        rw [hwz, hb]
        exact ⟨own_below HO.out ((Below.refl _ _).alloc (Nat.le_refl _) _), heap_alloc_new wr _, by simp, HB.out.alloc HB.out.size _⟩)
      have HZB := Lib.hid (show Below wr.heap.size wr wz by rw [hwz]; exact (Below.refl _ _).alloc (Nat.le_refl _) _)
      have AP2 := Lib.hid (show Ap w w2 b (fbox nm id z A2 n2 c2) u3 t lst from by rw [hw2]; exact AP0.out.past ((Below.refl _ _).alloc (Nat.le_refl _) _))
      have HC2 := Lib.hid (show Cs w2 w2.heap.size (some ⟨wz.heap.size, 0, none⟩) (ucells [m1]) by
        rw [hw2]
        have := Cs.lit wz #[.int .u64 (m1 : Int)] 24
        simpa [ucells] using this)
      have HW2 := Lib.hid (show w2 = (wr.alloc (fbox nm id z A2 n2 c2)).alloc (.cells #[.int .u64 (m1 : Int)] 24) by rw [hw2, hwz])
      have HZS := Lib.hid (show wz.heap.size = wr.heap.size + 1 by rw [hwz]; simp)
      clear hwz hw2
      go_wp2_with fail
      subst hb
      rw [← HW2.out]
      rw [HZS.out] at HC2
      clear HW2
      refine (encoded_any (some ⟨wr.heap.size + 1, 0, none⟩) 1 1 [m1] w2 w2.heap.size rfl (by omega) (by simp; omega) HC2.out (Nat.le_refl _)).mono ?_
      intro e w3 h3
      obtain ⟨A3, n3, c3, rfl, hl3, -, -, hr3, hb3⟩ := h3.open
      have AP3 := Lib.hid (AP2.out.past hb3)
      have HB3 := Lib.hid (AP3.out.below)
      have HL3 := Lib.hid hl3
      have HR3 := Lib.hid hr3
      clear h3 hl3 hr3 hb3 HC2 AP2 AP0
      have HT := Lib.hid AP3.out.len
      have hbg : t + n3 ≤ 1099511627776 := by
        have h1 := HBIG.out
        have h2 := HL3.out
        have h3 := HT.out
        simp only [List.length_append] at h1
        omega
      go_upto_region 6 with (at_builtin; refine wpList_app rfl (.tmp 26) (.tmp 32) 22 rfl w.heap.size 5 i0 _ Try.underlying22 hi0 hz0 hz1 hz2 rfl u3 t lst rfl AP3.out.own w3.heap.size A3 n3 c3 (encNs [m1]) rfl HL3.out HR3.out (by omega) HB3.out.size ?_; intro v4 w4 ho4 hg4 _)
      have AP4 := Lib.hid (AP3.out.app ho4 hg4)
      clear ho4 hg4
      obtain ⟨q0, -, -, -⟩ := fbox_cells AP4.out.box
      have hbg4 : t + n3 + m1 ≤ 1099511627776 := by
        have h1 := HBIG.out
        have h2 := HL3.out
        have h3 := HT.out
        have h4 := HM1.out
        simp only [List.length_append] at h1
        omega
      have HB4 := Lib.hid AP4.out.below
      go_upto_region 7 with (at_builtin; refine Lib.wpList_append_own_string w4 rfl (.tmp 34) (.tmp 36) 22 9 rfl w.heap.size 5 i0 Try.underlying22 Try.underlying9 hi0 hz0 hz1 hz2 v4 (t + n3) _ rfl AP4.out.own ⟨nm.toArray⟩ rfl (by rw [hs1]; unfold maxLen; omega) (by rw [hs1]; omega) HB4.out.size ?_; intro v5 w5 ho5 hg5 _)
      rw [hs1, strCells_eq, ← cellsOf_append] at ho5
      have AP5 := Lib.hid (AP4.out.app ho5 hg5)
      clear ho5 hg5 q0 HB4
      obtain ⟨-, q1, q2, -⟩ := fbox_cells AP5.out.box
      obtain ⟨w6, hw6⟩ : ∃ w6, w6 = w5.alloc (.cells #[.int .u64 (id : Int), .int .u64 (z : Int)] 24) := ⟨_, rfl⟩
      have AP6 := Lib.hid (show Ap w w6 wr.heap.size (fbox nm id z A2 n2 c2) v5 (t + n3 + m1) (lst ++ encNs [m1] ++ nm) from by rw [hw6]; exact AP5.out.past ((Below.refl _ _).alloc (Nat.le_refl _) _))
      have HC6 := Lib.hid (show Cs w6 w6.heap.size (some ⟨w5.heap.size, 0, none⟩) (ucells [id, z]) by
        rw [hw6]
        have := Cs.lit w5 #[.int .u64 (id : Int), .int .u64 (z : Int)] 24
        simpa [ucells] using this)
      have HW6 := Lib.hid hw6
      clear hw6
      go_wp2_with fail
      rw [← HW6.out]
      clear HW6 q1 q2
      refine (encoded_any (some ⟨w5.heap.size, 0, none⟩) 2 2 [id, z] w6 w6.heap.size rfl (by omega) (by simp; omega) HC6.out (Nat.le_refl _)).mono ?_
      intro e w7 h7
      obtain ⟨A7, n7, c7, rfl, hl7, -, -, hr7, hb7⟩ := h7.open
      have AP7 := Lib.hid (AP6.out.past hb7)
      have HB7 := Lib.hid AP7.out.below
      have HL7 := Lib.hid hl7
      have HR7 := Lib.hid hr7
      clear h7 hl7 hr7 hb7 HC6 AP6
      have hbg7 : t + n3 + m1 + n7 ≤ 1099511627776 := by
        have h1 := HBIG.out
        have h2 := HL3.out
        have h3 := HT.out
        have h4 := HM1.out
        have h5 := HL7.out
        simp only [List.length_append] at h1
        omega
      go_upto_region 8 with (at_builtin; refine wpList_app rfl (.tmp 38) (.tmp 46) 22 rfl w.heap.size 5 i0 _ Try.underlying22 hi0 hz0 hz1 hz2 rfl v5 (t + n3 + m1) _ rfl AP7.out.own w7.heap.size A7 n7 c7 (encNs [id, z]) rfl HL7.out HR7.out (by omega) HB7.out.size ?_; intro v8 w8 ho8 hg8 _)
      have AP8 := Lib.hid (AP7.out.app ho8 hg8)
      clear ho8 hg8 HB7 hbg hbg4 AP3 AP4 AP5 AP7 HR7 HB3 HR3
      obtain ⟨-, -, -, q3⟩ := fbox_cells AP8.out.box
      have HB8 := Lib.hid AP8.out.below
      have HO8 := Lib.hid AP8.out.own
      obtain ⟨pre, hpre⟩ : ∃ pre, pre = lst ++ encNs [m1] ++ nm ++ encNs [id, z] := ⟨_, rfl⟩
      rw [← hpre] at HO8
      have HNY := Lib.hid (show encNs [v, x, n] ++ encFs (l.take (k + 1)) = pre ++ encBs bs by rw [HNX.out, hpre]; simp only [List.append_assoc])
      have HPB := Lib.hid (show pre.length + (encBs bs).length ≤ 1099511627776 by
        have h1 := HBIG.out
        rw [hpre]
        simp only [List.length_append] at h1 ⊢
        omega)
      have hn240 : n2 ≤ 1099511627776 := by
        have h1 := HPB.out
        have h2 := encBs_length bs
        have h3 := HBLN.out
        omega
      clear hpre AP8
      go_wp2
      go_loopw [3, 51] (fun y i wr' => ∃ j t' : Nat, j ≤ n2 ∧ i = .int .i64 (j : Int) ∧ Hid (wr'.ownsRow w.heap.size 5 1 y t' (cellsOf (pre ++ encBs (bs.take j)))) ∧ Hid (Below w.heap.size w wr')) (fun _ i _ => n2 - (intOf i).toNat)
      case atStart => exact ⟨0, _, Nat.zero_le _, rfl, Lib.hid (by simpa [encBs] using HO8.out), HB8⟩
      case round =>
        clear HB8 HO8 q3
        obtain ⟨j, t', hj, rfl, HOJ, HBJ⟩ := hrel
        by_cases hjl : j < n2
        · obtain ⟨y, hy⟩ : ∃ y, bs[j]? = some y := ⟨_, List.getElem?_eq_getElem (by rw [HBLN.out]; exact hjl)⟩
          have hym := List.mem_of_getElem? hy
          obtain ⟨p, hp⟩ : ∃ p : Nat, p = y.toNat := ⟨_, rfl⟩
          have hyp : y = (p : Int) := by have := HBP.out y hym; omega
          have hp64 : (p : Int) ≤ 9223372036854775807 := by rw [← hyp]; exact (HBW.out y hym).2
          obtain ⟨a2, rfl, hab2, hcz⟩ := (HBC.out.below HBJ.out).int hy
          rw [hyp] at hcz
          have e6 : IntKind.u64.wrap (p : Int) = (p : Int) := wrap_u64_of (by omega) (by omega)
          have HBX := Lib.hid (show pre ++ encBs (bs.take (j + 1)) = (pre ++ encBs (bs.take j)) ++ encNs [p] by
            rw [encBs_take hy, hp]
            simp only [encNs, List.append_assoc, List.append_nil])
          have hbb : t' + (encNs [p]).length ≤ 1099511627776 := by
            have h1 := HPB.out
            have h2 := HOJ.out.1
            rw [cellsOf_length, Nat.mul_one] at h2
            have h3 : (encBs (bs.take (j + 1))).length ≤ (encBs bs).length := by
              have e : encBs bs = encBs (bs.take (j + 1)) ++ encBs (bs.drop (j + 1)) := by rw [← encBs_append, List.take_append_drop]
              rw [e, List.length_append]; omega
            have h4 := congrArg List.length HBX.out
            simp only [List.length_append] at h2 h4
            omega
          have HBB := Lib.hid hbb
          clear hy hym hp hyp hbb
          obtain ⟨wa, hwa⟩ : ∃ wa, wa = wr.alloc (.cells #[.int .u64 (p : Int)] 24) := ⟨_, rfl⟩
          have HOA := Lib.hid (show wa.ownsRow w.heap.size 5 1 u3 t' (cellsOf (pre ++ encBs (bs.take j))) from by rw [hwa]; exact own_below HOJ.out ((Below.refl _ _).alloc (Nat.le_refl _) _))
          have HBA := Lib.hid (show Below w.heap.size w wa by rw [hwa]; exact HBJ.out.alloc HBJ.out.size _)
          have HCA := Lib.hid (show Cs wa wa.heap.size (some ⟨wr.heap.size, 0, none⟩) (ucells [p]) by
            rw [hwa]
            have := Cs.lit wr #[.int .u64 (p : Int)] 24
            simpa [ucells] using this)
          have HWA := Lib.hid hwa
          clear hwa HOJ
          go_wp2_with fail
          rw [← HWA.out]
          clear HWA
          refine (encoded_any (some ⟨wr.heap.size, 0, none⟩) 1 1 [p] wa wa.heap.size rfl (by omega) (by simp; omega) HCA.out (Nat.le_refl _)).mono ?_
          intro e w9 h9
          obtain ⟨A9, n9, c9, rfl, hl9, -, -, hr9, hb9⟩ := h9.open
          have HO9 := Lib.hid (own_below HOA.out hb9)
          have HB9 := Lib.hid (HBA.out.trans (hb9.mono HBA.out.size))
          have HL9 := Lib.hid hl9
          have HR9 := Lib.hid hr9
          have hbg9 : t' + n9 ≤ 1099511627776 := by have := HBB.out; rw [hl9] at this; exact this
          clear h9 hl9 hr9 hb9 HCA HOA HBA HBJ
          go_upto_region 12 with (at_builtin; refine wpList_app rfl (.tmp 55) (.tmp 59) 22 rfl w.heap.size 5 i0 _ Try.underlying22 hi0 hz0 hz1 hz2 rfl u3 t' _ rfl HO9.out w9.heap.size A9 n9 c9 (encNs [p]) rfl HL9.out HR9.out (by omega) HB9.out.size ?_; intro v10 w10 ho10 hg10 _)
          have HB10 := Lib.hid (below_app HB9.out HO9.out (Nat.le_refl _) HB9.out.size hg10)
          rw [← HBX.out] at ho10
          have HO10 := Lib.hid ho10
          clear ho10 hg10 HO9 HB9 HR9
          go_wp2
          go_roundw
          case rel => exact ⟨j + 1, _, by omega, by go_num, HO10, HB10⟩
          case measure => simp [intOf]; omega
        · have hjn : j = n2 := by omega
          subst hjn
          have e : bs.take j = bs := by rw [← HBLN.out, List.take_length]
          have HOE := HOJ
          rw [e, ← HNY.out] at HOE
          clear HOJ e
          go_wp2
          go_roundw
          case rel => exact ⟨k + 1, t', by omega, by go_num, HOE, HBJ⟩
          case measure => simp [intOf]; omega
    · have hkn : k = n := by omega
      subst hkn
      have e : l.take k = l := by rw [← HL.out, List.take_length]
      have HOE := HO
      rw [e, ← HBY.out] at HOE
      clear HO e
      go_wp2
      go_ret
      exact ⟨_, _, rfl, HOE.out, HB.out⟩
end Go.Proofs.Ytgnghalcihoaaaa
