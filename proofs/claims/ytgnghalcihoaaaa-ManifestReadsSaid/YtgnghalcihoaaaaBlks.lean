/- Whether the files' blocks fit. -/
import Derived.Test.YtgnghalcihoaaaaIds
import Derived.Test.YtgnghalcihoaaaaGrow
namespace Go.Proofs.Ytgnghalcihoaaaa
open Go.RowKit Me Mf Go.Maps

theorem wf_i64 {i : Int} (h1 : -9223372036854775808 ≤ i) (h2 : i ≤ 9223372036854775807) : (Lit.int IntKind.i64 i).wf = true := by
  simp [Lit.wf, IntKind.min, IntKind.max, IntKind.bits, IntKind.signed]; omega
theorem Cs.int {w : World} {B : Nat} {A : Option Addr} {l : List Int} (h : Cs w B A (icells l)) {j : Nat} {z : Int} (hz : l[j]? = some z) : ∃ a, A = some a ∧ a.block < B ∧ w.cell? (a.add j) = some (.int .i64 z) := by
  have hj : j < l.length := (List.getElem?_eq_some_iff.1 hz).1
  obtain ⟨a, e, hb, hc⟩ := h (by rw [icells_length]; omega)
  exact ⟨a, e, hb, hc j _ (icells_get hz)⟩
/-- How many blocks. -/
def countOf (l : List FileD) : Nat := (allBlocks l).length
theorem countOf_le (l : List FileD) (k : Nat) : countOf (l.take k) ≤ countOf l := by
  unfold countOf
  have e : allBlocks l = allBlocks (l.take k) ++ allBlocks (l.drop k) := by rw [← allBlocks_append, List.take_append_drop]
  rw [e, List.length_append]; omega
theorem countOf_next {l : List FileD} {k : Nat} {f : FileD} (h : l[k]? = some f) : countOf (l.take (k + 1)) = countOf (l.take k) + f.blocks.length := by
  unfold countOf
  rw [take_snoc h, allBlocks_snoc, List.length_append]
/-- What is known of the slots of the file's test. -/
def bhG (b : Nat) (sz mz : Int) (A2 : Option Addr) (n2 c2 : Nat) (b1 b2 : Bool) : Gw.Fact := fun t v _ =>
  match t with
  | 6 => v = .pointer (some ⟨b, 0, none⟩)
  | 16 => v = .pointer (some ⟨b, 2, none⟩)
  | 17 => v = .int .i64 sz
  | 18 | 19 => v = .bool b1
  | 20 => b1 = false → v = .pointer (some ⟨b, 3, none⟩)
  | 21 => b1 = false → v = .slice A2 n2 c2
  | 22 => b1 = false → v = .int .i64 (n2 : Int)
  | 23 => b1 = false → v = .pointer (some ⟨b, 2, none⟩)
  | 24 => b1 = false → v = .int .i64 sz
  | 25 => b1 = false → v = .int .i64 mz
  | 26 => b1 = false → v = .bool b2
  | 27 => v = .bool (b1 || b2)
  | _ => True
set_option maxRecDepth 100000 in
set_option maxHeartbeats 2000000 in
theorem blks_any (A : Option Addr) (n c : Nat) (l : List FileD) (w : World) (hl : l.length = n) (hn : n ≤ 1073741824) (hcn : countOf l ≤ 1073741824) (hwf : ∀ f ∈ l, WfF f) (h : Files w w.heap.size A l) :
    Calls Try.prog 58 #[.slice A n c] w (Bp w (BlocksOk l)) := by
  have hmm := @run_makeMap Try.prog
  have HF := Lib.hid h
  have HL := Lib.hid hl
  have HWF := Lib.hid hwf
  have HCN := Lib.hid hcn
  clear h hl hwf hcn
  go_enter Try.func58, Try.ntmps58
  go_wp2
  go_loopw [4, 12] (fun cn i wr => ∃ k t : Nat, k ≤ n ∧ i = .int .i64 (k : Int) ∧ cn = .int .i64 (t : Int) ∧ t ≤ 1073741824 ∧ Hid (t = countOf (l.take k)) ∧ Hid (∀ f ∈ l.take k, BlkOk f) ∧ Hid (wr.ownsMap Try.prog 3 ue w.heap.size t (setOf uu (keysOf .i64 (allBlocks (l.take k))))) ∧ Hid (Below w.heap.size w wr) ∧ w.heap.size < wr.heap.size) (fun _ i _ => n - (intOf i).toNat)
  case atStart => exact ⟨0, 0, Nat.zero_le _, rfl, rfl, by omega, Lib.hid rfl, Lib.hid (fun f h => by simp at h), Lib.hid (World.ownsMap_made (H := Unit) w Try.prog 3 ue), Lib.hid ((Below.refl _ w).alloc (Nat.le_refl _) _), by simp⟩
  case round =>
    obtain ⟨k, t, hk, rfl, rfl, ht, HT, HOK, HOWN, HB, hws⟩ := hrel
    by_cases hlt : k < n
    · obtain ⟨a, f, rfl, hab, hf, A2, n2, c2, g0, g1, g2, g3, g4, g5, g6, g7⟩ := (HF.out.below HB.out).at (by rw [HL.out]; exact hlt)
      have HFK := Lib.hid hf
      have hfw := HWF.out f (List.mem_of_getElem? hf)
      obtain ⟨nm, hnm⟩ : ∃ nm, nm = f.name := ⟨_, rfl⟩
      obtain ⟨id, hid⟩ : ∃ id : Nat, id = f.id := ⟨_, rfl⟩
      obtain ⟨sz, hsz'⟩ : ∃ sz, sz = f.size := ⟨_, rfl⟩
      obtain ⟨mz, hmz⟩ : ∃ mz, mz = manyZ f.size := ⟨_, rfl⟩
      have hmany := fun w => many_any f.size w hfw.high
      rw [← hmz, ← hsz'] at hmany
      rw [← hnm] at g0
      rw [← hid] at g1
      rw [← hsz'] at g2
      have HSZ := Lib.hid hsz'
      have HMZ := Lib.hid hmz
      have HMANY := Lib.hid hmany
      have HBL := Lib.hid g4
      have HBC := Lib.hid g7
      have hfw' := Lib.hid hfw
      clear hnm hid hsz' hf hmz hmany g4 g7 hfw
      obtain ⟨b1, hb1⟩ : ∃ b1, decide (sz < 0) = b1 := ⟨_, rfl⟩
      obtain ⟨b2, hb2⟩ : ∃ b2, ((n2 : Int) != mz) = b2 := ⟨_, rfl⟩
      obtain ⟨wz, hwz⟩ : ∃ wz, wz = wr.alloc (.cells #[.string ⟨nm.toArray⟩, .int .u32 (id : Int), .int .i64 sz, .slice A2 n2 c2] 41) := ⟨_, rfl⟩
      have hzs : wz.heap.size = wr.heap.size + 1 := by rw [hwz]; simp
      have HRZ := Lib.hid (show Below w.heap.size wr wz by rw [hwz]; exact (Below.refl _ _).alloc HB.out.size _)
      have HTN := Lib.hid (show t + n2 ≤ 1073741824 from by
        have e1 := countOf_next HFK.out
        have e2 := countOf_le l (k + 1)
        have e3 := HT.out
        have e4 := HCN.out
        have e5 := HBL.out
        omega)
      have hzb : Below w.heap.size w wz := by rw [hwz]; exact HB.out.alloc HB.out.size _
      have hz2 : wz.cell? ⟨wr.heap.size, 2, none⟩ = some (.int .i64 sz) := by rw [hwz]; simp only [World.cell?, heap_alloc_new]; rfl
      have hz3 : wz.cell? ⟨wr.heap.size, 3, none⟩ = some (.slice A2 n2 c2) := by rw [hwz]; simp only [World.cell?, heap_alloc_new]; rfl
      have hzo : wz.ownsMap Try.prog 3 ue w.heap.size t (setOf uu (keysOf .i64 (allBlocks (l.take k)))) := by rw [hwz]; exact HOWN.out.alloc _
      have HZS := Lib.hid hzs
      have HZB := Lib.hid hzb
      have HZ2 := Lib.hid hz2
      have HZ3 := Lib.hid hz3
      have HZO := Lib.hid hzo
      have HB1 := Lib.hid hb1
      have HB2 := Lib.hid hb2
      have HWZ := Lib.hid hwz
      clear hzs hzb hz2 hz3 hzo hb1 hb2 hwz
      go_wp2_with fail
      rw [← HWZ.out]
      clear HWZ
      obtain ⟨b, hb⟩ : ∃ b, b = wr.heap.size := ⟨_, rfl⟩
      have hbw : w.heap.size < b := by rw [hb]; exact hws
      rw [← hb] at HZS HZ2 HZ3 ⊢
      have HBE := Lib.hid hb
      clear hb
      refine Gw.wp_region_grow (bhG b sz mz A2 n2 c2 b1 b2) [16, 17, 18, 19, 20, 21, 22, 23, 24, 25, 26, 27] [([6], none), ([16], none), ([17], none), ([18], none), ([6, 19], some (19, false)), ([20, 19], some (19, false)), ([21, 19], some (19, false)), ([6, 19], some (19, false)), ([23, 19], some (19, false)), ([24, 19], some (19, false)), ([22, 25, 19], some (19, false)), ([19, 26], none)] 55 (by kernel_rfl) (by kernel_rfl) rfl ?h0 ?hreq ?hend
      case h0 =>
        intro t W hnd _
        unfold bhG
        split <;> first | rfl | trivial | exact absurd (by simp) hnd
      case hreq =>
        have q1 := HB1.out
        have q2 := HB2.out
        refine ⟨?_, ?_, ?_, ?_, ?_, ?_, ?_, ?_, ?_, ?_, ?_, ?_, trivial⟩
        all_goals
          intro ac W hg hk
          have hg' : Below wz.heap.size wz W := hg
          have k2 : W.cell? ⟨b, 2, none⟩ = _ := (hg'.cell (p := ⟨b, 2, none⟩) (by rw [HZS.out]; exact Nat.lt_succ_self _)).trans HZ2.out
          have k3 : W.cell? ⟨b, 3, none⟩ = _ := (hg'.cell (p := ⟨b, 3, none⟩) (by rw [HZS.out]; exact Nat.lt_succ_self _)).trans HZ3.out
          simp only [Gw.Knows, bhG] at hk
          try (cases b1 <;> (simp [go_sem, Gw.OpReq, Gw.Ok, Gw.Post, Gw.Holds, bhG, Gw.Grows.refl, hk, k2, k3, q1, q2]; done))
        cases b1
        · simp [go_sem, Gw.OpReq, Gw.Ok, Gw.Post, Gw.Holds, bhG, Gw.Grows.refl, hk]
          refine (HMANY.out _).mono ?_
          rintro e w' ⟨rfl, rfl⟩
          simp [go_sem, Gw.Grows.refl]
        · simp [go_sem, Gw.OpReq, Gw.Post, Gw.Holds, bhG, hk]
      case hend =>
        intro x wq hg hx
        have h27 : x 27 = .bool (b1 || b2) := (hx 27 (by simp)).now
        simp only [Gw.putAll, Act.put, List.setIfInBounds_toArray, List.set_cons_zero, List.set_cons_succ]
        rw [h27]
        have hq : Below (b + 1) wz wq := Below.mono (show Below wz.heap.size wz wq from hg) (by rw [HZS.out]; exact Nat.le_refl _)
        have HRQ := Lib.hid (HRZ.out.trans (hq.mono (by omega)))
        have HQB := Lib.hid (HZB.out.trans (hq.mono (by omega)))
        have hqs : b + 1 ≤ wq.heap.size := by have := hq.size; rw [HZS.out] at this; exact this
        have HQ2 := Lib.hid ((hq.cell (p := ⟨b, 2, none⟩) (Nat.lt_succ_self _)).trans HZ2.out)
        have HQ3 := Lib.hid ((hq.cell (p := ⟨b, 3, none⟩) (Nat.lt_succ_self _)).trans HZ3.out)
        have HQO := Lib.hid (HZO.out.kept (row := none) ⟨hg.os, hg.tape, hg.output, hg.size, fun j hj _ => hg.block j hj⟩ (by simp))
        clear h27 hx hg hq HZ2 HZ3 HZO HZB
        obtain ⟨bb, hbb⟩ : ∃ bb, (b1 || b2) = bb := ⟨_, rfl⟩
        rw [hbb]
        have HBB := Lib.hid hbb
        clear hbb
        cases bb with
        | true =>
          go_wp2
          go_ret
          refine ⟨false, rfl, ⟨fun h => (by cases h), fun h => ?_⟩, HQB.out⟩
          obtain ⟨p1, p2, -⟩ := h.1 f (List.mem_of_getElem? HFK.out)
          have e := HBB.out
          rw [← HB1.out, ← HB2.out, HSZ.out, HMZ.out, p2, HBL.out] at e
          simp at e
          omega
        | false =>
          have hmz : mz = (n2 : Int) ∧ 0 ≤ sz := by
            have e := HBB.out
            rw [← HB1.out, ← HB2.out] at e
            simp at e
            omega
          have HOKF := Lib.hid hmz
          have htn := HTN.out
          clear hmz HBB HB1 HB2
          have r3 := HQ3.out
          go_wp2
          go_loopw [31] (fun i wr' => ∃ j : Nat, j ≤ n2 ∧ i = .int .i64 (j : Int) ∧ Hid (∀ z ∈ f.blocks.take j, 32 ≤ z ∧ z < 65536) ∧ Hid (wr'.ownsMap Try.prog 3 ue w.heap.size (t + j) (setOf uu (keysOf .i64 (allBlocks (l.take k) ++ f.blocks.take j)))) ∧ Hid (wq.grownBy wr' (some w.heap.size)) ∧ b + 1 ≤ wr'.heap.size) (fun i _ => n2 - (intOf i).toNat)
          case atStart => exact ⟨0, Nat.zero_le _, rfl, Lib.hid (fun z hz => by simp at hz), Lib.hid (by simpa using HQO.out), Lib.hid (World.grownBy.refl _ _), hqs⟩
          case round =>
            obtain ⟨j, hj, rfl, HR, HO, HG, hrs⟩ := hrel
            have HBR := Lib.hid (HQB.out.grown HG.out HQB.out.size (fun q hq => by cases hq; exact Nat.le_refl _))
            have HWB := Lib.hid ((HRQ.out.grown HG.out HQB.out.size (fun q hq => by cases hq; exact Nat.le_refl _)))
            by_cases hjl : j < n2
            · obtain ⟨z, hz⟩ : ∃ z, f.blocks[j]? = some z := ⟨_, List.getElem?_eq_getElem (by rw [HBL.out]; exact hjl)⟩
              obtain ⟨a2, rfl, hab2, hcz⟩ := (HBC.out.below HWB.out).int hz
              have HZ := Lib.hid hz
              clear hz
              by_cases h1 : z < 32
              · have d1 : decide (z < 32) = true := by simp; omega
                go_wp2
                go_ret
                refine ⟨false, rfl, ⟨fun h => (by cases h), fun h => ?_⟩, HBR.out⟩
                have := (h.1 f (List.mem_of_getElem? HFK.out)).2.2 z (List.mem_of_getElem? HZ.out)
                omega
              · have d1 : decide (z < 32) = false := by simp; omega
                by_cases h2 : 65536 ≤ z
                · have d2 : decide (65536 ≤ z) = true := by simp; omega
                  go_wp2
                  go_ret
                  refine ⟨false, rfl, ⟨fun h => (by cases h), fun h => ?_⟩, HBR.out⟩
                  have := (h.1 f (List.mem_of_getElem? HFK.out)).2.2 z (List.mem_of_getElem? HZ.out)
                  omega
                · have d2 : decide (65536 ≤ z) = false := by simp; omega
                  have hkey := Lib.hid (keyOf_int_mk (P := Try.prog) Try.underlying3 (wf_i64 (i := z) (by omega) (by omega)))
                  have HRX := Lib.hid (show ∀ y ∈ f.blocks.take (j + 1), 32 ≤ y ∧ y < 65536 from by
                    rw [take_snoc HZ.out]
                    intro y hy
                    rcases List.mem_append.1 hy with hy | hy
                    · exact HR.out y hy
                    · simp at hy; subst hy; omega)
                  have HKX := Lib.hid (show keysOf .i64 (allBlocks (l.take k) ++ f.blocks.take (j + 1)) = keysOf .i64 (allBlocks (l.take k) ++ f.blocks.take j) ++ [Lit.int .i64 z] from by
                    rw [take_snoc HZ.out, ← List.append_assoc, keysOf_snoc])
                  go_wp2_with (at_mapUpdate; refine wpList_mapUpdate_own _ rfl _ _ _ 131 rfl 3 130 law_int Try.underlying131 ue w.heap.size (t + j) _ rfl HO.out (by unfold maxLen; omega) _ _ _ rfl rfl hkey.out _ [] unitElem_mk ?_; intro w1 hown1 hgrow1; have HO1 := Lib.hid hown1; have HG1 := Lib.hid hgrow1; clear hown1 hgrow1)
                  go_roundw
                  case rel =>
                    refine ⟨j + 1, by omega, by go_num, HRX, Lib.hid ?_, Lib.hid (HG.out.trans HG1.out), Nat.le_trans hrs HG1.out.size⟩
                    rw [HKX.out, setOf_snoc]
                    exact HO1.out
                  case measure => simp [intOf]; omega
            · have hjn : j = n2 := by omega
              subst hjn
              have e : f.blocks.take j = f.blocks := by rw [← HBL.out, List.take_length]
              have hr3 := (World.cell?_of_block (a := ⟨b, 3, none⟩) (HG.out.block b (by omega) (fun h => by injection h; omega))).trans HQ3.out
              have HOX := Lib.hid (show ∀ g ∈ l.take (k + 1), BlkOk g from by
                rw [take_snoc HFK.out]
                intro g hg
                rcases List.mem_append.1 hg with hg | hg
                · exact HOK.out g hg
                · simp at hg; subst hg
                  have h1 := HOKF.out
                  have h2 := HR.out
                  rw [e] at h2
                  exact ⟨by rw [← HSZ.out]; exact h1.2, by rw [← HMZ.out, h1.1, HBL.out], h2⟩)
              have HTX := Lib.hid (show t + j = countOf (l.take (k + 1)) from by rw [countOf_next HFK.out, HT.out, HBL.out])
              have HMX := HO
              rw [e, ← allBlocks_snoc, ← take_snoc HFK.out] at HMX
              clear e HO HR
              obtain ⟨t', ht'⟩ : ∃ t', t' = t + j := ⟨_, rfl⟩
              have hts : (t : Int) + (j : Int) = (t' : Int) := by omega
              rw [← ht'] at HTX HMX htn
              clear ht'
              go_wp2
              go_roundw
              case rel => exact ⟨k + 1, t', by omega, by go_num, by go_num, by omega, HTX, HOX, HMX, HBR, by omega⟩
              case measure => simp [intOf]; omega
    · have hkn : k = n := by omega
      subst hkn
      have e : l.take k = l := by rw [← HL.out, List.take_length]
      have hlen := size_keys uu .i64 (allBlocks l)
      obtain ⟨z, hz⟩ : ∃ z, z = Maps.size (setOf uu (keysOf .i64 (allBlocks (l.take k)))) := ⟨_, rfl⟩
      have HZ := Lib.hid hz
      rw [e] at hz
      rw [← hz] at hlen
      have HTE := HT
      rw [e] at HTE
      have hlen2 : (allBlocks l).length = t := HTE.out.symm
      rw [hlen2] at hlen
      have HLEN := Lib.hid hlen
      have HOKX := HOK
      rw [e] at HOKX
      clear hz hlen hlen2 e HTE
      go_wp2_with (at_len; refine wpList_len_own _ rfl _ 131 rfl 3 130 Try.underlying131 ue w.heap.size t _ rfl HOWN.out ?_; rw [← HZ.out])
      go_ret
      refine ⟨(z : Int) == (t : Int), rfl, ?_, HB.out⟩
      rw [beq_iff_eq]
      exact ⟨fun h => ⟨HOKX.out, HLEN.out.1 (by omega)⟩, fun h => by have := HLEN.out.2 h.2; omega⟩
end Go.Proofs.Ytgnghalcihoaaaa
