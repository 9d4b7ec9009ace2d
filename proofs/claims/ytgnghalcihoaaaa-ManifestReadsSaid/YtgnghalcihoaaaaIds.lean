/- Whether the files' ids fit. -/
import Derived.Test.YtgnghalcihoaaaaNames
import Derived.Carry
namespace Go.Proofs.Ytgnghalcihoaaaa
open Go.RowKit Me Mf Go.Maps

theorem wf_u32 {i : Nat} (h : i < 4294967296) : (Lit.int IntKind.u32 (i : Int)).wf = true := by
  simp [Lit.wf, IntKind.min, IntKind.max, IntKind.bits, IntKind.signed]; omega
/-- The ids of files, as keys. -/
def idsOf (l : List FileD) : List Int := l.map fun f => (f.id : Int)
theorem ids_nodup (l : List FileD) : (idsOf l).Nodup ↔ (l.map (·.id)).Nodup := by
  have e : idsOf l = (l.map (·.id)).map (fun i : Nat => (i : Int)) := by simp [idsOf]
  rw [e]
  refine ⟨fun h => ?_, fun h => ?_⟩
  · exact List.Pairwise.of_map _ (fun a b hab e => hab (by rw [e])) h
  · exact h.map _ fun a b hab e => hab (by omega)
set_option maxRecDepth 100000 in
set_option maxHeartbeats 1000000 in
theorem ids_any (v x : Nat) (A : Option Addr) (n c : Nat) (m : ManD) (w : World) (hx : m.next = x) (hn : n ≤ 1073741824) (h : ManAt w w.heap.size A n c m) :
    Calls Try.prog 57 #[mval v x A n c] w (Bp w (IdsOk m.next m.files)) := by
  have hmm := @run_makeMap Try.prog
  obtain ⟨HF, HL, -, -, HWF⟩ := h
  have HF := Lib.hid HF
  have HL := Lib.hid HL
  have HX := Lib.hid hx
  have HWF := Lib.hid HWF
  clear hx
  obtain ⟨wb, hwb⟩ : ∃ wb, wb = w.alloc (.cells #[.int .u64 (v : Int), .int .u32 (x : Int), .slice A n c] 28) := ⟨_, rfl⟩
  have HWB := Lib.hid hwb
  have hb0 : Below w.heap.size w wb := by rw [hwb]; exact (Below.refl _ _).alloc (Nat.le_refl _) _
  have hbs : wb.heap.size = w.heap.size + 1 := by rw [hwb]; simp
  have HB0 := Lib.hid hb0
  have HBS := Lib.hid hbs
  have hq1 : wb.cell? ⟨w.heap.size, 1, none⟩ = some (.int .u32 (x : Int)) := by rw [hwb]; simp only [World.cell?, heap_alloc_new]; rfl
  have hq2 : wb.cell? ⟨w.heap.size, 2, none⟩ = some (.slice A n c) := by rw [hwb]; simp only [World.cell?, heap_alloc_new]; rfl
  have HQ1 := Lib.hid hq1
  have HQ2 := Lib.hid hq2
  clear hwb hb0 hbs hq1 hq2
  go_enter Try.func57, Try.ntmps57
  go_wp2
  go_loopw [10] (fun i wr => ∃ k : Nat, k ≤ n ∧ i = .int .i64 (k : Int) ∧ Hid (∀ f ∈ m.files.take k, f.id < m.next) ∧ Hid (wr.ownsMap Try.prog 25 ue (w.heap.size + 1) k (setOf uu (keysOf .u32 (idsOf (m.files.take k))))) ∧ Hid (Below (w.heap.size + 1) wb wr)) (fun i _ => n - (intOf i).toNat)
  case atStart => exact ⟨0, Nat.zero_le _, rfl, Lib.hid (fun f h => by simp at h), Lib.hid (by
      have := World.ownsMap_made (H := Unit) wb Try.prog 25 ue
      rw [HBS.out, HWB.out] at this
      exact this), Lib.hid (by
      have := (Below.refl (w.heap.size + 1) wb).alloc (by rw [HBS.out]; exact Nat.le_refl _) (.map #[] 0)
      rw [HWB.out] at this ⊢
      exact this)⟩
  case round =>
    obtain ⟨k, hk, rfl, HID, HOWN, HB⟩ := hrel
    have hsz := HB.out.size
    rw [HBS.out] at hsz
    have hws : w.heap.size < wr.heap.size := by omega
    have r1 := (HB.out.cell (p := ⟨w.heap.size, 1, none⟩) (Nat.lt_succ_self _)).trans HQ1.out
    have r2 := (HB.out.cell (p := ⟨w.heap.size, 2, none⟩) (Nat.lt_succ_self _)).trans HQ2.out
    have HBW := Lib.hid (HB0.out.trans (HB.out.mono (Nat.le_succ _)))
    by_cases hlt : k < n
    · obtain ⟨a, f, rfl, hab, hf, A2, n2, c2, g0, g1, g2, g3, -⟩ := (HF.out.below HBW.out).at (by rw [HL.out]; exact hlt)
      have HFK := Lib.hid hf
      have hfw := HWF.out.files f (List.mem_of_getElem? hf)
      obtain ⟨nm, hnm⟩ : ∃ nm, nm = f.name := ⟨_, rfl⟩
      obtain ⟨id, hid⟩ : ∃ id : Nat, id = f.id := ⟨_, rfl⟩
      obtain ⟨sz, hsz'⟩ : ∃ sz, sz = f.size := ⟨_, rfl⟩
      rw [← hnm] at g0
      rw [← hid] at g1
      rw [← hsz'] at g2
      have hid32 : id < 4294967296 := by rw [hid]; exact hfw.id
      have HI := Lib.hid hid
      have hkey := Lib.hid (keyOf_int_mk (P := Try.prog) Try.underlying25 (wf_u32 hid32))
      clear hnm hid hsz' hf hfw
      by_cases hlx : id < x
      · have d1 : decide ((x : Int) ≤ (id : Int)) = false := by simp; omega
        have d2 : decide (x ≤ id) = false := by simp; omega
        have HIDX := Lib.hid (show ∀ f ∈ m.files.take (k + 1), f.id < m.next from by
          rw [take_snoc HFK.out]
          intro g hg
          rcases List.mem_append.1 hg with hg | hg
          · exact HID.out g hg
          · simp at hg; subst hg; rw [HX.out, ← HI.out]; exact hlx)
        have HKX := Lib.hid (show keysOf .u32 (idsOf (m.files.take (k + 1))) = keysOf .u32 (idsOf (m.files.take k)) ++ [Lit.int .u32 (id : Int)] from by
          rw [take_snoc HFK.out, ← keysOf_snoc]
          congr 1
          simp [idsOf, HI.out])
        go_wp2_with (at_mapUpdate; refine wpList_mapUpdate_own _ rfl _ _ _ 129 rfl 25 130 law_u32 Try.underlying129 ue (w.heap.size + 1) k _ rfl (HOWN.out.alloc _) (by unfold maxLen; omega) _ _ _ rfl rfl hkey.out _ [] unitElem_mk ?_; intro w1 hown1 hgrow1; have HO1 := Lib.hid hown1; have HG1 := Lib.hid hgrow1; clear hown1 hgrow1)
        go_roundw
        case rel =>
          refine ⟨k + 1, by omega, by go_num, HIDX, Lib.hid ?_, Lib.hid ((HB.out.alloc hsz _).grown HG1.out (by simp; omega) (fun j hj => by cases hj; exact Nat.le_refl _))⟩
          rw [HKX.out, setOf_snoc]
          exact HO1.out
        case measure => simp [intOf]; omega
      · have d1 : decide ((x : Int) ≤ (id : Int)) = true := by simp; omega
        have d2 : decide (x ≤ id) = true := by simp; omega
        go_wp2
        go_ret
        refine ⟨false, rfl, ⟨fun h => (by cases h), fun h => ?_⟩, HBW.out.alloc HBW.out.size _⟩
        have := h.1 f (List.mem_of_getElem? HFK.out)
        rw [HX.out, ← HI.out] at this
        omega
    · have hkn : k = n := by omega
      subst hkn
      have e : m.files.take k = m.files := by rw [← HL.out, List.take_length]
      have hlen := size_keys uu .u32 (idsOf m.files)
      rw [ids_nodup] at hlen
      have hil : (idsOf m.files).length = k := by simp [idsOf, HL.out]
      rw [hil] at hlen
      obtain ⟨z, hz⟩ : ∃ z, z = Maps.size (setOf uu (keysOf .u32 (idsOf (m.files.take k)))) := ⟨_, rfl⟩
      have HZ := Lib.hid hz
      rw [e] at hz
      rw [← hz] at hlen
      have HLEN := Lib.hid hlen
      have HID' := HID.out
      rw [e] at HID'
      have HIX := Lib.hid HID'
      clear hz hlen HID' hil e
      go_wp2_with (at_len; refine wpList_len_own _ rfl _ 129 rfl 25 130 Try.underlying129 ue (w.heap.size + 1) k _ rfl HOWN.out ?_; rw [← HZ.out])
      go_ret
      refine ⟨(z : Int) == (k : Int), rfl, ?_, HBW.out⟩
      rw [beq_iff_eq]
      exact ⟨fun h => ⟨HIX.out, HLEN.out.1 (by omega)⟩, fun h => by have := HLEN.out.2 h.2; omega⟩
end Go.Proofs.Ytgnghalcihoaaaa
