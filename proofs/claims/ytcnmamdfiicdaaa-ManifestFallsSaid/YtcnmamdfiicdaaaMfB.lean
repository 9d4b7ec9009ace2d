/- Texts put together: Enc, Names, Ids, Blks, Body. -/
import Derived.Test.YtcnmamdfiicdaaaMfA
import Derived.Test.YtcnmamdfiicdaaaVari
import Derived.Maps.OwnSet
import Derived.Lib.Strings
import Derived.Carry
import Derived.Test.YtcnmamdfiicdaaaGen
import Derived.Lib.AppendStr
import Derived.Deep.DeepCutAuto
import Derived.Deep.CutBlock
/-! Numbers encoded one behind the other. -/
namespace Go.Proofs.Ytcnmamdfiicdaaa
open Go.RowKit Me Mf Va

/-- The cells of numbers of 64 bits. -/
def ucells (l : List Nat) : List Value := l.map fun x : Nat => Value.int .u64 (x : Int)
theorem ucells_length (l : List Nat) : (ucells l).length = l.length := by simp [ucells]
set_option maxRecDepth 100000 in
set_option maxHeartbeats 400000 in
theorem encoded_any (A : Option Addr) (n c : Nat) (ns : List Nat) (w : World) (B : Nat) (hl : ns.length = n) (hn : n ≤ 1000) (h64 : ∀ x ∈ ns, x < 18446744073709551616) (hr : Cs w B A (ucells ns)) (hB : B ≤ w.heap.size) :
    Calls Try.prog 84 #[.slice A n c] w (News w (encNs ns)) := by
  have HL := Lib.hid hl
  have H64 := Lib.hid h64
  have HR := Lib.hid (hr.more hB)
  clear hl h64 hr
  go_enter Try.func84, Try.ntmps84
  go_wp2
  go_loopw [3, 8] (fun v i wr => ∃ k t : Nat, k ≤ n ∧ i = .int .i64 (k : Int) ∧ t ≤ 10000 ∧ Hid (t = (encNs (ns.take k)).length) ∧ Hid (wr.ownsRow w.heap.size 5 1 v t (cellsOf (encNs (ns.take k)))) ∧ Hid (Below w.heap.size w wr)) (fun _ i _ => n - (intOf i).toNat)
  case atStart => exact ⟨0, 0, Nat.zero_le _, rfl, by omega, Lib.hid rfl, Lib.hid (World.ownsRow_nil _ _ _ _), Lib.hid (Below.refl _ _)⟩
  case round =>
    obtain ⟨k, t, hk, rfl, ht, HT, HO, HB⟩ := hrel
    by_cases hlt : k < n
    · obtain ⟨x, hx⟩ : ∃ x, ns[k]? = some x := ⟨_, List.getElem?_eq_getElem (by rw [HL.out]; exact hlt)⟩
      obtain ⟨a, rfl, hab, hc⟩ := (HR.out.below HB.out) (by rw [ucells_length, HL.out]; omega)
      have hcx := hc k (.int .u64 (x : Int)) (by simp [ucells, hx])
      have hx64 := H64.out x (List.mem_of_getElem? hx)
      have HX := Lib.hid hx
      clear hc hx
      have HTX := Lib.hid (show (encNs (ns.take (k + 1))).length ≤ 10000 from by
        have := encNs_ten (ns.take (k + 1)) (fun y hy => H64.out y (List.mem_of_mem_take hy))
        rw [List.length_take] at this
        omega)
      obtain ⟨V, cv, rfl⟩ := own_slice HO.out
      have HRD := Lib.hid (Rd.of_own HO.out)
      go_wp2_with fail
      refine (put_any V t cv x _ wr HT.out.symm (by omega) HRD.out hx64).mono ?_
      rintro e w1 ⟨v1, t1, rfl, ho1, hb1⟩
      have hlen1 := ho1.1
      rw [cellsOf_length, Nat.mul_one] at hlen1
      have HB1 := Lib.hid (HB.out.trans (hb1.mono HB.out.size))
      have HE := Lib.hid (encNs_take HX.out)
      have HO1 := Lib.hid (own_more ho1 HB.out.size)
      rw [← HE.out] at HO1 hlen1
      have ht1 : t1 ≤ 10000 := by have := HTX.out; omega
      have HT1 := Lib.hid hlen1.symm
      clear ho1 hb1 hlen1
      go_wp2
      go_roundw
      case rel => exact ⟨k + 1, t1, by omega, by go_num, ht1, HT1, HO1, HB1⟩
      case measure => simp [intOf]; omega
    · have hkn : k = n := by omega
      subst hkn
      have e : ns.take k = ns := by rw [← HL.out, List.take_length]
      have HO' := HO
      rw [e] at HO'
      clear HO HT
      go_wp2
      go_ret
      exact ⟨_, _, rfl, HO'.out, HB.out⟩
theorem own_not_box {w : World} {base size n b : Nat} {e t : TypeId} {v : Value} {xs : List Value} {cs : Array Value} (h : w.ownsRow base e size v n xs) (hb : w.heap[b]? = some (.cells cs t)) (hne : e ≠ t) : v.ownBlock ≠ some b := by
  rcases h.2 with ⟨rfl, -⟩ | ⟨g, cap, cur, rfl, -, hg, -⟩
  · simp [Value.ownBlock]
  · intro e'
    simp [Value.ownBlock] at e'
    subst e'
    rw [hg] at hb
    injection hb with hb
    injection hb with _ hb
    exact hne hb
end Go.Proofs.Ytcnmamdfiicdaaa

/-! Whether the files' names, their ids, their blocks fit. -/
namespace Go.Proofs.Ytcnmamdfiicdaaa
open Go.RowKit Me Mf Go.Maps

/-- A bool is answered that tells whether. -/
def Bp (w : World) (P : Prop) (e : Ending) (w' : World) : Prop := ∃ b : Bool, e = .returned (.bool b) ∧ (b = true ↔ P) ∧ Below w.heap.size w w'
set_option maxRecDepth 100000 in
set_option maxHeartbeats 1000000 in
theorem names_any (A : Option Addr) (n c : Nat) (l : List FileD) (w : World) (hl : l.length = n) (hn : n ≤ 9223372036854775807) (h : Files w w.heap.size A l) :
    Calls Try.prog 56 #[.slice A n c] w (Bp w (NamesOk l)) := by
  have HL := Lib.hid hl
  have HF := Lib.hid h
  clear hl h
  go_enter Try.func56, Try.ntmps56
  go_wp2
  go_loopw [3, 8] (fun s i wr => ∃ (k : Nat) (last : List UInt8), k ≤ n ∧ i = .int .i64 (k : Int) ∧ s = sv last ∧ Hid (last = lastName (l.take k)) ∧ Hid (NamesOk (l.take k)) ∧ Hid (Below w.heap.size w wr)) (fun _ i _ => n - (intOf i).toNat)
  case atStart => exact ⟨0, [], Nat.zero_le _, rfl, rfl, Lib.hid rfl, Lib.hid (good_nil 0).1, Lib.hid (Below.refl _ _)⟩
  case round =>
    obtain ⟨k, last, hk, rfl, rfl, HLA, HN, HB⟩ := hrel
    by_cases hlt : k < n
    · obtain ⟨a, f, rfl, hab, hf, A2, n2, c2, g0, g1, g2, g3, -⟩ := (HF.out.below HB.out).at (by rw [HL.out]; exact hlt)
      have HFK := Lib.hid hf
      obtain ⟨nm, hnm⟩ : ∃ nm, nm = f.name := ⟨_, rfl⟩
      obtain ⟨id, hid⟩ : ∃ id : Int, id = (f.id : Int) := ⟨_, rfl⟩
      obtain ⟨sz, hsz⟩ : ∃ sz, sz = f.size := ⟨_, rfl⟩
      rw [← hnm] at g0
      rw [← hid] at g1
      rw [← hsz] at g2
      have HNM := Lib.hid hnm
      clear hnm hid hsz hf
      obtain ⟨b1, hb1⟩ : ∃ b1, (!less last nm) = b1 := ⟨_, rfl⟩
      have hle : (Op.bytesLess nm last || nm == last) = b1 := (leq_eq nm last).trans hb1
      have HB1 := Lib.hid hb1
      clear hb1
      have hstep := names_snoc (f := f) HN.out
      rw [← take_snoc HFK.out, ← HLA.out, ← HNM.out] at hstep
      have HST := Lib.hid hstep
      clear hstep
      cases b1 with
      | true =>
        go_wp2
        go_ret
        refine ⟨false, rfl, ⟨fun h => (by cases h), fun h => ?_⟩, HB.out.alloc HB.out.size _⟩
        have := (HST.out.1 (h.take (k + 1))).1
        rw [this] at HB1
        exact absurd HB1.out (by simp)
      | false =>
        obtain ⟨m, hm⟩ : ∃ m, m = nm.length := ⟨_, rfl⟩
        have hsz : (ByteArray.mk nm.toArray).size = m := by rw [hm]; exact List.size_toArray ..
        have HM := Lib.hid hm
        clear hm
        by_cases hm : 32 < m
        · have d1 : decide ((32 : Int) < (m : Int)) = true := by simp; omega
          go_wp2
          go_ret
          refine ⟨false, rfl, ⟨fun h => (by cases h), fun h => ?_⟩, HB.out.alloc HB.out.size _⟩
          have := (HST.out.1 (h.take (k + 1))).2
          rw [← HM.out] at this
          omega
        · have d1 : decide ((32 : Int) < (m : Int)) = false := by simp; omega
          have HNX := Lib.hid (HST.out.2 ⟨by have := HB1.out; simpa using this, by rw [← HM.out]; omega⟩)
          have HLX := Lib.hid (show nm = lastName (l.take (k + 1)) by rw [take_snoc HFK.out, lastName_snoc]; exact HNM.out)
          go_wp2
          go_roundw
          case rel => exact ⟨k + 1, nm, by omega, by go_num, rfl, HLX, HNX, Lib.hid (HB.out.alloc HB.out.size _)⟩
          case measure => simp [intOf]; omega
    · have hkn : k = n := by omega
      go_wp2
      go_ret
      refine ⟨true, rfl, ⟨fun _ => ?_, fun _ => rfl⟩, HB.out⟩
      have := HN.out
      rwa [hkn, ← HL.out, List.take_length] at this
/-- Numbers as keys. -/
def keysOf (q : IntKind) (l : List Int) : List Lit := l.map (Lit.int q)
theorem keysOf_snoc (q : IntKind) (l : List Int) (x : Int) : keysOf q (l ++ [x]) = keysOf q l ++ [Lit.int q x] := by simp [keysOf]
theorem keys_lit (q : IntKind) (l : List Int) : ∀ x ∈ keysOf q l, WideAt.IsKeyLit x := by
  intro x hx
  obtain ⟨_, _, rfl⟩ := List.mem_map.1 hx
  trivial
theorem any_key (q : IntKind) (x : Int) : ∀ l : List Int, (keysOf q l).any (fun y => y.sameKey (.int q x)) = decide (x ∈ l)
  | [] => rfl
  | a :: r => by
    have ih := any_key q x r
    unfold keysOf at ih ⊢
    rw [List.map_cons, List.any_cons, ih]
    show (decide (q = q ∧ a = x) || decide (x ∈ r)) = decide (x ∈ a :: r)
    by_cases e : a = x
    · subst e; simp
    · have e' : ¬ x = a := fun h => e h.symm
      simp [e, e']
theorem add_keys (q : IntKind) : ∀ (l acc : List Int), acc.Nodup → ((keysOf q l).foldl addKey (keysOf q acc)).length ≤ acc.length + l.length ∧ (((keysOf q l).foldl addKey (keysOf q acc)).length = acc.length + l.length ↔ (acc ++ l).Nodup)
  | [], acc, h => by simp [keysOf, h]
  | x :: r, acc, h => by
    have e : keysOf q (x :: r) = Lit.int q x :: keysOf q r := rfl
    rw [e, List.foldl_cons, addKey, any_key]
    by_cases hx : x ∈ acc
    · have := (add_keys q r acc h).1
      simp only [hx, decide_true, if_true, List.length_cons]
      refine ⟨by omega, ⟨fun k => by omega, fun k => ?_⟩⟩
      rw [List.nodup_append] at k
      exact absurd rfl (k.2.2 x hx x (by simp))
    · have h' : (acc ++ [x]).Nodup := nodup_snoc.2 ⟨h, hx⟩
      have := add_keys q r (acc ++ [x]) h'
      rw [keysOf_snoc] at this
      simp only [hx, decide_false, Bool.false_eq_true, if_false, List.length_cons]
      simp only [List.length_append, List.length_cons, List.length_nil, List.append_assoc, List.cons_append, List.nil_append] at this
      exact ⟨by omega, by rw [← this.2]; omega⟩
theorem size_keys {H : Type} (u : DataW H) (q : IntKind) (l : List Int) : Maps.size (setOf u (keysOf q l)) = l.length ↔ l.Nodup := by
  rw [size_setOf _ _ (keys_lit q l)]
  have := (add_keys q l [] (by simp)).2
  simpa [keysOf] using this
theorem size_keys_le {H : Type} (u : DataW H) (q : IntKind) (l : List Int) : Maps.size (setOf u (keysOf q l)) ≤ l.length := by
  rw [size_setOf _ _ (keys_lit q l)]
  have := (add_keys q l [] (by simp)).1
  simpa [keysOf] using this
theorem law_u32 : Keyed Try.prog 25 := int_keyed Try.underlying25
theorem law_int : Keyed Try.prog 3 := int_keyed Try.underlying3
abbrev uu : DataW Unit := .agg []
abbrev ue : Value → Option (DataW Unit × List MemPlace) := unitElem
end Go.Proofs.Ytcnmamdfiicdaaa

/-! Whether the files' ids fit. -/
namespace Go.Proofs.Ytcnmamdfiicdaaa
open Go.RowKit Me Mf Go.Maps

theorem wf_u32 {i : Nat} (h : i < 4294967296) : (Lit.int IntKind.u32 (i : Int)).wf = true := by
  simp [Lit.wf, IntKind.min, IntKind.max, IntKind.bits, IntKind.signed]; omega
/-- The ids of files, as keys. -/
def idsOf (l : List FileD) : List Int := l.map fun f => (f.id : Int)
theorem ids_nodup (l : List FileD) : (idsOf l).Nodup ↔ (l.map (·.id)).Nodup := by
  have e : idsOf l = (l.map (·.id)).map (fun i : Nat => (i : Int)) := by simp [idsOf]
  rw [e]
  refine ⟨fun h => ?_, fun h => ?_⟩
  · exact List.Pairwise.of_map _ (fun a b hab e => hab (by rw [e])) h
  · exact h.map _ fun a b hab e => hab (by omega)
set_option maxRecDepth 100000 in
set_option maxHeartbeats 1000000 in
theorem ids_any (v x : Nat) (A : Option Addr) (n c : Nat) (m : ManD) (w : World) (hx : m.next = x) (hn : n ≤ 1073741824) (h : ManAt w w.heap.size A n c m) :
    Calls Try.prog 57 #[mval v x A n c] w (Bp w (IdsOk m.next m.files)) := by
  have hmm := @run_makeMap Try.prog
  obtain ⟨HF, HL, -, -, HWF⟩ := h
  have HF := Lib.hid HF
  have HL := Lib.hid HL
  have HX := Lib.hid hx
  have HWF := Lib.hid HWF
  clear hx
  obtain ⟨wb, hwb⟩ : ∃ wb, wb = w.alloc (.cells #[.int .u64 (v : Int), .int .u32 (x : Int), .slice A n c] 28) := ⟨_, rfl⟩
  have HWB := Lib.hid hwb
  have hb0 : Below w.heap.size w wb := by rw [hwb]; exact (Below.refl _ _).alloc (Nat.le_refl _) _
  have hbs : wb.heap.size = w.heap.size + 1 := by rw [hwb]; simp
  have HB0 := Lib.hid hb0
  have HBS := Lib.hid hbs
  have hq1 : wb.cell? ⟨w.heap.size, 1, none⟩ = some (.int .u32 (x : Int)) := by rw [hwb]; simp only [World.cell?, heap_alloc_new]; rfl
  have hq2 : wb.cell? ⟨w.heap.size, 2, none⟩ = some (.slice A n c) := by rw [hwb]; simp only [World.cell?, heap_alloc_new]; rfl
  have HQ1 := Lib.hid hq1
  have HQ2 := Lib.hid hq2
  clear hwb hb0 hbs hq1 hq2
  go_enter Try.func57, Try.ntmps57
  go_wp2
  go_loopw [10] (fun i wr => ∃ k : Nat, k ≤ n ∧ i = .int .i64 (k : Int) ∧ Hid (∀ f ∈ m.files.take k, f.id < m.next) ∧ Hid (wr.ownsMap Try.prog 25 ue (w.heap.size + 1) k (setOf uu (keysOf .u32 (idsOf (m.files.take k))))) ∧ Hid (Below (w.heap.size + 1) wb wr)) (fun i _ => n - (intOf i).toNat)
  case atStart => exact ⟨0, Nat.zero_le _, rfl, Lib.hid (fun f h => by simp at h), Lib.hid (by
      have := World.ownsMap_made (H := Unit) wb Try.prog 25 ue
      rw [HBS.out, HWB.out] at this
      exact this), Lib.hid (by
      have := (Below.refl (w.heap.size + 1) wb).alloc (by rw [HBS.out]; exact Nat.le_refl _) (.map #[] 0)
      rw [HWB.out] at this ⊢
      exact this)⟩
  case round =>
    obtain ⟨k, hk, rfl, HID, HOWN, HB⟩ := hrel
    have hsz := HB.out.size
    rw [HBS.out] at hsz
    have hws : w.heap.size < wr.heap.size := by omega
    have r1 := (HB.out.cell (p := ⟨w.heap.size, 1, none⟩) (Nat.lt_succ_self _)).trans HQ1.out
    have r2 := (HB.out.cell (p := ⟨w.heap.size, 2, none⟩) (Nat.lt_succ_self _)).trans HQ2.out
    have HBW := Lib.hid (HB0.out.trans (HB.out.mono (Nat.le_succ _)))
    by_cases hlt : k < n
    · obtain ⟨a, f, rfl, hab, hf, A2, n2, c2, g0, g1, g2, g3, -⟩ := (HF.out.below HBW.out).at (by rw [HL.out]; exact hlt)
      have HFK := Lib.hid hf
      have hfw := HWF.out.files f (List.mem_of_getElem? hf)
      obtain ⟨nm, hnm⟩ : ∃ nm, nm = f.name := ⟨_, rfl⟩
      obtain ⟨id, hid⟩ : ∃ id : Nat, id = f.id := ⟨_, rfl⟩
      obtain ⟨sz, hsz'⟩ : ∃ sz, sz = f.size := ⟨_, rfl⟩
      rw [← hnm] at g0
      rw [← hid] at g1
      rw [← hsz'] at g2
      have hid32 : id < 4294967296 := by rw [hid]; exact hfw.id
      have HI := Lib.hid hid
      have hkey := Lib.hid (keyOf_int_mk (P := Try.prog) Try.underlying25 (wf_u32 hid32))
      clear hnm hid hsz' hf hfw
      by_cases hlx : id < x
      · have d1 : decide ((x : Int) ≤ (id : Int)) = false := by simp; omega
        have d2 : decide (x ≤ id) = false := by simp; omega
        have HIDX := Lib.hid (show ∀ f ∈ m.files.take (k + 1), f.id < m.next from by
          rw [take_snoc HFK.out]
          intro g hg
          rcases List.mem_append.1 hg with hg | hg
          · exact HID.out g hg
          · simp at hg; subst hg; rw [HX.out, ← HI.out]; exact hlx)
        have HKX := Lib.hid (show keysOf .u32 (idsOf (m.files.take (k + 1))) = keysOf .u32 (idsOf (m.files.take k)) ++ [Lit.int .u32 (id : Int)] from by
          rw [take_snoc HFK.out, ← keysOf_snoc]
          congr 1
          simp [idsOf, HI.out])
        go_wp2_with (at_mapUpdate; refine wpList_mapUpdate_own _ rfl _ _ _ 129 rfl 25 130 law_u32 Try.underlying129 ue (w.heap.size + 1) k _ rfl (HOWN.out.alloc _) (by unfold maxLen; omega) _ _ _ rfl rfl hkey.out _ [] unitElem_mk ?_; intro w1 hown1 hgrow1; have HO1 := Lib.hid hown1; have HG1 := Lib.hid hgrow1; clear hown1 hgrow1)
        go_roundw
        case rel =>
          refine ⟨k + 1, by omega, by go_num, HIDX, Lib.hid ?_, Lib.hid ((HB.out.alloc hsz _).grown HG1.out (by simp; omega) (fun j hj => by cases hj; exact Nat.le_refl _))⟩
          rw [HKX.out, setOf_snoc]
          exact HO1.out
        case measure => simp [intOf]; omega
      · have d1 : decide ((x : Int) ≤ (id : Int)) = true := by simp; omega
        have d2 : decide (x ≤ id) = true := by simp; omega
        go_wp2
        go_ret
        refine ⟨false, rfl, ⟨fun h => (by cases h), fun h => ?_⟩, HBW.out.alloc HBW.out.size _⟩
        have := h.1 f (List.mem_of_getElem? HFK.out)
        rw [HX.out, ← HI.out] at this
        omega
    · have hkn : k = n := by omega
      subst hkn
      have e : m.files.take k = m.files := by rw [← HL.out, List.take_length]
      have hlen := size_keys uu .u32 (idsOf m.files)
      rw [ids_nodup] at hlen
      have hil : (idsOf m.files).length = k := by simp [idsOf, HL.out]
      rw [hil] at hlen
      obtain ⟨z, hz⟩ : ∃ z, z = Maps.size (setOf uu (keysOf .u32 (idsOf (m.files.take k)))) := ⟨_, rfl⟩
      have HZ := Lib.hid hz
      rw [e] at hz
      rw [← hz] at hlen
      have HLEN := Lib.hid hlen
      have HID' := HID.out
      rw [e] at HID'
      have HIX := Lib.hid HID'
      clear hz hlen HID' hil e
      go_wp2_with (at_len; refine wpList_len_own _ rfl _ 129 rfl 25 130 Try.underlying129 ue (w.heap.size + 1) k _ rfl HOWN.out ?_; rw [← HZ.out])
      go_ret
      refine ⟨(z : Int) == (k : Int), rfl, ?_, HBW.out⟩
      rw [beq_iff_eq]
      exact ⟨fun h => ⟨HIX.out, HLEN.out.1 (by omega)⟩, fun h => by have := HLEN.out.2 h.2; omega⟩
end Go.Proofs.Ytcnmamdfiicdaaa

/-! Whether the files' blocks fit. -/
namespace Go.Proofs.Ytcnmamdfiicdaaa
open Go.RowKit Me Mf Go.Maps

theorem wf_i64 {i : Int} (h1 : -9223372036854775808 ≤ i) (h2 : i ≤ 9223372036854775807) : (Lit.int IntKind.i64 i).wf = true := by
  simp [Lit.wf, IntKind.min, IntKind.max, IntKind.bits, IntKind.signed]; omega
theorem Cs.int {w : World} {B : Nat} {A : Option Addr} {l : List Int} (h : Cs w B A (icells l)) {j : Nat} {z : Int} (hz : l[j]? = some z) : ∃ a, A = some a ∧ a.block < B ∧ w.cell? (a.add j) = some (.int .i64 z) := by
  have hj : j < l.length := (List.getElem?_eq_some_iff.1 hz).1
  obtain ⟨a, e, hb, hc⟩ := h (by rw [icells_length]; omega)
  exact ⟨a, e, hb, hc j _ (icells_get hz)⟩
/-- How many blocks. -/
def countOf (l : List FileD) : Nat := (allBlocks l).length
theorem countOf_le (l : List FileD) (k : Nat) : countOf (l.take k) ≤ countOf l := by
  unfold countOf
  have e : allBlocks l = allBlocks (l.take k) ++ allBlocks (l.drop k) := by rw [← allBlocks_append, List.take_append_drop]
  rw [e, List.length_append]; omega
theorem countOf_next {l : List FileD} {k : Nat} {f : FileD} (h : l[k]? = some f) : countOf (l.take (k + 1)) = countOf (l.take k) + f.blocks.length := by
  unfold countOf
  rw [take_snoc h, allBlocks_snoc, List.length_append]
/-- What is known of the slots of the file's test. -/
def bhG (b : Nat) (sz mz : Int) (A2 : Option Addr) (n2 c2 : Nat) (b1 b2 : Bool) : Gw.Fact := fun t v _ =>
  match t with
  | 6 => v = .pointer (some ⟨b, 0, none⟩)
  | 16 => v = .pointer (some ⟨b, 2, none⟩)
  | 17 => v = .int .i64 sz
  | 18 | 19 => v = .bool b1
  | 20 => b1 = false → v = .pointer (some ⟨b, 3, none⟩)
  | 21 => b1 = false → v = .slice A2 n2 c2
  | 22 => b1 = false → v = .int .i64 (n2 : Int)
  | 23 => b1 = false → v = .pointer (some ⟨b, 2, none⟩)
  | 24 => b1 = false → v = .int .i64 sz
  | 25 => b1 = false → v = .int .i64 mz
  | 26 => b1 = false → v = .bool b2
  | 27 => v = .bool (b1 || b2)
  | _ => True
set_option maxRecDepth 100000 in
set_option maxHeartbeats 2000000 in
theorem blks_any (A : Option Addr) (n c : Nat) (l : List FileD) (w : World) (hl : l.length = n) (hn : n ≤ 1073741824) (hcn : countOf l ≤ 1073741824) (hwf : ∀ f ∈ l, WfF f) (h : Files w w.heap.size A l) :
    Calls Try.prog 58 #[.slice A n c] w (Bp w (BlocksOk l)) := by
  have hmm := @run_makeMap Try.prog
  have HF := Lib.hid h
  have HL := Lib.hid hl
  have HWF := Lib.hid hwf
  have HCN := Lib.hid hcn
  clear h hl hwf hcn
  go_enter Try.func58, Try.ntmps58
  go_wp2
  go_loopw [4, 12] (fun cn i wr => ∃ k t : Nat, k ≤ n ∧ i = .int .i64 (k : Int) ∧ cn = .int .i64 (t : Int) ∧ t ≤ 1073741824 ∧ Hid (t = countOf (l.take k)) ∧ Hid (∀ f ∈ l.take k, BlkOk f) ∧ Hid (wr.ownsMap Try.prog 3 ue w.heap.size t (setOf uu (keysOf .i64 (allBlocks (l.take k))))) ∧ Hid (Below w.heap.size w wr) ∧ w.heap.size < wr.heap.size) (fun _ i _ => n - (intOf i).toNat)
  case atStart => exact ⟨0, 0, Nat.zero_le _, rfl, rfl, by omega, Lib.hid rfl, Lib.hid (fun f h => by simp at h), Lib.hid (World.ownsMap_made (H := Unit) w Try.prog 3 ue), Lib.hid ((Below.refl _ w).alloc (Nat.le_refl _) _), by simp⟩
  case round =>
    obtain ⟨k, t, hk, rfl, rfl, ht, HT, HOK, HOWN, HB, hws⟩ := hrel
    by_cases hlt : k < n
    · obtain ⟨a, f, rfl, hab, hf, A2, n2, c2, g0, g1, g2, g3, g4, g5, g6, g7⟩ := (HF.out.below HB.out).at (by rw [HL.out]; exact hlt)
      have HFK := Lib.hid hf
      have hfw := HWF.out f (List.mem_of_getElem? hf)
      obtain ⟨nm, hnm⟩ : ∃ nm, nm = f.name := ⟨_, rfl⟩
      obtain ⟨id, hid⟩ : ∃ id : Nat, id = f.id := ⟨_, rfl⟩
      obtain ⟨sz, hsz'⟩ : ∃ sz, sz = f.size := ⟨_, rfl⟩
      obtain ⟨mz, hmz⟩ : ∃ mz, mz = manyZ f.size := ⟨_, rfl⟩
      have hmany := fun w => many_any f.size w hfw.high
      rw [← hmz, ← hsz'] at hmany
      rw [← hnm] at g0
      rw [← hid] at g1
      rw [← hsz'] at g2
      have HSZ := Lib.hid hsz'
      have HMZ := Lib.hid hmz
      have HMANY := Lib.hid hmany
      have HBL := Lib.hid g4
      have HBC := Lib.hid g7
      have hfw' := Lib.hid hfw
      clear hnm hid hsz' hf hmz hmany g4 g7 hfw
      obtain ⟨b1, hb1⟩ : ∃ b1, decide (sz < 0) = b1 := ⟨_, rfl⟩
      obtain ⟨b2, hb2⟩ : ∃ b2, ((n2 : Int) != mz) = b2 := ⟨_, rfl⟩
      obtain ⟨wz, hwz⟩ : ∃ wz, wz = wr.alloc (.cells #[.string ⟨nm.toArray⟩, .int .u32 (id : Int), .int .i64 sz, .slice A2 n2 c2] 41) := ⟨_, rfl⟩
      have hzs : wz.heap.size = wr.heap.size + 1 := by rw [hwz]; simp
      have HRZ := Lib.hid (show Below w.heap.size wr wz by rw [hwz]; exact (Below.refl _ _).alloc HB.out.size _)
      have HTN := Lib.hid (show t + n2 ≤ 1073741824 from by
        have e1 := countOf_next HFK.out
        have e2 := countOf_le l (k + 1)
        have e3 := HT.out
        have e4 := HCN.out
        have e5 := HBL.out
        omega)
      have hzb : Below w.heap.size w wz := by rw [hwz]; exact HB.out.alloc HB.out.size _
      have hz2 : wz.cell? ⟨wr.heap.size, 2, none⟩ = some (.int .i64 sz) := by rw [hwz]; simp only [World.cell?, heap_alloc_new]; rfl
      have hz3 : wz.cell? ⟨wr.heap.size, 3, none⟩ = some (.slice A2 n2 c2) := by rw [hwz]; simp only [World.cell?, heap_alloc_new]; rfl
      have hzo : wz.ownsMap Try.prog 3 ue w.heap.size t (setOf uu (keysOf .i64 (allBlocks (l.take k)))) := by rw [hwz]; exact HOWN.out.alloc _
      have HZS := Lib.hid hzs
      have HZB := Lib.hid hzb
      have HZ2 := Lib.hid hz2
      have HZ3 := Lib.hid hz3
      have HZO := Lib.hid hzo
      have HB1 := Lib.hid hb1
      have HB2 := Lib.hid hb2
      have HWZ := Lib.hid hwz
      clear hzs hzb hz2 hz3 hzo hb1 hb2 hwz
      go_wp2_with fail
      rw [← HWZ.out]
      clear HWZ
      obtain ⟨b, hb⟩ : ∃ b, b = wr.heap.size := ⟨_, rfl⟩
      have hbw : w.heap.size < b := by rw [hb]; exact hws
      rw [← hb] at HZS HZ2 HZ3 ⊢
      have HBE := Lib.hid hb
      clear hb
      refine Gw.wp_region_grow (bhG b sz mz A2 n2 c2 b1 b2) [16, 17, 18, 19, 20, 21, 22, 23, 24, 25, 26, 27] [([6], none), ([16], none), ([17], none), ([18], none), ([6, 19], some (19, false)), ([20, 19], some (19, false)), ([21, 19], some (19, false)), ([6, 19], some (19, false)), ([23, 19], some (19, false)), ([24, 19], some (19, false)), ([22, 25, 19], some (19, false)), ([19, 26], none)] 55 (by kernel_rfl) (by kernel_rfl) rfl ?h0 ?hreq ?hend
      case h0 =>
        intro t W hnd _
        unfold bhG
        split <;> first | rfl | trivial | exact absurd (by simp) hnd
      case hreq =>
        have q1 := HB1.out
        have q2 := HB2.out
        refine ⟨?_, ?_, ?_, ?_, ?_, ?_, ?_, ?_, ?_, ?_, ?_, ?_, trivial⟩
        all_goals
          intro ac W hg hk
          have hg' : Below wz.heap.size wz W := hg
          have k2 : W.cell? ⟨b, 2, none⟩ = _ := (hg'.cell (p := ⟨b, 2, none⟩) (by rw [HZS.out]; exact Nat.lt_succ_self _)).trans HZ2.out
          have k3 : W.cell? ⟨b, 3, none⟩ = _ := (hg'.cell (p := ⟨b, 3, none⟩) (by rw [HZS.out]; exact Nat.lt_succ_self _)).trans HZ3.out
          simp only [Gw.Knows, bhG] at hk
          try (cases b1 <;> (simp [go_sem, Gw.OpReq, Gw.Ok, Gw.Post, Gw.Holds, bhG, Gw.Grows.refl, hk, k2, k3, q1, q2]; done))
        cases b1
        · simp [go_sem, Gw.OpReq, Gw.Ok, Gw.Post, Gw.Holds, bhG, Gw.Grows.refl, hk]
          refine (HMANY.out _).mono ?_
          rintro e w' ⟨rfl, rfl⟩
          simp [go_sem, Gw.Grows.refl]
        · simp [go_sem, Gw.OpReq, Gw.Post, Gw.Holds, bhG, hk]
      case hend =>
        intro x wq hg hx
        have h27 : x 27 = .bool (b1 || b2) := (hx 27 (by simp)).now
        simp only [Gw.putAll, Act.put, List.setIfInBounds_toArray, List.set_cons_zero, List.set_cons_succ]
        rw [h27]
        have hq : Below (b + 1) wz wq := Below.mono (show Below wz.heap.size wz wq from hg) (by rw [HZS.out]; exact Nat.le_refl _)
        have HRQ := Lib.hid (HRZ.out.trans (hq.mono (by omega)))
        have HQB := Lib.hid (HZB.out.trans (hq.mono (by omega)))
        have hqs : b + 1 ≤ wq.heap.size := by have := hq.size; rw [HZS.out] at this; exact this
        have HQ2 := Lib.hid ((hq.cell (p := ⟨b, 2, none⟩) (Nat.lt_succ_self _)).trans HZ2.out)
        have HQ3 := Lib.hid ((hq.cell (p := ⟨b, 3, none⟩) (Nat.lt_succ_self _)).trans HZ3.out)
        have HQO := Lib.hid (HZO.out.kept (row := none) ⟨hg.os, hg.tape, hg.output, hg.size, fun j hj _ => hg.block j hj⟩ (by simp))
        clear h27 hx hg hq HZ2 HZ3 HZO HZB
        obtain ⟨bb, hbb⟩ : ∃ bb, (b1 || b2) = bb := ⟨_, rfl⟩
        rw [hbb]
        have HBB := Lib.hid hbb
        clear hbb
        cases bb with
        | true =>
          go_wp2
          go_ret
          refine ⟨false, rfl, ⟨fun h => (by cases h), fun h => ?_⟩, HQB.out⟩
          obtain ⟨p1, p2, -⟩ := h.1 f (List.mem_of_getElem? HFK.out)
          have e := HBB.out
          rw [← HB1.out, ← HB2.out, HSZ.out, HMZ.out, p2, HBL.out] at e
          simp at e
          omega
        | false =>
          have hmz : mz = (n2 : Int) ∧ 0 ≤ sz := by
            have e := HBB.out
            rw [← HB1.out, ← HB2.out] at e
            simp at e
            omega
          have HOKF := Lib.hid hmz
          have htn := HTN.out
          clear hmz HBB HB1 HB2
          have r3 := HQ3.out
          go_wp2
          go_loopw [31] (fun i wr' => ∃ j : Nat, j ≤ n2 ∧ i = .int .i64 (j : Int) ∧ Hid (∀ z ∈ f.blocks.take j, 32 ≤ z ∧ z < 65536) ∧ Hid (wr'.ownsMap Try.prog 3 ue w.heap.size (t + j) (setOf uu (keysOf .i64 (allBlocks (l.take k) ++ f.blocks.take j)))) ∧ Hid (wq.grownBy wr' (some w.heap.size)) ∧ b + 1 ≤ wr'.heap.size) (fun i _ => n2 - (intOf i).toNat)
          case atStart => exact ⟨0, Nat.zero_le _, rfl, Lib.hid (fun z hz => by simp at hz), Lib.hid (by simpa using HQO.out), Lib.hid (World.grownBy.refl _ _), hqs⟩
          case round =>
            obtain ⟨j, hj, rfl, HR, HO, HG, hrs⟩ := hrel
            have HBR := Lib.hid (HQB.out.grown HG.out HQB.out.size (fun q hq => by cases hq; exact Nat.le_refl _))
            have HWB := Lib.hid ((HRQ.out.grown HG.out HQB.out.size (fun q hq => by cases hq; exact Nat.le_refl _)))
            by_cases hjl : j < n2
            · obtain ⟨z, hz⟩ : ∃ z, f.blocks[j]? = some z := ⟨_, List.getElem?_eq_getElem (by rw [HBL.out]; exact hjl)⟩
              obtain ⟨a2, rfl, hab2, hcz⟩ := (HBC.out.below HWB.out).int hz
              have HZ := Lib.hid hz
              clear hz
              by_cases h1 : z < 32
              · have d1 : decide (z < 32) = true := by simp; omega
                go_wp2
                go_ret
                refine ⟨false, rfl, ⟨fun h => (by cases h), fun h => ?_⟩, HBR.out⟩
                have := (h.1 f (List.mem_of_getElem? HFK.out)).2.2 z (List.mem_of_getElem? HZ.out)
                omega
              · have d1 : decide (z < 32) = false := by simp; omega
                by_cases h2 : 65536 ≤ z
                · have d2 : decide (65536 ≤ z) = true := by simp; omega
                  go_wp2
                  go_ret
                  refine ⟨false, rfl, ⟨fun h => (by cases h), fun h => ?_⟩, HBR.out⟩
                  have := (h.1 f (List.mem_of_getElem? HFK.out)).2.2 z (List.mem_of_getElem? HZ.out)
                  omega
                · have d2 : decide (65536 ≤ z) = false := by simp; omega
                  have hkey := Lib.hid (keyOf_int_mk (P := Try.prog) Try.underlying3 (wf_i64 (i := z) (by omega) (by omega)))
                  have HRX := Lib.hid (show ∀ y ∈ f.blocks.take (j + 1), 32 ≤ y ∧ y < 65536 from by
                    rw [take_snoc HZ.out]
                    intro y hy
                    rcases List.mem_append.1 hy with hy | hy
                    · exact HR.out y hy
                    · simp at hy; subst hy; omega)
                  have HKX := Lib.hid (show keysOf .i64 (allBlocks (l.take k) ++ f.blocks.take (j + 1)) = keysOf .i64 (allBlocks (l.take k) ++ f.blocks.take j) ++ [Lit.int .i64 z] from by
                    rw [take_snoc HZ.out, ← List.append_assoc, keysOf_snoc])
                  go_wp2_with (at_mapUpdate; refine wpList_mapUpdate_own _ rfl _ _ _ 131 rfl 3 130 law_int Try.underlying131 ue w.heap.size (t + j) _ rfl HO.out (by unfold maxLen; omega) _ _ _ rfl rfl hkey.out _ [] unitElem_mk ?_; intro w1 hown1 hgrow1; have HO1 := Lib.hid hown1; have HG1 := Lib.hid hgrow1; clear hown1 hgrow1)
                  go_roundw
                  case rel =>
                    refine ⟨j + 1, by omega, by go_num, HRX, Lib.hid ?_, Lib.hid (HG.out.trans HG1.out), Nat.le_trans hrs HG1.out.size⟩
                    rw [HKX.out, setOf_snoc]
                    exact HO1.out
                  case measure => simp [intOf]; omega
            · have hjn : j = n2 := by omega
              subst hjn
              have e : f.blocks.take j = f.blocks := by rw [← HBL.out, List.take_length]
              have hr3 := (World.cell?_of_block (a := ⟨b, 3, none⟩) (HG.out.block b (by omega) (fun h => by injection h; omega))).trans HQ3.out
              have HOX := Lib.hid (show ∀ g ∈ l.take (k + 1), BlkOk g from by
                rw [take_snoc HFK.out]
                intro g hg
                rcases List.mem_append.1 hg with hg | hg
                · exact HOK.out g hg
                · simp at hg; subst hg
                  have h1 := HOKF.out
                  have h2 := HR.out
                  rw [e] at h2
                  exact ⟨by rw [← HSZ.out]; exact h1.2, by rw [← HMZ.out, h1.1, HBL.out], h2⟩)
              have HTX := Lib.hid (show t + j = countOf (l.take (k + 1)) from by rw [countOf_next HFK.out, HT.out, HBL.out])
              have HMX := HO
              rw [e, ← allBlocks_snoc, ← take_snoc HFK.out] at HMX
              clear e HO HR
              obtain ⟨t', ht'⟩ : ∃ t', t' = t + j := ⟨_, rfl⟩
              have hts : (t : Int) + (j : Int) = (t' : Int) := by omega
              rw [← ht'] at HTX HMX htn
              clear ht'
              go_wp2
              go_roundw
              case rel => exact ⟨k + 1, t', by omega, by go_num, by go_num, by omega, HTX, HOX, HMX, HBR, by omega⟩
              case measure => simp [intOf]; omega
    · have hkn : k = n := by omega
      subst hkn
      have e : l.take k = l := by rw [← HL.out, List.take_length]
      have hlen := size_keys uu .i64 (allBlocks l)
      obtain ⟨z, hz⟩ : ∃ z, z = Maps.size (setOf uu (keysOf .i64 (allBlocks (l.take k)))) := ⟨_, rfl⟩
      have HZ := Lib.hid hz
      rw [e] at hz
      rw [← hz] at hlen
      have HTE := HT
      rw [e] at HTE
      have hlen2 : (allBlocks l).length = t := HTE.out.symm
      rw [hlen2] at hlen
      have HLEN := Lib.hid hlen
      have HOKX := HOK
      rw [e] at HOKX
      clear hz hlen hlen2 e HTE
      go_wp2_with (at_len; refine wpList_len_own _ rfl _ 131 rfl 3 130 Try.underlying131 ue w.heap.size t _ rfl HOWN.out ?_; rw [← HZ.out])
      go_ret
      refine ⟨(z : Int) == (t : Int), rfl, ?_, HB.out⟩
      rw [beq_iff_eq]
      exact ⟨fun h => ⟨HOKX.out, HLEN.out.1 (by omega)⟩, fun h => by have := HLEN.out.2 h.2; omega⟩
end Go.Proofs.Ytcnmamdfiicdaaa

/-! What the section of a manifest contains. -/
namespace Go.Proofs.Ytcnmamdfiicdaaa
open Go.RowKit Me Mf Va

/-- A file's box. -/
abbrev fbox (nm : List UInt8) (id : Nat) (sz : Int) (A : Option Addr) (n c : Nat) : Obj := .cells #[.string ⟨nm.toArray⟩, .int .u32 (id : Int), .int .i64 sz, .slice A n c] 41
theorem fbox_cells {w : World} {b : Nat} {nm : List UInt8} {id : Nat} {sz : Int} {A : Option Addr} {n c : Nat} (h : w.heap[b]? = some (fbox nm id sz A n c)) :
    w.cell? ⟨b, 0, none⟩ = some (.string ⟨nm.toArray⟩) ∧ w.cell? ⟨b, 1, none⟩ = some (.int .u32 (id : Int)) ∧ w.cell? ⟨b, 2, none⟩ = some (.int .i64 sz) ∧ w.cell? ⟨b, 3, none⟩ = some (.slice A n c) := by
  refine ⟨?_, ?_, ?_, ?_⟩ <;> (simp only [World.cell?, h]; rfl)
/-- Bytes of one's own while a file lies in a box. -/
structure Ap (w wr : World) (b : Nat) (o : Obj) (v : Value) (t : Nat) (l : List UInt8) : Prop where
  own : wr.ownsRow w.heap.size 5 1 v t (cellsOf l)
  box : wr.heap[b]? = some o
  lt : b < wr.heap.size
  below : Below w.heap.size w wr
theorem Ap.len {w wr : World} {b t : Nat} {o : Obj} {v : Value} {l : List UInt8} (h : Ap w wr b o v t l) : l.length = t := by
  have := h.own.1
  rwa [cellsOf_length, Nat.mul_one] at this
theorem Ap.past {w wr w1 : World} {b t : Nat} {o : Obj} {v : Value} {l : List UInt8} (h : Ap w wr b o v t l) (hb : Below wr.heap.size wr w1) : Ap w w1 b o v t l :=
  ⟨own_below h.own hb, (hb.block b h.lt).trans h.box, Nat.lt_of_lt_of_le h.lt hb.size, h.below.trans (hb.mono h.below.size)⟩
theorem Ap.app {w wr w1 : World} {b t t' : Nat} {cs : Array Value} {v v' : Value} {l l' : List UInt8} (h : Ap w wr b (.cells cs 41) v t l) (ho : w1.ownsRow w.heap.size 5 1 v' t' (cellsOf l')) (hg : wr.grownBy w1 v.ownBlock) : Ap w w1 b (.cells cs 41) v' t' l' :=
  ⟨ho, (hg.block b h.lt (own_not_box h.own h.box (by decide) ∘ Eq.symm)).trans h.box, Nat.lt_of_lt_of_le h.lt hg.size, h.below.grown hg h.below.size (fun k hk => (h.own.lt k hk).1)⟩
theorem strCells_eq (l : List UInt8) : Lib.strCells ⟨l.toArray⟩ = cellsOf l := by
  simp [Lib.strCells, cellsOf]
theorem wrap_u64_of {z : Int} (h1 : 0 ≤ z) (h2 : z < 18446744073709551616) : IntKind.u64.wrap z = z := by rw [IntKind.wrap_u64]; omega
set_option maxRecDepth 100000 in
set_option maxHeartbeats 2000000 in
theorem body_any (A : Option Addr) (n c : Nat) (m : ManD) (w : World) (hpos : ∀ f ∈ m.files, PosF f) (hbl : (body m).length ≤ 1099511627776) (h : ManAt w w.heap.size A n c m) :
    Calls Try.prog 60 #[mval m.version m.next A n c] w (News w (body m)) := by
  obtain ⟨i0, hi0, hz0, hz1, hz2⟩ := info_parts u8_info
  obtain ⟨HF, HL, -, -, HWF⟩ := h
  have hn40 : n ≤ 1099511627776 := by
    have h1 := body_length m
    have h2 := encFs_length m.files
    omega
  have HF := Lib.hid HF
  have HL := Lib.hid HL
  have HPOS := Lib.hid hpos
  have HBL := Lib.hid hbl
  obtain ⟨l, hl⟩ : ∃ l, l = m.files := ⟨_, rfl⟩
  obtain ⟨v, hv⟩ : ∃ v, v = m.version := ⟨_, rfl⟩
  obtain ⟨x, hx⟩ : ∃ x, x = m.next := ⟨_, rfl⟩
  have hv64 : v < 18446744073709551616 := by rw [hv]; exact HWF.version
  have hx32 : x < 4294967296 := by rw [hx]; exact HWF.next
  have HWF := Lib.hid HWF.files
  have HBY := Lib.hid (show body m = encNs [v, x, n] ++ encFs l by
    unfold body
    simp only [encNs, List.append_assoc, List.append_nil]
    rw [hv, hx, hl, HL.out])
  rw [← hv, ← hx]
  rw [← hl] at HF HL HPOS HWF
  clear hpos hbl hl hv hx
  have e1 : IntKind.u64.wrap (x : Int) = (x : Int) := wrap_u64_of (by omega) (by omega)
  have e2 : IntKind.u64.wrap (n : Int) = (n : Int) := wrap_u64_of (by omega) (by omega)
  have HHD := Lib.hid (encNs_ten [v, x, n] (by simp; omega))
  obtain ⟨wb, hwb⟩ : ∃ wb, wb = (w.alloc (.cells #[.int .u64 (v : Int), .int .u32 (x : Int), .slice A n c] 28)).alloc (.cells #[.int .u64 (v : Int), .int .u64 (x : Int), .int .u64 (n : Int)] 24) := ⟨_, rfl⟩
  have HWB := Lib.hid hwb
  have HB0 := Lib.hid (show Below w.heap.size w wb by rw [hwb]; exact ((Below.refl _ _).alloc (Nat.le_refl _) _).alloc (by simp) _)
  have HC0 := Lib.hid (show Cs wb wb.heap.size (some ⟨w.heap.size + 1, 0, none⟩) (ucells [v, x, n]) by
    rw [hwb]
    have := Cs.lit (w.alloc (.cells #[.int .u64 (v : Int), .int .u32 (x : Int), .slice A n c] 28)) #[.int .u64 (v : Int), .int .u64 (x : Int), .int .u64 (n : Int)] 24
    simpa [ucells] using this)
  have hq2 : wb.cell? ⟨w.heap.size, 2, none⟩ = some (.slice A n c) := by rw [hwb, World.cell?_alloc_lt _ _ _ (by simp)]; simp only [World.cell?, heap_alloc_new]; rfl
  have HQ2 := Lib.hid hq2
  have HBS := Lib.hid (show w.heap.size < wb.heap.size by rw [hwb]; simp; omega)
  clear hwb hq2
  go_enter Try.func60, Try.ntmps60
  go_wp2_with fail
  rw [← HWB.out]
  clear HWB
  refine (encoded_any (some ⟨w.heap.size + 1, 0, none⟩) 3 3 [v, x, n] wb wb.heap.size rfl (by omega) (by simp; omega) HC0.out (Nat.le_refl _)).mono ?_
  rintro e w1 ⟨v1, t1, rfl, ho1, hb1⟩
  have hlen1 := ho1.1
  rw [cellsOf_length, Nat.mul_one] at hlen1
  have HB1 := Lib.hid (HB0.out.trans (hb1.mono HB0.out.size))
  have HO1 := Lib.hid (own_more ho1 HB0.out.size)
  have hr2 : w1.cell? ⟨w.heap.size, 2, none⟩ = some (.slice A n c) := (hb1.cell (p := ⟨w.heap.size, 2, none⟩) HBS.out).trans HQ2.out
  have HT1 := Lib.hid hlen1
  clear ho1 hb1 hlen1
  go_wp2
  clear hr2
  go_loopw [3, 22] (fun y i wr => ∃ k t : Nat, k ≤ n ∧ i = .int .i64 (k : Int) ∧ Hid (wr.ownsRow w.heap.size 5 1 y t (cellsOf (encNs [v, x, n] ++ encFs (l.take k)))) ∧ Hid (Below w.heap.size w wr)) (fun _ i _ => n - (intOf i).toNat)
  case atStart => exact ⟨0, t1, Nat.zero_le _, rfl, Lib.hid (by simpa [encFs] using HO1.out), HB1⟩
  case round =>
    clear HB0 HC0 HQ2 HBS HB1 HO1 HT1
    obtain ⟨k, t, hk, rfl, HO, HB⟩ := hrel
    by_cases hlt : k < n
    · obtain ⟨a, f, rfl, hab, hf, A2, n2, c2, g0, g1, g2, g3, g4, -, -, g7⟩ := HF.out.at (by rw [HL.out]; exact hlt)
      have hax : (a.add (k * 4)).block < w.heap.size := by rw [block_add]; exact hab
      replace g0 := (HB.out.cell hax).trans g0
      replace g1 := (HB.out.cell (p := ⟨_, _, none⟩) hax).trans g1
      replace g2 := (HB.out.cell (p := ⟨_, _, none⟩) hax).trans g2
      replace g3 := (HB.out.cell (p := ⟨_, _, none⟩) hax).trans g3
      clear hax
      have hfm := List.mem_of_getElem? hf
      have hfw := HWF.out f hfm
      have hfp := HPOS.out f hfm
      have hbig : (encNs [v, x, n] ++ encFs (l.take k)).length + (encF f).length ≤ 1099511627776 := by
        have h1 := HBL.out
        rw [HBY.out] at h1
        have h2 := encFs_le (l := l) (k + 1)
        rw [encFs_take hf] at h2
        simp only [List.length_append] at h1 h2 ⊢
        omega
      obtain ⟨nm, hnm⟩ : ∃ nm, nm = f.name := ⟨_, rfl⟩
      obtain ⟨id, hid⟩ : ∃ id : Nat, id = f.id := ⟨_, rfl⟩
      obtain ⟨z, hz⟩ : ∃ z : Nat, z = f.size.toNat := ⟨_, rfl⟩
      have hsz : f.size = (z : Int) := by have := hfp.size; omega
      obtain ⟨bs, hbs⟩ : ∃ bs, bs = f.blocks := ⟨_, rfl⟩
      obtain ⟨lst, hlst⟩ : ∃ lst, lst = encNs [v, x, n] ++ encFs (l.take k) := ⟨_, rfl⟩
      have hef : encF f = encNs [nm.length] ++ (nm ++ (encNs [id, z] ++ encBs bs)) := by
        unfold encF
        rw [hnm, hid, hz, hbs]
        simp only [encNs, List.append_assoc, List.append_nil]
      have HNX := Lib.hid (show encNs [v, x, n] ++ encFs (l.take (k + 1)) = lst ++ (encNs [nm.length] ++ (nm ++ (encNs [id, z] ++ encBs bs))) by
        rw [encFs_take hf, ← List.append_assoc, ← hlst, hef])
      rw [← hlst, hef] at hbig
      rw [← hlst] at HO
      have hid32 : id < 4294967296 := by rw [hid]; exact hfw.id
      have hz63 : (z : Int) ≤ 9223372036854775807 := by rw [← hsz]; exact hfw.high
      have HBP := Lib.hid hfp.blocks
      have HBW := Lib.hid hfw.blocks
      rw [← hbs] at HBP HBW g4 g7
      rw [← hnm] at g0
      rw [← hid] at g1
      rw [hsz] at g2
      have HBLN := Lib.hid g4
      have HBC := Lib.hid g7
      obtain ⟨m1, hm1⟩ : ∃ m1, m1 = nm.length := ⟨_, rfl⟩
      have hs1 : (ByteArray.mk nm.toArray).size = m1 := by rw [hm1]; exact List.size_toArray ..
      rw [← hm1] at hbig HNX
      have HM1 := Lib.hid hm1
      have HBIG := Lib.hid hbig
      have hm40 : m1 ≤ 1099511627776 := by simp only [List.length_append] at hbig; omega
      have e3 : IntKind.u64.wrap (m1 : Int) = (m1 : Int) := wrap_u64_of (by omega) (by omega)
      have e4 : IntKind.u64.wrap (id : Int) = (id : Int) := wrap_u64_of (by omega) (by omega)
      have e5 : IntKind.u64.wrap (z : Int) = (z : Int) := wrap_u64_of (by omega) (by omega)
      clear hf hfm hfw hfp hnm hid hz hsz hbs hlst hef hm1 g4 g7 hbig
      obtain ⟨wz, hwz⟩ : ∃ wz, wz = wr.alloc (fbox nm id z A2 n2 c2) := ⟨_, rfl⟩
      obtain ⟨b, hb⟩ : ∃ b, b = wr.heap.size := ⟨_, rfl⟩
      obtain ⟨w2, hw2⟩ : ∃ w2, w2 = wz.alloc (.cells #[.int .u64 (m1 : Int)] 24) := ⟨_, rfl⟩
      have AP0 := Lib.hid (show Ap w wz b (fbox nm id z A2 n2 c2) u3 t lst from by
        rw [hwz, hb]
        exact ⟨own_below HO.out ((Below.refl _ _).alloc (Nat.le_refl _) _), heap_alloc_new wr _, by simp, HB.out.alloc HB.out.size _⟩)
      have HZB := Lib.hid (show Below wr.heap.size wr wz by rw [hwz]; exact (Below.refl _ _).alloc (Nat.le_refl _) _)
      have AP2 := Lib.hid (show Ap w w2 b (fbox nm id z A2 n2 c2) u3 t lst from by rw [hw2]; exact AP0.out.past ((Below.refl _ _).alloc (Nat.le_refl _) _))
      have HC2 := Lib.hid (show Cs w2 w2.heap.size (some ⟨wz.heap.size, 0, none⟩) (ucells [m1]) by
        rw [hw2]
        have := Cs.lit wz #[.int .u64 (m1 : Int)] 24
        simpa [ucells] using this)
      have HW2 := Lib.hid (show w2 = (wr.alloc (fbox nm id z A2 n2 c2)).alloc (.cells #[.int .u64 (m1 : Int)] 24) by rw [hw2, hwz])
      have HZS := Lib.hid (show wz.heap.size = wr.heap.size + 1 by rw [hwz]; simp)
      clear hwz hw2
      go_wp2_with fail
      subst hb
      rw [← HW2.out]
      rw [HZS.out] at HC2
      clear HW2
      refine (encoded_any (some ⟨wr.heap.size + 1, 0, none⟩) 1 1 [m1] w2 w2.heap.size rfl (by omega) (by simp; omega) HC2.out (Nat.le_refl _)).mono ?_
      intro e w3 h3
      obtain ⟨A3, n3, c3, rfl, hl3, -, -, hr3, hb3⟩ := h3.open
      have AP3 := Lib.hid (AP2.out.past hb3)
      have HB3 := Lib.hid (AP3.out.below)
      have HL3 := Lib.hid hl3
      have HR3 := Lib.hid hr3
      clear h3 hl3 hr3 hb3 HC2 AP2 AP0
      have HT := Lib.hid AP3.out.len
      have hbg : t + n3 ≤ 1099511627776 := by
        have h1 := HBIG.out
        have h2 := HL3.out
        have h3 := HT.out
        simp only [List.length_append] at h1
        omega
      go_upto_region 6 with (at_builtin; refine wpList_app rfl (.tmp 26) (.tmp 32) 22 rfl w.heap.size 5 i0 _ Try.underlying22 hi0 hz0 hz1 hz2 rfl u3 t lst rfl AP3.out.own w3.heap.size A3 n3 c3 (encNs [m1]) rfl HL3.out HR3.out (by omega) HB3.out.size ?_; intro v4 w4 ho4 hg4 _)
      have AP4 := Lib.hid (AP3.out.app ho4 hg4)
      clear ho4 hg4
      obtain ⟨q0, -, -, -⟩ := fbox_cells AP4.out.box
      have hbg4 : t + n3 + m1 ≤ 1099511627776 := by
        have h1 := HBIG.out
        have h2 := HL3.out
        have h3 := HT.out
        have h4 := HM1.out
        simp only [List.length_append] at h1
        omega
      have HB4 := Lib.hid AP4.out.below
      go_upto_region 7 with (at_builtin; refine Lib.wpList_append_own_string w4 rfl (.tmp 34) (.tmp 36) 22 9 rfl w.heap.size 5 i0 Try.underlying22 Try.underlying9 hi0 hz0 hz1 hz2 v4 (t + n3) _ rfl AP4.out.own ⟨nm.toArray⟩ rfl (by rw [hs1]; unfold maxLen; omega) (by rw [hs1]; omega) HB4.out.size ?_; intro v5 w5 ho5 hg5 _)
      rw [hs1, strCells_eq, ← cellsOf_append] at ho5
      have AP5 := Lib.hid (AP4.out.app ho5 hg5)
      clear ho5 hg5 q0 HB4
      obtain ⟨-, q1, q2, -⟩ := fbox_cells AP5.out.box
      obtain ⟨w6, hw6⟩ : ∃ w6, w6 = w5.alloc (.cells #[.int .u64 (id : Int), .int .u64 (z : Int)] 24) := ⟨_, rfl⟩
      have AP6 := Lib.hid (show Ap w w6 wr.heap.size (fbox nm id z A2 n2 c2) v5 (t + n3 + m1) (lst ++ encNs [m1] ++ nm) from by rw [hw6]; exact AP5.out.past ((Below.refl _ _).alloc (Nat.le_refl _) _))
      have HC6 := Lib.hid (show Cs w6 w6.heap.size (some ⟨w5.heap.size, 0, none⟩) (ucells [id, z]) by
        rw [hw6]
        have := Cs.lit w5 #[.int .u64 (id : Int), .int .u64 (z : Int)] 24
        simpa [ucells] using this)
      have HW6 := Lib.hid hw6
      clear hw6
      go_wp2_with fail
      rw [← HW6.out]
      clear HW6 q1 q2
      refine (encoded_any (some ⟨w5.heap.size, 0, none⟩) 2 2 [id, z] w6 w6.heap.size rfl (by omega) (by simp; omega) HC6.out (Nat.le_refl _)).mono ?_
      intro e w7 h7
      obtain ⟨A7, n7, c7, rfl, hl7, -, -, hr7, hb7⟩ := h7.open
      have AP7 := Lib.hid (AP6.out.past hb7)
      have HB7 := Lib.hid AP7.out.below
      have HL7 := Lib.hid hl7
      have HR7 := Lib.hid hr7
      clear h7 hl7 hr7 hb7 HC6 AP6
      have hbg7 : t + n3 + m1 + n7 ≤ 1099511627776 := by
        have h1 := HBIG.out
        have h2 := HL3.out
        have h3 := HT.out
        have h4 := HM1.out
        have h5 := HL7.out
        simp only [List.length_append] at h1
        omega
      go_upto_region 8 with (at_builtin; refine wpList_app rfl (.tmp 38) (.tmp 46) 22 rfl w.heap.size 5 i0 _ Try.underlying22 hi0 hz0 hz1 hz2 rfl v5 (t + n3 + m1) _ rfl AP7.out.own w7.heap.size A7 n7 c7 (encNs [id, z]) rfl HL7.out HR7.out (by omega) HB7.out.size ?_; intro v8 w8 ho8 hg8 _)
      have AP8 := Lib.hid (AP7.out.app ho8 hg8)
      clear ho8 hg8 HB7 hbg hbg4 AP3 AP4 AP5 AP7 HR7 HB3 HR3
      obtain ⟨-, -, -, q3⟩ := fbox_cells AP8.out.box
      have HB8 := Lib.hid AP8.out.below
      have HO8 := Lib.hid AP8.out.own
      obtain ⟨pre, hpre⟩ : ∃ pre, pre = lst ++ encNs [m1] ++ nm ++ encNs [id, z] := ⟨_, rfl⟩
      rw [← hpre] at HO8
      have HNY := Lib.hid (show encNs [v, x, n] ++ encFs (l.take (k + 1)) = pre ++ encBs bs by rw [HNX.out, hpre]; simp only [List.append_assoc])
      have HPB := Lib.hid (show pre.length + (encBs bs).length ≤ 1099511627776 by
        have h1 := HBIG.out
        rw [hpre]
        simp only [List.length_append] at h1 ⊢
        omega)
      have hn240 : n2 ≤ 1099511627776 := by
        have h1 := HPB.out
        have h2 := encBs_length bs
        have h3 := HBLN.out
        omega
      clear hpre AP8
      go_wp2
      go_loopw [3, 51] (fun y i wr' => ∃ j t' : Nat, j ≤ n2 ∧ i = .int .i64 (j : Int) ∧ Hid (wr'.ownsRow w.heap.size 5 1 y t' (cellsOf (pre ++ encBs (bs.take j)))) ∧ Hid (Below w.heap.size w wr')) (fun _ i _ => n2 - (intOf i).toNat)
      case atStart => exact ⟨0, _, Nat.zero_le _, rfl, Lib.hid (by simpa [encBs] using HO8.out), HB8⟩
      case round =>
        clear HB8 HO8 q3
        obtain ⟨j, t', hj, rfl, HOJ, HBJ⟩ := hrel
        by_cases hjl : j < n2
        · obtain ⟨y, hy⟩ : ∃ y, bs[j]? = some y := ⟨_, List.getElem?_eq_getElem (by rw [HBLN.out]; exact hjl)⟩
          have hym := List.mem_of_getElem? hy
          obtain ⟨p, hp⟩ : ∃ p : Nat, p = y.toNat := ⟨_, rfl⟩
          have hyp : y = (p : Int) := by have := HBP.out y hym; omega
          have hp64 : (p : Int) ≤ 9223372036854775807 := by rw [← hyp]; exact (HBW.out y hym).2
          obtain ⟨a2, rfl, hab2, hcz⟩ := (HBC.out.below HBJ.out).int hy
          rw [hyp] at hcz
          have e6 : IntKind.u64.wrap (p : Int) = (p : Int) := wrap_u64_of (by omega) (by omega)
          have HBX := Lib.hid (show pre ++ encBs (bs.take (j + 1)) = (pre ++ encBs (bs.take j)) ++ encNs [p] by
            rw [encBs_take hy, hp]
            simp only [encNs, List.append_assoc, List.append_nil])
          have hbb : t' + (encNs [p]).length ≤ 1099511627776 := by
            have h1 := HPB.out
            have h2 := HOJ.out.1
            rw [cellsOf_length, Nat.mul_one] at h2
            have h3 : (encBs (bs.take (j + 1))).length ≤ (encBs bs).length := by
              have e : encBs bs = encBs (bs.take (j + 1)) ++ encBs (bs.drop (j + 1)) := by rw [← encBs_append, List.take_append_drop]
              rw [e, List.length_append]; omega
            have h4 := congrArg List.length HBX.out
            simp only [List.length_append] at h2 h4
            omega
          have HBB := Lib.hid hbb
          clear hy hym hp hyp hbb
          obtain ⟨wa, hwa⟩ : ∃ wa, wa = wr.alloc (.cells #[.int .u64 (p : Int)] 24) := ⟨_, rfl⟩
          have HOA := Lib.hid (show wa.ownsRow w.heap.size 5 1 u3 t' (cellsOf (pre ++ encBs (bs.take j))) from by rw [hwa]; exact own_below HOJ.out ((Below.refl _ _).alloc (Nat.le_refl _) _))
          have HBA := Lib.hid (show Below w.heap.size w wa by rw [hwa]; exact HBJ.out.alloc HBJ.out.size _)
          have HCA := Lib.hid (show Cs wa wa.heap.size (some ⟨wr.heap.size, 0, none⟩) (ucells [p]) by
            rw [hwa]
            have := Cs.lit wr #[.int .u64 (p : Int)] 24
            simpa [ucells] using this)
          have HWA := Lib.hid hwa
          clear hwa HOJ
          go_wp2_with fail
          rw [← HWA.out]
          clear HWA
          refine (encoded_any (some ⟨wr.heap.size, 0, none⟩) 1 1 [p] wa wa.heap.size rfl (by omega) (by simp; omega) HCA.out (Nat.le_refl _)).mono ?_
          intro e w9 h9
          obtain ⟨A9, n9, c9, rfl, hl9, -, -, hr9, hb9⟩ := h9.open
          have HO9 := Lib.hid (own_below HOA.out hb9)
          have HB9 := Lib.hid (HBA.out.trans (hb9.mono HBA.out.size))
          have HL9 := Lib.hid hl9
          have HR9 := Lib.hid hr9
          have hbg9 : t' + n9 ≤ 1099511627776 := by have := HBB.out; rw [hl9] at this; exact this
          clear h9 hl9 hr9 hb9 HCA HOA HBA HBJ
          go_upto_region 12 with (at_builtin; refine wpList_app rfl (.tmp 55) (.tmp 59) 22 rfl w.heap.size 5 i0 _ Try.underlying22 hi0 hz0 hz1 hz2 rfl u3 t' _ rfl HO9.out w9.heap.size A9 n9 c9 (encNs [p]) rfl HL9.out HR9.out (by omega) HB9.out.size ?_; intro v10 w10 ho10 hg10 _)
          have HB10 := Lib.hid (below_app HB9.out HO9.out (Nat.le_refl _) HB9.out.size hg10)
          rw [← HBX.out] at ho10
          have HO10 := Lib.hid ho10
          clear ho10 hg10 HO9 HB9 HR9
          go_wp2
          go_roundw
          case rel => exact ⟨j + 1, _, by omega, by go_num, HO10, HB10⟩
          case measure => simp [intOf]; omega
        · have hjn : j = n2 := by omega
          subst hjn
          have e : bs.take j = bs := by rw [← HBLN.out, List.take_length]
          have HOE := HOJ
          rw [e, ← HNY.out] at HOE
          clear HOJ e
          go_wp2
          go_roundw
          case rel => exact ⟨k + 1, t', by omega, by go_num, HOE, HBJ⟩
          case measure => simp [intOf]; omega
    · have hkn : k = n := by omega
      subst hkn
      have e : l.take k = l := by rw [← HL.out, List.take_length]
      have HOE := HO
      rw [e, ← HBY.out] at HOE
      clear HO e
      go_wp2
      go_ret
      exact ⟨_, _, rfl, HOE.out, HB.out⟩
end Go.Proofs.Ytcnmamdfiicdaaa
