/- Whether the files' names, their ids, their blocks fit. -/
import Derived.Test.YtgnghalcihoaaaaMan
import Derived.Maps.OwnSet
import Derived.Lib.Strings
namespace Go.Proofs.Ytgnghalcihoaaaa
open Go.RowKit Me Mf Go.Maps

/-- A bool is answered that tells whether. -/
def Bp (w : World) (P : Prop) (e : Ending) (w' : World) : Prop := ∃ b : Bool, e = .returned (.bool b) ∧ (b = true ↔ P) ∧ Below w.heap.size w w'
set_option maxRecDepth 100000 in
set_option maxHeartbeats 1000000 in
theorem names_any (A : Option Addr) (n c : Nat) (l : List FileD) (w : World) (hl : l.length = n) (hn : n ≤ 9223372036854775807) (h : Files w w.heap.size A l) :
    Calls Try.prog 56 #[.slice A n c] w (Bp w (NamesOk l)) := by
  have HL := Lib.hid hl
  have HF := Lib.hid h
  clear hl h
  go_enter Try.func56, Try.ntmps56
  go_wp2
  go_loopw [3, 8] (fun s i wr => ∃ (k : Nat) (last : List UInt8), k ≤ n ∧ i = .int .i64 (k : Int) ∧ s = sv last ∧ Hid (last = lastName (l.take k)) ∧ Hid (NamesOk (l.take k)) ∧ Hid (Below w.heap.size w wr)) (fun _ i _ => n - (intOf i).toNat)
  case atStart => exact ⟨0, [], Nat.zero_le _, rfl, rfl, Lib.hid rfl, Lib.hid (good_nil 0).1, Lib.hid (Below.refl _ _)⟩
  case round =>
    obtain ⟨k, last, hk, rfl, rfl, HLA, HN, HB⟩ := hrel
    by_cases hlt : k < n
    · obtain ⟨a, f, rfl, hab, hf, A2, n2, c2, g0, g1, g2, g3, -⟩ := (HF.out.below HB.out).at (by rw [HL.out]; exact hlt)
      have HFK := Lib.hid hf
      obtain ⟨nm, hnm⟩ : ∃ nm, nm = f.name := ⟨_, rfl⟩
      obtain ⟨id, hid⟩ : ∃ id : Int, id = (f.id : Int) := ⟨_, rfl⟩
      obtain ⟨sz, hsz⟩ : ∃ sz, sz = f.size := ⟨_, rfl⟩
      rw [← hnm] at g0
      rw [← hid] at g1
      rw [← hsz] at g2
      have HNM := Lib.hid hnm
      clear hnm hid hsz hf
      obtain ⟨b1, hb1⟩ : ∃ b1, (!less last nm) = b1 := ⟨_, rfl⟩
      have hle : (Op.bytesLess nm last || nm == last) = b1 := (leq_eq nm last).trans hb1
      have HB1 := Lib.hid hb1
      clear hb1
      have hstep := names_snoc (f := f) HN.out
      rw [← take_snoc HFK.out, ← HLA.out, ← HNM.out] at hstep
      have HST := Lib.hid hstep
      clear hstep
      cases b1 with
      | true =>
        go_wp2
        go_ret
        refine ⟨false, rfl, ⟨fun h => (by cases h), fun h => ?_⟩, HB.out.alloc HB.out.size _⟩
        have := (HST.out.1 (h.take (k + 1))).1
        rw [this] at HB1
        exact absurd HB1.out (by simp)
      | false =>
        obtain ⟨m, hm⟩ : ∃ m, m = nm.length := ⟨_, rfl⟩
        have hsz : (ByteArray.mk nm.toArray).size = m := by rw [hm]; exact List.size_toArray ..
        have HM := Lib.hid hm
        clear hm
        by_cases hm : 32 < m
        · have d1 : decide ((32 : Int) < (m : Int)) = true := by simp; omega
          go_wp2
          go_ret
          refine ⟨false, rfl, ⟨fun h => (by cases h), fun h => ?_⟩, HB.out.alloc HB.out.size _⟩
          have := (HST.out.1 (h.take (k + 1))).2
          rw [← HM.out] at this
          omega
        · have d1 : decide ((32 : Int) < (m : Int)) = false := by simp; omega
          have HNX := Lib.hid (HST.out.2 ⟨by have := HB1.out; simpa using this, by rw [← HM.out]; omega⟩)
          have HLX := Lib.hid (show nm = lastName (l.take (k + 1)) by rw [take_snoc HFK.out, lastName_snoc]; exact HNM.out)
          go_wp2
          go_roundw
          case rel => exact ⟨k + 1, nm, by omega, by go_num, rfl, HLX, HNX, Lib.hid (HB.out.alloc HB.out.size _)⟩
          case measure => simp [intOf]; omega
    · have hkn : k = n := by omega
      go_wp2
      go_ret
      refine ⟨true, rfl, ⟨fun _ => ?_, fun _ => rfl⟩, HB.out⟩
      have := HN.out
      rwa [hkn, ← HL.out, List.take_length] at this
/-- Numbers as keys. -/
def keysOf (q : IntKind) (l : List Int) : List Lit := l.map (Lit.int q)
theorem keysOf_snoc (q : IntKind) (l : List Int) (x : Int) : keysOf q (l ++ [x]) = keysOf q l ++ [Lit.int q x] := by simp [keysOf]
theorem keys_lit (q : IntKind) (l : List Int) : ∀ x ∈ keysOf q l, WideAt.IsKeyLit x := by
  intro x hx
  obtain ⟨_, _, rfl⟩ := List.mem_map.1 hx
  trivial
theorem any_key (q : IntKind) (x : Int) : ∀ l : List Int, (keysOf q l).any (fun y => y.sameKey (.int q x)) = decide (x ∈ l)
  | [] => rfl
  | a :: r => by
    have ih := any_key q x r
    unfold keysOf at ih ⊢
    rw [List.map_cons, List.any_cons, ih]
    show (decide (q = q ∧ a = x) || decide (x ∈ r)) = decide (x ∈ a :: r)
    by_cases e : a = x
    · subst e; simp
    · have e' : ¬ x = a := fun h => e h.symm
      simp [e, e']
theorem add_keys (q : IntKind) : ∀ (l acc : List Int), acc.Nodup → ((keysOf q l).foldl addKey (keysOf q acc)).length ≤ acc.length + l.length ∧ (((keysOf q l).foldl addKey (keysOf q acc)).length = acc.length + l.length ↔ (acc ++ l).Nodup)
  | [], acc, h => by simp [keysOf, h]
  | x :: r, acc, h => by
    have e : keysOf q (x :: r) = Lit.int q x :: keysOf q r := rfl
    rw [e, List.foldl_cons, addKey, any_key]
    by_cases hx : x ∈ acc
    · have := (add_keys q r acc h).1
      simp only [hx, decide_true, if_true, List.length_cons]
      refine ⟨by omega, ⟨fun k => by omega, fun k => ?_⟩⟩
      rw [List.nodup_append] at k
      exact absurd rfl (k.2.2 x hx x (by simp))
    · have h' : (acc ++ [x]).Nodup := nodup_snoc.2 ⟨h, hx⟩
      have := add_keys q r (acc ++ [x]) h'
      rw [keysOf_snoc] at this
      simp only [hx, decide_false, Bool.false_eq_true, if_false, List.length_cons]
      simp only [List.length_append, List.length_cons, List.length_nil, List.append_assoc, List.cons_append, List.nil_append] at this
      exact ⟨by omega, by rw [← this.2]; omega⟩
theorem size_keys {H : Type} (u : DataW H) (q : IntKind) (l : List Int) : Maps.size (setOf u (keysOf q l)) = l.length ↔ l.Nodup := by
  rw [size_setOf _ _ (keys_lit q l)]
  have := (add_keys q l [] (by simp)).2
  simpa [keysOf] using this
theorem size_keys_le {H : Type} (u : DataW H) (q : IntKind) (l : List Int) : Maps.size (setOf u (keysOf q l)) ≤ l.length := by
  rw [size_setOf _ _ (keys_lit q l)]
  have := (add_keys q l [] (by simp)).1
  simpa [keysOf] using this
theorem law_u32 : Keyed Try.prog 25 := int_keyed Try.underlying25
theorem law_int : Keyed Try.prog 3 := int_keyed Try.underlying3
abbrev uu : DataW Unit := .agg []
abbrev ue : Value → Option (DataW Unit × List MemPlace) := unitElem
end Go.Proofs.Ytgnghalcihoaaaa
