/- Texts put together, for a law: Find. -/
import Derived.RegionTactic
import Derived.Shelf.Abstract
import Derived.Test.YteaibgnelnblnaaKQ7
section
namespace Go.Proofs.Yteaibgnelnblnaa
open Go.RowKit Me Va

/-- The ends that rise are strictly one above the other. -/
theorem rises_above : ∀ (l : List ArcD) (least : Nat), rises least l = true → ∀ (i : Nat) (p : ArcD), l[i]? = some p → least ≤ p.to
  | [], _, _, i, p, h => by simp at h
  | q :: l, least, hr, 0, p, h => by
    simp at h
    subst h
    rw [rises] at hr
    simp at hr
    omega
  | q :: l, least, hr, i + 1, p, h => by
    rw [rises] at hr
    simp at hr
    have := rises_above l (q.to + 1) hr.2 i p (by simpa using h)
    omega
theorem rises_lt : ∀ (l : List ArcD) (least : Nat), rises least l = true → ∀ (i j : Nat) (p q : ArcD), i < j → l[i]? = some p → l[j]? = some q → p.to < q.to
  | [], _, _, i, j, p, q, _, h, _ => by simp at h
  | z :: l, least, hr, 0, j, p, q, hij, h, h' => by
    obtain ⟨j, rfl⟩ : ∃ k, j = k + 1 := ⟨j - 1, by omega⟩
    simp at h
    subst h
    rw [rises] at hr
    simp at hr
    have := rises_above l (z.to + 1) hr.2 j q (by simpa using h')
    omega
  | z :: l, least, hr, i + 1, j, p, q, hij, h, h' => by
    obtain ⟨j, rfl⟩ : ∃ k, j = k + 1 := ⟨j - 1, by omega⟩
    rw [rises] at hr
    simp at hr
    exact rises_lt l (z.to + 1) hr.2 i j p q (by omega) (by simpa using h) (by simpa using h')
/-- The predicate. -/
def upTo (l : List ArcD) (to : Nat) (i : Nat) : Bool := match l[i]? with
  | some q => decide (to ≤ q.to)
  | none => true
theorem upTo_at {l : List ArcD} {to i : Nat} {q : ArcD} (h : l[i]? = some q) : upTo l to i = decide (to ≤ q.to) := by unfold upTo; rw [h]
theorem upTo_mono {l : List ArcD} (hr : rises 0 l = true) (to : Nat) : ∀ a b, a ≤ b → b < l.length → upTo l to a = true → upTo l to b = true := by
  intro a b hab hb h
  have ha : l[a]? = some l[a] := List.getElem?_eq_getElem (by omega)
  have hb' : l[b]? = some l[b] := List.getElem?_eq_getElem hb
  rw [upTo_at ha] at h
  rw [upTo_at hb']
  simp only [decide_eq_true_eq] at h ⊢
  rcases Nat.eq_or_lt_of_le hab with e | e
  · subst e; exact h
  · have := rises_lt l 0 hr a b _ _ e ha hb'; omega
set_option maxRecDepth 100000 in
set_option maxHeartbeats 400000 in
theorem closure_any (b b' : Nat) (a : Addr) (n c i : Nat) (q : ArcD) (to : Nat) (w : World) (hi : i < n) (hs : w.cell? ⟨b, 0, none⟩ = some (.slice (some a) n c)) (hx : w.cell? ⟨b', 0, none⟩ = some (.int .u32 (to : Int))) (hc : w.cell? (a.add (i * 2)) = some (.int .u32 (q.to : Int))) :
    Calls Try.prog 62 #[.int .i64 (i : Int), .pointer (some ⟨b, 0, none⟩), .pointer (some ⟨b', 0, none⟩)] w fun e w' => e = .returned (.bool (decide (to ≤ q.to))) ∧ Below w.heap.size w w' := by
  have HD := Lib.hid (show decide ((to : Int) ≤ (q.to : Int)) = decide (to ≤ q.to) by simp)
  go_enter Try.func62, Try.ntmps62
  go_wp2
  go_region
  all_goals
    go_wp2
    go_ret
    exact ⟨ret_bool (by first | exact HD.out | (simp; done) | (rw [← HD.out]; simp)), (Below.refl _ _).drew⟩
set_option maxRecDepth 100000 in
set_option maxHeartbeats 1000000 in
theorem search_any (n g : Nat) (cb : Array Value) (p : Nat → Bool) (w : World) (eg : ∀ args w, (callFunc g args).run Try.prog w = .ok (.enter g args) w) (hn : n < 4611686018427387904)
    (hf : ∀ (W : World) (i : Nat), Below w.heap.size w W → i < n → Calls Try.prog g (#[.int .i64 (i : Int)] ++ cb) W fun e w' => e = .returned (.bool (p i)) ∧ Below W.heap.size W w')
    (hm : ∀ a b, a ≤ b → b < n → p a = true → p b = true) :
    Calls Try.prog 61 #[.int .i64 (n : Int), .func (.func g) #[] cb] w fun e w' => ∃ r : Nat, e = .returned (.int .i64 (r : Int)) ∧ r ≤ n ∧ (∀ t, t < r → p t = false) ∧ (∀ t, r ≤ t → t < n → p t = true) ∧ Below w.heap.size w w' := by
  have HF := Lib.hid hf
  have HM := Lib.hid hm
  clear hf hm
  go_enter Try.func61, Try.ntmps61
  go_wp2
  go_loopw [5, 6] (fun x y wr => ∃ lo hi : Nat, x = .int .i64 (lo : Int) ∧ y = .int .i64 (hi : Int) ∧ lo ≤ hi ∧ hi ≤ n ∧ Hid ((∀ t, t < lo → p t = false) ∧ (∀ t, hi ≤ t → t < n → p t = true)) ∧ Hid (Below w.heap.size w wr)) (fun x y _ => (intOf y - intOf x).toNat)
  case atStart => exact ⟨0, n, rfl, rfl, Nat.zero_le _, Nat.le_refl _, Lib.hid ⟨fun t ht => absurd ht (Nat.not_lt_zero _), fun t h1 h2 => by omega⟩, Lib.hid (Below.refl _ _)⟩
  case round =>
    obtain ⟨lo, hi, rfl, rfl, hlh, hin, HI, HB⟩ := hrel
    by_cases hlt : lo < hi
    · obtain ⟨m, hmm⟩ : ∃ m, m = (lo + hi) / 2 := ⟨_, rfl⟩
      have hm1 : lo ≤ m := by omega
      have hm2 : m < hi := by omega
      have hmz : ((lo : Int) + (hi : Int)) / 2 = (m : Int) := by omega
      have hc := HF.out wr m HB.out (by omega)
      clear hmm
      have HC := Lib.hid hc
      clear hc
      cases hp : p m with
      | false =>
        have HI2 := Lib.hid (show (∀ t, t < m + 1 → p t = false) ∧ (∀ t, hi ≤ t → t < n → p t = true) from ⟨fun t ht => by
          rcases hpt : p t with _ | _
          · rfl
          · have := HM.out t m (by omega) (by omega) hpt
            rw [hp] at this
            exact absurd this (by decide), HI.out.2⟩)
        have HP := Lib.hid hp
        clear hp
        go_wp2_with fail
        refine HC.out.mono ?_
        rw [HP.out]
        rintro e w1 ⟨rfl, hb1⟩
        have HB1 := Lib.hid (HB.out.trans (hb1.mono HB.out.size))
        clear hb1
        go_wp2
        go_roundw
        case rel => exact ⟨m + 1, hi, by go_num, rfl, by omega, hin, HI2, HB1⟩
        case measure => simp [intOf]; omega
      | true =>
        have HI2 := Lib.hid (show (∀ t, t < lo → p t = false) ∧ (∀ t, m ≤ t → t < n → p t = true) from ⟨HI.out.1, fun t h1 h2 => HM.out m t h1 h2 hp⟩)
        have HP := Lib.hid hp
        clear hp
        go_wp2_with fail
        refine HC.out.mono ?_
        rw [HP.out]
        rintro e w1 ⟨rfl, hb1⟩
        have HB1 := Lib.hid (HB.out.trans (hb1.mono HB.out.size))
        clear hb1
        go_wp2
        go_roundw
        case rel => exact ⟨lo, m, rfl, rfl, by omega, by omega, HI2, HB1⟩
        case measure => simp [intOf]; omega
    · have hee : hi = lo := by omega
      subst hee
      go_wp2
      go_ret
      exact ⟨hi, rfl, hin, HI.out.1, HI.out.2, HB.out⟩
theorem one_box (w : World) (v : Value) (t : TypeId) : (w.alloc (.cells #[v] t)).cell? ⟨w.heap.size, 0, none⟩ = some v := by
  have hh := heap_alloc_new w (.cells #[v] t)
  simp only [World.cell?, hh]
  rfl
/-- Where an end stands. -/
def Stands (l : List ArcD) (to r : Nat) (bb : Bool) : Prop :=
  r ≤ l.length ∧ (∀ t q, l[t]? = some q → t < r → q.to < to) ∧ (∀ t q, l[t]? = some q → r ≤ t → to ≤ q.to) ∧ bb = (match l[r]? with | some q => decide (q.to = to) | none => false)
set_option maxRecDepth 100000 in
set_option maxHeartbeats 1000000 in
theorem find_any (L : Option Addr) (n c : Nat) (l : List ArcD) (to : Nat) (w : World) (hl : l.length = n) (hn : n ≤ 4294967296) (hr : Arcs w w.heap.size L l) (hri : rises 0 l = true) :
    Calls Try.prog 39 #[.slice L n c, .int .u32 (to : Int)] w fun e w' => ∃ (r : Nat) (bb : Bool), e = .returned (.tuple #[.int .i64 (r : Int), .bool bb]) ∧ Stands l to r bb ∧ Below w.heap.size w w' := by
  have HL := Lib.hid hl
  have HR := Lib.hid hr
  have HRI := Lib.hid hri
  clear hl hr hri
  have hb0 : Below w.heap.size w ((w.alloc (.cells #[.slice L n c] 36)).alloc (.cells #[.int .u32 (to : Int)] 23)) := ((Below.refl _ _).alloc (Nat.le_refl _) _).alloc (by simp) _
  have hk0 : ((w.alloc (.cells #[.slice L n c] 36)).alloc (.cells #[.int .u32 (to : Int)] 23)).cell? ⟨w.heap.size, 0, none⟩ = some (.slice L n c) := (World.cell?_alloc_lt _ _ _ (by simp)).trans (one_box w _ _)
  have hk1 : ((w.alloc (.cells #[.slice L n c] 36)).alloc (.cells #[.int .u32 (to : Int)] 23)).cell? ⟨w.heap.size + 1, 0, none⟩ = some (.int .u32 (to : Int)) := by
    have := one_box (w.alloc (.cells #[.slice L n c] 36)) (.int .u32 (to : Int)) 23
    rwa [World.size_alloc] at this
  have hs0 : w.heap.size + 1 < ((w.alloc (.cells #[.slice L n c] 36)).alloc (.cells #[.int .u32 (to : Int)] 23)).heap.size := by simp
  have HB0 := Lib.hid hb0
  have HK0 := Lib.hid hk0
  have HK1 := Lib.hid hk1
  clear hb0
  go_enter Try.func39, Try.ntmps39
  go_wp2_with fail
  generalize (w.alloc (.cells #[.slice L n c] 36)).alloc (.cells #[.int .u32 (to : Int)] 23) = w0 at *
  refine (search_any n 62 #[.pointer (some ⟨w.heap.size, 0, none⟩), .pointer (some ⟨w.heap.size + 1, 0, none⟩)] (upTo l to) w0 (Go.Proofs.enters_of Try.func62 (by kernel_rfl) rfl) (by omega) ?_ ?_).mono ?_
  · intro W i hW hi
    have hi' : i < l.length := by rw [HL.out]; exact hi
    have hBW := HB0.out.trans (hW.mono HB0.out.size)
    obtain ⟨a, q, rfl, hq, -, c0, -, -, -⟩ := (HR.out.below hBW).at hi'
    rw [upTo_at hq]
    exact closure_any w.heap.size (w.heap.size + 1) a n c i q to W hi ((hW.cell (p := ⟨w.heap.size, 0, none⟩) (by show w.heap.size < _; omega)).trans HK0.out) ((hW.cell (p := ⟨w.heap.size + 1, 0, none⟩) hs0).trans HK1.out) c0
  · intro a b hab hb
    exact upTo_mono HRI.out to a b hab (by rw [HL.out]; exact hb)
  · rintro e w1 ⟨r, rfl, hrn, hlo, hhi, hb1⟩
    have hBW := HB0.out.trans (hb1.mono HB0.out.size)
    have k0 := (hb1.cell (p := ⟨w.heap.size, 0, none⟩) (by show w.heap.size < _; omega)).trans HK0.out
    have k1 := (hb1.cell (p := ⟨w.heap.size + 1, 0, none⟩) hs0).trans HK1.out
    have hst1 : ∀ t q, l[t]? = some q → t < r → q.to < to := fun t q hq ht => by
      have := hlo t ht
      rw [upTo_at hq] at this
      simpa using this
    have hst2 : ∀ t q, l[t]? = some q → r ≤ t → to ≤ q.to := fun t q hq ht => by
      have := hhi t ht (by rw [← HL.out]; exact (List.getElem?_eq_some_iff.1 hq).1)
      rw [upTo_at hq] at this
      simpa using this
    have HS1 := Lib.hid hst1
    have HS2 := Lib.hid hst2
    have HBW := Lib.hid hBW
    clear hlo hhi hb1 hst1 hst2 hBW hk0 hk1
    by_cases hlt : r < n
    · have hlt' : r < l.length := by rw [HL.out]; exact hlt
      obtain ⟨a, q, rfl, hq, -, c0, -, -, -⟩ := (HR.out.below HBW.out).at hlt'
      have HQ := Lib.hid hq
      have HD := Lib.hid (show (match l[r]? with | some q => decide (q.to = to) | none => false) = ((q.to : Int) == (to : Int)) by
        rw [hq]
        simp only
        by_cases e : q.to = to
        · simp [e]
        · have e1 : decide (q.to = to) = false := by simpa using e
          have e2 : ((q.to : Int) == (to : Int)) = false := by rw [beq_eq_false_iff_ne]; omega
          rw [e1, e2])
      clear hq hlt'
      go_wp2
      go_region
      all_goals
        go_wp2
        exact bodyPost_ret (v := .tuple #[.int .i64 (r : Int), .bool ((q.to : Int) == (to : Int))]) (by simp [results, Try.results39, go_sem]) rfl ⟨r, _, rfl, ⟨by rw [HL.out]; exact hrn, HS1.out, HS2.out, HD.out.symm⟩, HBW.out.drew⟩
    · have HD := Lib.hid (show (match l[r]? with | some q => decide (q.to = to) | none => false) = false by
        rw [List.getElem?_eq_none (by rw [HL.out]; omega)])
      go_wp2
      go_region
      all_goals
        go_wp2
        exact bodyPost_ret (v := .tuple #[.int .i64 (r : Int), .bool false]) (by simp [results, Try.results39, go_sem]) rfl ⟨r, _, rfl, ⟨by rw [HL.out]; exact hrn, HS1.out, HS2.out, HD.out.symm⟩, HBW.out.drew⟩
end Go.Proofs.Yteaibgnelnblnaa
end
