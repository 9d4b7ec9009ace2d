/- The same sections; the example; whether there is more than is gone through. -/
import Derived.Test.YtinalnjekbfifaaRefFAll
namespace Go.Proofs.Ytinalnjekbfifaa
open Go.RowKit Cr Me Fr

/-- What is known of each slot of the comparison. -/
def sameG (A A' : Option Addr) (a a' : Addr) (X X' : Option Addr) (n c c' k m d d' : Nat) (s : SecD) : Gw.Fact := fun t v _ =>
  match t with
  | 0 | 16 | 28 => v = .slice A n c
  | 1 | 21 | 34 => v = .slice A' n c'
  | 5 | 17 | 22 | 29 | 35 => v = .int .i64 (k : Int)
  | 18 | 19 | 30 => v = .pointer (some (a.add (k * 2)))
  | 23 | 24 | 36 => v = .pointer (some (a'.add (k * 2)))
  | 31 => v = .pointer (some ⟨(a.add (k * 2)).block, (a.add (k * 2)).off + 1, none⟩)
  | 37 => v = .pointer (some ⟨(a'.add (k * 2)).block, (a'.add (k * 2)).off + 1, none⟩)
  | 20 | 25 => v = .int .u8 (s.kind.toNat : Int)
  | 32 => v = .slice X m d
  | 38 => v = .slice X' m d'
  | 33 | 39 => v = .string ⟨s.body.toArray⟩
  | 26 | 27 | 40 | 41 => v = .bool false
  | _ => True
set_option maxRecDepth 100000 in
set_option maxHeartbeats 1000000 in
theorem ssame_any (A A' : Option Addr) (n c c' : Nat) (l : List SecD) (w : World) (hl : l.length = n) (hn : n ≤ 4294967296) (h : Secs w w.heap.size A l) (h' : Secs w w.heap.size A' l) :
    Calls Try.prog 12 #[.slice A n c, .slice A' n c'] w fun e w' => e = .returned (.bool true) ∧ Below w.heap.size w w' := by
  have HL := Lib.hid hl
  have HA := Lib.hid h
  have HA' := Lib.hid h'
  have hb0 := Lib.hid (Below.refl w.heap.size w)
  clear hl h h'
  go_enter Try.func12, Try.ntmps12
  go_wp2
  go_loopw [13] (fun i wr => ∃ k : Nat, k ≤ n ∧ i = .int .i64 k ∧ Hid (Below w.heap.size w wr)) (fun i _ => n - (intOf i).toNat)
  case atStart => exact ⟨0, Nat.zero_le _, rfl, hb0⟩
  case round =>
    obtain ⟨k, hk, rfl, HBW⟩ := hrel
    by_cases hlt : k < n
    · have hlt' : k < l.length := by rw [HL.out]; exact hlt
      obtain ⟨a, s, X, m, d, rfl, hs, hab, h0, h1, hm, hm63, hx⟩ := HA.out.at hlt'
      obtain ⟨a', s', X', m', d', rfl, hs', hab', h0', h1', hm', hm63', hx'⟩ := HA'.out.at hlt'
      rw [hs] at hs'
      injection hs' with hs'
      subst hs'
      have e1 : m' = m := by rw [← hm, ← hm']
      subst e1
      have HM := Lib.hid hm
      have HX := Lib.hid hx
      have HX' := Lib.hid hx'
      have HC := Lib.hid (And.intro h0 (And.intro h1 (And.intro h0' h1')))
      have q0 : (0 : Int) ≤ (k : Int) := by omega
      have q1 : (k : Int) < (n : Int) := by omega
      clear hs hm hx hx' hm' h0 h1 h0' h1' hlt'
      go_wp2_with fail
      refine Gw.wp_region_grow (sameG (some a) (some a') a a' X X' n c c' k m' d d' s) [16, 17, 18, 19, 20, 21, 22, 23, 24, 25, 26, 27, 28, 29, 30, 31, 32, 33, 34, 35, 36, 37, 38, 39, 40, 41] [([0], none), ([5], none), ([16, 17], none), ([18], none), ([19], none), ([1], none), ([5], none), ([21, 22], none), ([23], none), ([24], none), ([20, 25], none), ([26], none), ([0, 27], some (27, false)), ([5, 27], some (27, false)), ([28, 29, 27], some (27, false)), ([30, 27], some (27, false)), ([31, 27], some (27, false)), ([32, 27], some (27, false)), ([1, 27], some (27, false)), ([5, 27], some (27, false)), ([34, 35, 27], some (27, false)), ([36, 27], some (27, false)), ([37, 27], some (27, false)), ([38, 27], some (27, false)), ([33, 39, 27], some (27, false)), ([27, 40], none)] 43 (by kernel_rfl) (by kernel_rfl) rfl ?h0 ?hreq ?hend
      case h0 =>
        intro t W hnd _
        unfold sameG
        split <;> first | rfl | trivial | exact absurd (by simp) hnd
      case hreq =>
        refine ⟨?_, ?_, ?_, ?_, ?_, ?_, ?_, ?_, ?_, ?_, ?_, ?_, ?_, ?_, ?_, ?_, ?_, ?_, ?_, ?_, ?_, ?_, ?_, ?_, ?_, ?_, trivial⟩
        all_goals
          intro ac W hg hk
          have hb := HBW.out.trans (Below.mono (show Below wr.heap.size wr W from hg) HBW.out.size)
          have k0 := (hb.cell (p := a.add (k * 2)) (by rw [block_add]; exact hab)).trans HC.out.1
          have k1 := (hb.cell (p := ⟨(a.add (k * 2)).block, (a.add (k * 2)).off + 1, none⟩) (by show (a.add (k * 2)).block < _; rw [block_add]; exact hab)).trans HC.out.2.1
          have k0' := (hb.cell (p := a'.add (k * 2)) (by rw [block_add]; exact hab')).trans HC.out.2.2.1
          have k1' := (hb.cell (p := ⟨(a'.add (k * 2)).block, (a'.add (k * 2)).off + 1, none⟩) (by show (a'.add (k * 2)).block < _; rw [block_add]; exact hab')).trans HC.out.2.2.2
          have e2 := str_any X m' d s.body W _ HM.out (HX.out.below hb)
          have e3 := str_any X' m' d' s.body W _ HM.out (HX'.out.below hb)
          simp only [Gw.Knows, sameG] at hk
          try (simp [go_sem, Gw.OpReq, Gw.Ok, Gw.Post, Gw.Holds, sameG, Gw.Grows.refl, hk, k0, k1, k0', k1', e2, e3, hlt]; done)
      case hend =>
        intro x w' hg hx
        have h41 : x 41 = .bool false := (hx 41 (by simp)).now
        have HB2 := Lib.hid (HBW.out.trans (Below.mono (show Below wr.heap.size wr w' from hg) HBW.out.size))
        clear hx hg
        simp only [Gw.putAll, Act.put, List.setIfInBounds_toArray, List.set_cons_zero, List.set_cons_succ]
        rw [h41]
        go_wp2
        go_roundw
        case rel => exact ⟨k + 1, by omega, by go_num, HB2⟩
        case measure => simp [intOf]; omega
    · go_wp2
      go_ret
      exact ⟨rfl, HBW.out⟩

def sec7 : SecD := ⟨7, []⟩
theorem sec7_bytes : ∃ t, encS sec7 = 7 :: t := ⟨_, rfl⟩
set_option maxRecDepth 100000 in
set_option maxHeartbeats 400000 in
theorem awake_any (w : World) : Calls Try.prog 8 #[] w fun e w' => e = .returned (.bool true) ∧ Below w.heap.size w w' := by
  go_enter Try.func8, Try.ntmps8
  go_wp2_with fail
  refine (fput_good none 0 0 [] none 0 0 sec7 w rfl (by omega) Rd.empty rfl (by omega) Rd.empty).mono ?_
  rw [List.nil_append]
  intro e w1 h
  obtain ⟨A, n, c, rfl, hl, hc, -, hr, hb⟩ := h.open
  have hn : n = 13 := by rw [← hl, encS_length]; rfl
  subst hn
  obtain ⟨a, u, rfl, -, hu, hcell⟩ := hr.at (k := 0) (by rw [hl]; omega)
  obtain ⟨t, ht⟩ := sec7_bytes
  rw [ht] at hu
  have hu7 : u = 7 := by simpa using hu.symm
  subst hu7
  have c0 : w1.cell? ⟨a.block, a.off, a.spot⟩ = some (.int .u8 7) := hcell
  have HB := Lib.hid hb
  clear h hl hr hb hu ht hcell
  go_wp2
  go_ret
  exact ⟨rfl, HB.out⟩
/-- How much is gone through: of each Body at most 3000 bytes, up to more than 2000. -/
def countS : Nat → List SecD → Nat
  | n, [] => n
  | n, s :: l => if n ≤ 2000 then countS (n + min s.body.length 3000) l else n
def greatB (l : List SecD) : Bool := decide (2000 < countS 0 l) || decide (50 < l.length)
theorem countS_step {n : Nat} {l : List SecD} {k : Nat} {s : SecD} (hs : l[k]? = some s) (hn : n ≤ 2000) : countS n (l.drop k) = countS (n + min s.body.length 3000) (l.drop (k + 1)) := by
  obtain ⟨hk, e⟩ := List.getElem?_eq_some_iff.1 hs
  rw [List.drop_eq_getElem_cons hk, countS, if_pos hn, e]
theorem countS_over {n : Nat} {l : List SecD} (hn : ¬ n ≤ 2000) : countS n l = n := by
  cases l with
  | nil => rfl
  | cons s l => rw [countS, if_neg hn]
theorem countS_le : ∀ (l : List SecD) (n : Nat), countS n l ≤ 2000 → n + (l.map (fun s => s.body.length)).sum ≤ 2000
  | [], n, h => by simpa [countS] using h
  | s :: l, n, h => by
    rw [countS] at h
    split at h
    · have := countS_le l _ h
      simp only [List.map_cons, List.sum_cons]
      omega
    · omega
theorem great_false {l : List SecD} (h : greatB l = false) : (l.map (fun s => s.body.length)).sum ≤ 2000 ∧ l.length ≤ 50 := by
  unfold greatB at h
  simp at h
  have := countS_le l 0 (by omega)
  omega
set_option maxRecDepth 100000 in
set_option maxHeartbeats 400000 in
theorem great_any (A : Option Addr) (n c : Nat) (l : List SecD) (w : World) (hl : l.length = n) (hn : n ≤ 9223372036854775807) (h : Secs w w.heap.size A l) :
    Calls Try.prog 7 #[.slice A n c] w fun e w' => e = .returned (.bool (greatB l)) ∧ w = w' := by
  have HL := Lib.hid hl
  have HA := Lib.hid h
  have d50 : decide ((50 : Int) < (n : Int)) = decide (50 < n) := by
    by_cases h : 50 < n
    · simp [h]; omega
    · simp [h]; omega
  have HG := Lib.hid (show greatB l = (decide (2000 < countS 0 (l.drop 0)) || decide (50 < n)) by unfold greatB; rw [hl]; rfl)
  clear hl h
  go_enter Try.func7, Try.ntmps7
  go_wp2
  go_loop [3, 4] (fun x i => ∃ k : Nat, k ≤ n ∧ i = .int .i64 k ∧ ∃ s : Nat, s ≤ 5000 ∧ Hid (countS s (l.drop k) = countS 0 (l.drop 0)) ∧ x = .int .i64 (s : Int)) (fun _ i => n - (intOf i).toNat)
  case atStart => exact ⟨0, Nat.zero_le _, rfl, 0, by omega, Lib.hid rfl, rfl⟩
  case round =>
    obtain ⟨k, hk, rfl, s, hs, HS, rfl⟩ := hrel
    by_cases hlt : k < n
    · by_cases hle : s ≤ 2000
      · have hlt' : k < l.length := by rw [HL.out]; exact hlt
        obtain ⟨a, p, X, m, d, rfl, hp, -, h0, h1, hm, hm63, -⟩ := HA.out.at hlt'
        have d1 : decide ((s : Int) ≤ 2000) = true := by simp; omega
        obtain ⟨t, ht⟩ : ∃ t, t = min m 3000 := ⟨_, rfl⟩
        have htz : (if (3000 : Int) < (m : Int) then 3000 else (m : Int)) = (t : Int) := by split <;> omega
        have ht3 : t ≤ 3000 := by omega
        have HN := Lib.hid (show countS (s + t) (l.drop (k + 1)) = countS 0 (l.drop 0) by rw [← HS.out, countS_step hp hle, hm, ht])
        clear hp hm hlt' ht
        go_wp2
        go_round
        case rel => exact ⟨k + 1, by omega, by go_num, s + t, by omega, HN, by go_num⟩
        case measure => simp [intOf]; omega
      · have d1 : decide ((s : Int) ≤ 2000) = false := by simp; omega
        have d2 : decide ((2000 : Int) < (s : Int)) = true := by simp; omega
        have HE := Lib.hid (show greatB l = true by
          rw [HG.out, ← HS.out, countS_over hle, decide_eq_true (by omega : 2000 < s)]; rfl)
        go_wp2
        go_ret
        exact ⟨by rw [HE.out]; rfl, rfl⟩
    · have hkn : l.drop k = [] := List.drop_of_length_le (by rw [HL.out]; omega)
      by_cases hle : s ≤ 2000
      · have d2 : decide ((2000 : Int) < (s : Int)) = false := by simp; omega
        have HE := Lib.hid (show greatB l = decide (50 < n) by
          rw [HG.out, ← HS.out, hkn, countS, decide_eq_false (by omega : ¬ 2000 < s)]; rfl)
        clear hkn
        go_wp2
        go_ret
        exact ⟨by rw [HE.out]; rfl, rfl⟩
      · have d2 : decide ((2000 : Int) < (s : Int)) = true := by simp; omega
        have HE := Lib.hid (show greatB l = true by
          rw [HG.out, ← HS.out, countS_over hle, decide_eq_true (by omega : 2000 < s)]; rfl)
        clear hkn
        go_wp2
        go_ret
        exact ⟨by rw [HE.out]; rfl, rfl⟩
end Go.Proofs.Ytinalnjekbfifaa
