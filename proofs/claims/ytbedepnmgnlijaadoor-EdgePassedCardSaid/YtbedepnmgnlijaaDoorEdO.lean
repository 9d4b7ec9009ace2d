/- edge.One: a line's edge. -/
import Derived.Test.YtbedepnmgnlijaaDoorEdN
namespace Go.Proofs.YtbedepnmgnlijaaDoor
open Go.RowKit Me Tx Ed Go.Shelf Go.Lib

/-- Is a line of these words passed over? -/
def Ed.skipS : List (List UInt8) → Bool
  | [] => true
  | a :: _ => decide (a.headD 0 = 35)
theorem hasPrefix_note (l : List UInt8) : Lib.hasPrefix l [35] = decide (l.headD 0 = 35) := by
  cases l with
  | nil => rfl
  | cons a l =>
    by_cases h : a = 35
    · subst h; simp [Lib.hasPrefix]
    · have h2 : (35 == a) = false := beq_eq_false_iff_ne.2 fun e => h e.symm
      simp [Lib.hasPrefix, h, List.isPrefixOf, h2]
set_option maxRecDepth 100000 in
theorem skip_any (A : Option Addr) (n c : Nat) (ws : List (List UInt8)) (hn : ws.length = n) (w : World) (hr : Cs w w.heap.size A (ws.map sv)) :
    Calls Tryd.prog 20 #[.slice A n c] w fun e w' => e = .returned (.bool (skipS ws)) ∧ w' = w := by
  cases ws with
  | nil =>
    have h0 : n = 0 := by rw [← hn]; rfl
    subst h0
    clear hr hn
    go_enter Tryd.func20, Tryd.ntmps20
    go_wp2
    go_ret
    exact ⟨rfl, rfl⟩
  | cons x r =>
    have h0 : 0 < n := by rw [← hn]; simp
    have h1 : ¬ (n : Int) = 0 := by omega
    have h2 : (0 : Int) < (n : Int) := by omega
    obtain ⟨a, rfl, -, q⟩ := hr (by simp)
    have y0 : w.cell? a = some (sv x) := q 0 _ rfl
    have HP := Lib.hid (show Lib.hasPrefix x [35] = skipS (x :: r) from hasPrefix_note x)
    clear hr hn q
    go_enter Tryd.func20, Tryd.ntmps20
    go_wp2_with fail
    refine (Tryd.strings_HasPrefix ⟨x.toArray⟩ ⟨#[35]⟩ w).mono ?_
    rintro e w1 ⟨rfl, rfl⟩
    rw [show Lib.hasPrefix (⟨x.toArray⟩ : ByteArray).data.toList (⟨#[35]⟩ : ByteArray).data.toList = Lib.hasPrefix x [35] from rfl, HP.out]
    go_wp2
    go_ret
    have h3 : ((n : Int) == 0) = false := by simp; omega
    exact ⟨by simp [h3], rfl⟩
theorem wordsG_short : ∀ (l c : List UInt8), ∀ x ∈ wordsG c l, x.length ≤ c.length + l.length
  | [], c => fun x hx => by
    rw [wordsG] at hx
    split at hx
    · simp at hx
    · rw [List.mem_singleton.1 hx]; simp
  | u :: l, c => fun x hx => by
    rw [wordsG] at hx
    split at hx
    · split at hx
      · have := wordsG_short l [] x hx
        simp at this ⊢; omega
      · rcases List.mem_cons.1 hx with rfl | hx
        · simp
        · have := wordsG_short l [] x hx
          simp at this ⊢; omega
    · have := wordsG_short l _ x hx
      simp at this ⊢; omega
/-- An edge, whether there is one, and the error are answered. -/
def EdPost (w : World) (r : EdD × Bool × Int) (e : Ending) (w' : World) : Prop := e = .returned (.tuple #[Ed.agg r.1, .bool r.2.1, .int .i64 r.2.2]) ∧ Below w.heap.size w w'
theorem blk3 {w : World} {b : Nat} {v0 v1 v2 : Value} (h : Blk w b [v0, v1, v2]) :
    w.cell? ⟨b, 0, none⟩ = some v0 ∧ w.cell? ⟨b, 1, none⟩ = some v1 ∧ w.cell? ⟨b, 2, none⟩ = some v2 ∧ w.frozen? ⟨b, 0, none⟩ = false ∧ w.frozen? ⟨b, 1, none⟩ = false ∧ w.frozen? ⟨b, 2, none⟩ = false :=
  ⟨h.cell (i := 0) rfl, h.cell (i := 1) rfl, h.cell (i := 2) rfl, h.frozen 0, h.frozen 1, h.frozen 2⟩
set_option maxRecDepth 100000 in
set_option maxHeartbeats 1000000 in
theorem one_any (s : ByteArray) (hs : s.size ≤ 1073741824) (w : World) (hE : Evs w) :
    Calls Tryd.prog 10 #[.string s] w (EdPost w (oneS s.data.toList)) := by
  obtain ⟨W0, hW0⟩ : ∃ W0, w.alloc (.cells #[.int .u32 0, .int .u32 0, .int .u32 0] 25) = W0 := ⟨_, rfl⟩
  have b0 : Blk W0 w.heap.size [.int .u32 0, .int .u32 0, .int .u32 0] := by rw [← hW0]; exact Blk.new w [.int .u32 0, .int .u32 0, .int .u32 0] _
  have hb0 : Below w.heap.size w W0 := by rw [← hW0]; exact (Below.refl _ w).alloc (Nat.le_refl _) _
  obtain ⟨ws, hws⟩ : ∃ ws, ws = wordsG [] s.data.toList := ⟨_, rfl⟩
  have hsh : ∀ x ∈ ws, x.length ≤ 1073741824 := fun x hx => by
    rw [hws] at hx
    have h := wordsG_short s.data.toList [] x hx
    rw [len_eq] at h
    simp at h; omega
  have HO := Lib.hid (show oneS s.data.toList = wordsS ws by rw [hws]; rfl)
  have HWS := Lib.hid hws
  have HSH := Lib.hid hsh
  have HW0 := Lib.hid hW0
  have HB0 := Lib.hid (And.intro b0 hb0)
  have HE := Lib.hid (hE.below hb0)
  rw [HO.out]
  clear hws hsh hW0 b0 hb0 hE
  go_enter Tryd.func10, Tryd.ntmps10
  go_wp2_with fail
  rw [HW0.out]
  refine (words_any s (by omega) W0).mono ?_
  rw [← HWS.out]
  rintro e w1 ⟨A, c, rfl, hc, ho, hb1⟩
  have HC := Lib.hid (Cs.of_own ho)
  have HB1 := Lib.hid (And.intro (HB0.out.1.past hb1) (HB0.out.2.trans (hb1.mono HB0.out.2.size)))
  have HE1 := Lib.hid (HE.out.below hb1)
  obtain ⟨n, hn⟩ : ∃ n, n = ws.length := ⟨_, rfl⟩
  rw [← hn]
  have HN := Lib.hid hn.symm
  clear ho hb1 hc hn HB0 HE
  obtain ⟨y0, y1, y2, f0, f1, f2⟩ := blk3 HB1.out.1
  go_wp2_with fail
  refine (skip_any A n c ws HN.out w1 HC.out).mono ?_
  rintro e w2 ⟨rfl, rfl⟩
  cases hsk : skipS ws with
  | true =>
    have HP := Lib.hid (show wordsS ws = (noEd, false, 0) by
      cases ws with
      | nil => rfl
      | cons a r => exact words_note (by simpa [skipS] using hsk))
    clear hsk
    go_wp2
    have r := blk_three (u0 := .int .u32 0) (u1 := .int .u32 0) (u2 := .int .u32 0) HB1.out.1
    have r0 := r.cell (i := 0) rfl
    have r1 := r.cell (i := 1) rfl
    have r2 := r.cell (i := 2) rfl
    refine bodyPost_ret (v := .tuple #[.agg #[.int .u32 0, .int .u32 0, .int .u32 0], .bool false, .int .i64 0]) (by simp [results, Tryd.results10, go_sem, r0, r1, r2]) rfl ?_
    unfold EdPost
    rw [HP.out]
    exact ⟨rfl, below_three HB1.out.2 (Nat.le_refl _)⟩
  | false =>
    obtain ⟨a, r, hw⟩ : ∃ a r, ws = a :: r := by
      cases ws with
      | nil => simp [skipS] at hsk
      | cons a r => exact ⟨a, r, rfl⟩
    have ha : a.headD 0 ≠ 35 := by rw [hw] at hsk; simpa [skipS] using hsk
    by_cases hlen : n < 2 ∨ 3 < n
    · have HP := Lib.hid (show wordsS ws = (noEd, false, 12) by
        have hn := HN.out
        rw [hw] at hn ⊢
        rcases hlen with h | h
        · have : r = [] := by
            cases r with
            | nil => rfl
            | cons b r => simp at hn; omega
          rw [this]; exact words_short ha
        · cases r with
          | nil => simp at hn; omega
          | cons b r => exact words_much (by simp at hn; omega) ha)
      have hq : (n : Int) < 2 ∨ (¬ (n : Int) < 2 ∧ 3 < (n : Int)) := by omega
      clear hsk hw ha hlen
      rcases hq with q1 | ⟨q1, q2⟩
      all_goals
        go_wp2
        have r := blk_three (u0 := .int .u32 0) (u1 := .int .u32 0) (u2 := .int .u32 0) HB1.out.1
        have r0 := r.cell (i := 0) rfl
        have r1 := r.cell (i := 1) rfl
        have r2 := r.cell (i := 2) rfl
        refine bodyPost_ret (v := .tuple #[.agg #[.int .u32 0, .int .u32 0, .int .u32 0], .bool false, .int .i64 12]) (by simp [results, Tryd.results10, go_sem, r0, r1, r2]) rfl ?_
        unfold EdPost
        rw [HP.out]
        exact ⟨rfl, below_three HB1.out.2 (Nat.le_refl _)⟩
    · have q1 : ¬ (n : Int) < 2 := by omega
      have q2 : ¬ 3 < (n : Int) := by omega
      have hn3 : n ≤ 3 := by omega
      obtain ⟨R, hR⟩ : ∃ R, parsS 0 ws [0, 0, 1] = R := ⟨_, rfl⟩
      have hP : wordsS ws = if R.2 ≠ 0 then (noEd, false, R.2) else (⟨R.1.getD 0 0, R.1.getD 1 0, R.1.getD 2 0⟩, true, 0) := by
        have hn := HN.out
        rw [← hR]
        rw [hw] at hn ⊢
        cases r with
        | nil => simp at hn; omega
        | cons b r => exact words_pars (by simp at hn; omega) ha
      have hfit := wordsS_fits ws
      rw [hP] at hfit
      have HFI := Lib.hid hfit
      have HP := Lib.hid hP
      have HR := Lib.hid hR
      clear hsk hw ha hlen hR hP hfit
      go_wp2_with fail
      refine (parse_any A n c ws HN.out hn3 HSH.out w2 HE1.out HC.out).mono ?_
      rw [HR.out]
      rintro e w3 ⟨rfl, hb3⟩
      obtain ⟨L, er⟩ := R
      obtain ⟨n0, hn0⟩ : ∃ x, x = L.getD 0 0 := ⟨_, rfl⟩
      obtain ⟨n1, hn1⟩ : ∃ x, x = L.getD 1 0 := ⟨_, rfl⟩
      obtain ⟨n2, hn2⟩ : ∃ x, x = L.getD 2 0 := ⟨_, rfl⟩
      have hP := HP.out
      have hfit := HFI.out
      simp only at hP hfit
      rw [← hn0, ← hn1, ← hn2] at hP hfit
      simp only
      rw [← hn0, ← hn1, ← hn2]
      have c3 := HB1.out.1.past hb3
      have hbw : Below w.heap.size w w3 := HB1.out.2.trans (hb3.mono HB1.out.2.size)
      have HB4 := Lib.hid (And.intro c3 hbw)
      have hlt : w.heap.size < w3.heap.size := by have := c3.lt; exact this
      obtain ⟨z0, z1, z2, g0, g1, g2⟩ := blk3 c3
      clear y0 y1 y2 f0 f1 f2 hb3 c3 hbw HP HFI HB1 HR hn0 hn1 hn2
      by_cases he : er = 0
      · subst he
        rw [if_neg (by simp)] at hP hfit
        have HP := Lib.hid hP
        obtain ⟨k0, k1, k2⟩ := hfit
        simp only at k0 k1 k2
        have m0 : (n0 : Int) % 4294967296 = (n0 : Int) := by omega
        have m1 : (n1 : Int) % 4294967296 = (n1 : Int) := by omega
        have m2 : (n2 : Int) % 4294967296 = (n2 : Int) := by omega
        clear hP k0 k1 k2
        go_wp2
        have r := (blk_three (u0 := .int .u32 (n0 : Int)) (u1 := .int .u32 (n1 : Int)) (u2 := .int .u32 (n2 : Int)) HB4.out.1).alloc (.cells #[.int .u64 (n0 : Int), .int .u64 (n1 : Int), .int .u64 (n2 : Int)] 51)
        have r0 := r.cell (i := 0) rfl
        have r1 := r.cell (i := 1) rfl
        have r2 := r.cell (i := 2) rfl
        refine bodyPost_ret (v := .tuple #[.agg #[.int .u32 (n0 : Int), .int .u32 (n1 : Int), .int .u32 (n2 : Int)], .bool true, .int .i64 0]) (by simp [results, Tryd.results10, go_sem, r0, r1, r2]) rfl ?_
        unfold EdPost
        rw [HP.out]
        exact ⟨rfl, (below_three HB4.out.2 (Nat.le_refl _)).alloc (by simp [World.setCell]; omega) _⟩
      · rw [if_pos he] at hP
        have HP := Lib.hid hP
        clear hP hfit
        go_wp2
        have r := (blk_three (u0 := .int .u32 0) (u1 := .int .u32 0) (u2 := .int .u32 0) HB4.out.1).alloc (.cells #[.int .u64 (n0 : Int), .int .u64 (n1 : Int), .int .u64 (n2 : Int)] 51)
        have r0 := r.cell (i := 0) rfl
        have r1 := r.cell (i := 1) rfl
        have r2 := r.cell (i := 2) rfl
        refine bodyPost_ret (v := .tuple #[.agg #[.int .u32 0, .int .u32 0, .int .u32 0], .bool false, .int .i64 er]) (by simp [results, Tryd.results10, go_sem, r0, r1, r2]) rfl ?_
        unfold EdPost
        rw [HP.out]
        exact ⟨rfl, (below_three HB4.out.2 (Nat.le_refl _)).alloc (by simp [World.setCell]; omega) _⟩
end Go.Proofs.YtbedepnmgnlijaaDoor
