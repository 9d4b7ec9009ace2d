/- An act of the law's. -/
import Derived.Test.YtjphjlbbeammnaaAwakeE
import Derived.Test.YtjphjlbbeammnaaActE
namespace Go.Proofs.Ytjphjlbbeammnaa
open Go.RowKit Me Ex

/-- The map behind an act; whether it is answered as the document says; the document's blocks behind it. -/
def actK (k : List Bool) (a : AE) : List Bool := if a.kind = 0 then (turnD k a.l true).1 else if a.kind = 1 then (turnD k a.l false).1 else (takeD k a.n).1
def actB (k k2 : List Bool) (a : AE) : Bool :=
  if a.kind = 0 then (turnD k a.l true).2 == (turnD k2 a.l true).2 else if a.kind = 1 then (turnD k a.l false).2 == (turnD k2 a.l false).2
  else decide ((takeD k a.n).2.1 = (takeD k2 a.n).2.1) && ((takeD k a.n).2.2 == (takeD k2 a.n).2.2)
theorem actB_same (k : List Bool) (a : AE) : actB k k a = true := by
  unfold actB
  split
  · simp
  · split <;> simp
theorem actK_length (k : List Bool) (a : AE) : (actK k a).length = k.length := by
  unfold actK
  split
  · exact turnD_length _ _ _
  · split
    · exact turnD_length _ _ _
    · exact takeD_length _ _
/-- What an act leaves. -/
def DoesPost (w : World) (B D : Nat) (own : Nat → Prop) (k : List Bool) (b : Bool) (k2 : List Bool) (e : Ending) (w' : World) : Prop :=
  ∃ A n c, e = .returned (.tuple #[.bool b, .slice A n c]) ∧ k2.length = n ∧ n ≤ c ∧ Cz w' own A (bcells k2) ∧ MPost w B D k own w'
theorem cz_of_cs {w : World} {B : Nat} {S : Nat → Prop} {A : Option Addr} {vs : List Value} (h : Cs w B A vs) (hB : B ≤ w.heap.size) (hS : ∀ j, S j → B ≤ j) : Cz w S A vs := fun hn => by
  obtain ⟨a, e, hb, hc⟩ := h hn
  exact ⟨a, e, by omega, fun hs => by have := hS _ hs; omega, hc⟩
set_option maxRecDepth 100000 in
set_option maxHeartbeats 2000000 in
theorem does_any {w : World} {B D : Nat} {k k2 : List Bool} {own : Nat → Prop} (h : MapAt w B D k own) {A : Option Addr} {n c : Nat} (hl : k2.length = n) (hn : n ≤ 65536) (hnc : n ≤ c) (hk : Cz w own A (bcells k2)) (a : AE) {L : Option Addr} {m cl : Nat} (hm : a.l.length = m) (hmc : m ≤ cl) (hmx : m ≤ 9223372036854775807) (hr : Cz w own L (icells a.l)) :
    Calls Try.prog 11 #[.pointer (some ⟨D, 0, none⟩), .slice A n c, .agg #[.int .i64 a.kind, .int .i64 a.n, .slice L m cl]] w (DoesPost w B D own (actK k a) (actB k k2 a) (actK k2 a)) := by
  obtain ⟨H, hH⟩ : ∃ H, w.heap.size = H := ⟨_, rfl⟩
  obtain ⟨w1, hw1⟩ : ∃ w1, w.alloc (.cells #[.int .i64 a.kind, .int .i64 a.n, .slice L m cl] 34) = w1 := ⟨_, rfl⟩
  have hb1 : Below w.heap.size w w1 := by rw [← hw1]; exact (Below.refl _ _).alloc (Nat.le_refl _) _
  have hbx : Blk w1 H [.int .i64 a.kind, .int .i64 a.n, .slice L m cl] := by rw [← hw1, ← hH]; exact Blk.new w [.int .i64 a.kind, .int .i64 a.n, .slice L m cl] _
  have hnH : ¬ own H := fun ho => by have := (h.lt ho).2; omega
  have hm1 := h.past hb1
  have HLT := Lib.hid (fun j => (h.past hb1).lt (j := j))
  have HK1 := Lib.hid (hk.past hb1)
  have HC1 := Lib.hid (hr.past hb1)
  have HO1 := Lib.hid (Out.of_below (S := own) hb1)
  have HBX := Lib.hid hbx
  have HNH := Lib.hid hnH
  have HL := Lib.hid hl
  have HM := Lib.hid hm
  have HM1 := Lib.hid hm1
  obtain ⟨kd, hkd⟩ : ∃ kd, kd = a.kind := ⟨_, rfl⟩
  obtain ⟨an, han⟩ : ∃ an, an = a.n := ⟨_, rfl⟩
  rw [← hkd, ← han] at hbx hw1
  have e0 : w1.cell? ⟨H, 0, none⟩ = some (.int .i64 kd) := hbx.cell rfl
  have e1 : w1.cell? ⟨H, 1, none⟩ = some (.int .i64 an) := hbx.cell rfl
  have e2 : w1.cell? ⟨H, 2, none⟩ = some (.slice L m cl) := hbx.cell rfl
  have up : ∀ w2, Out own w1 w2 → w2.cell? ⟨H, 0, none⟩ = some (.int .i64 kd) ∧ w2.cell? ⟨H, 1, none⟩ = some (.int .i64 an) ∧ w2.cell? ⟨H, 2, none⟩ = some (.slice L m cl) := fun w2 ho =>
    ⟨(hbx.out ho hnH).cell rfl, (hbx.out ho hnH).cell rfl, (hbx.out ho hnH).cell rfl⟩
  have HUP := Lib.hid up
  rw [← hkd, ← han]
  have hway : (kd = 0) ∨ (kd = 1) ∨ ((kd == 0) = false ∧ (kd == 1) = false ∧ Hid (kd ≠ 0 ∧ kd ≠ 1)) := by
    by_cases h0 : kd = 0
    · exact .inl h0
    · by_cases h1 : kd = 1
      · exact .inr (.inl h1)
      · exact .inr (.inr ⟨by simp [h0], by simp [h1], Lib.hid ⟨h0, h1⟩⟩)
  have HKD := Lib.hid hkd
  have HAN := Lib.hid han
  obtain ⟨Q, hQ⟩ : ∃ Q, Q = DoesPost w B D own (actK k a) (actB k k2 a) (actK k2 a) := ⟨_, rfl⟩
  rw [← hQ]
  have HQ := Lib.hid hQ
  clear h hk hr hb1 hbx hnH hl hm hm1 up hkd han hQ
  rcases hway with rfl | rfl | ⟨d0, d1, HX⟩
  · have HQ2 := Lib.hid (show Q = DoesPost w B D own (turnD k a.l true).1 ((turnD k a.l true).2 == (turnD k2 a.l true).2) (turnD k2 a.l true).1 by
      rw [HQ.out]; unfold actK actB; rw [if_pos HKD.out.symm, if_pos HKD.out.symm, if_pos HKD.out.symm])
    have HC := Lib.hid (hold_any HM1.out L m cl a.l HM.out hmc hmx HC1.out)
    obtain ⟨r1, hr1⟩ : ∃ r1, r1 = turnD k a.l true := ⟨_, rfl⟩
    obtain ⟨r2, hr2⟩ : ∃ r2, r2 = turnD k2 a.l true := ⟨_, rfl⟩
    rw [← hr1] at HC HQ2
    rw [← hr2] at HQ2
    have HR2 := Lib.hid hr2
    clear hr1 hr2
    go_enter Try.func11, Try.ntmps11
    go_wp2_with (first | (go_at_call 17; refine HC.out.mono ?_; rintro e w2 ⟨rfl, hp⟩; have HP := Lib.hid hp; clear hp; obtain ⟨c0, c1, c2⟩ := HUP.out w2 HP.out.2) | fail)
    have hT := rturn_any (cl := cl) HL.out hn hnc (HK1.out.out HP.out.2) (fun j hj => (HP.out.1.lt hj).2) HM.out hmx (HC1.out.out HP.out.2) false
    rw [Bool.not_false, ← HR2.out] at hT
    refine hT.mono ?_
    clear hT
    rintro e w3 ⟨A3, n3, c3, rfl, h1, h2, h3, h4⟩
    have HF := Lib.hid (And.intro h1 (And.intro h2 (And.intro h3 h4)))
    clear h1 h2 h3 h4
    go_wp2
    rw [HQ2.out]
    exact ⟨A3, n3, c3, rfl, HF.out.1, HF.out.2.1, HF.out.2.2.1, HP.out.1.past HF.out.2.2.2, (HO1.out.trans HP.out.2).trans (.of_below HF.out.2.2.2)⟩
  · have HQ2 := Lib.hid (show Q = DoesPost w B D own (turnD k a.l false).1 ((turnD k a.l false).2 == (turnD k2 a.l false).2) (turnD k2 a.l false).1 by
      rw [HQ.out]; unfold actK actB; rw [← HKD.out, if_neg (by decide), if_pos rfl, if_neg (by decide), if_pos rfl, if_neg (by decide), if_pos rfl])
    have HC := Lib.hid (give_any HM1.out L m cl a.l HM.out hmc hmx HC1.out)
    obtain ⟨r1, hr1⟩ : ∃ r1, r1 = turnD k a.l false := ⟨_, rfl⟩
    obtain ⟨r2, hr2⟩ : ∃ r2, r2 = turnD k2 a.l false := ⟨_, rfl⟩
    rw [← hr1] at HC HQ2
    rw [← hr2] at HQ2
    have HR2 := Lib.hid hr2
    clear hr1 hr2
    go_enter Try.func11, Try.ntmps11
    go_wp2_with (first | (go_at_call 16; refine HC.out.mono ?_; rintro e w2 ⟨rfl, hp⟩; have HP := Lib.hid hp; clear hp; obtain ⟨c0, c1, c2⟩ := HUP.out w2 HP.out.2) | fail)
    have hT := rturn_any (cl := cl) HL.out hn hnc (HK1.out.out HP.out.2) (fun j hj => (HP.out.1.lt hj).2) HM.out hmx (HC1.out.out HP.out.2) true
    rw [Bool.not_true, ← HR2.out] at hT
    refine hT.mono ?_
    clear hT
    rintro e w3 ⟨A3, n3, c3, rfl, h1, h2, h3, h4⟩
    have HF := Lib.hid (And.intro h1 (And.intro h2 (And.intro h3 h4)))
    clear h1 h2 h3 h4
    go_wp2
    rw [HQ2.out]
    exact ⟨A3, n3, c3, rfl, HF.out.1, HF.out.2.1, HF.out.2.2.1, HP.out.1.past HF.out.2.2.2, (HO1.out.trans HP.out.2).trans (.of_below HF.out.2.2.2)⟩
  · have HQ2 := Lib.hid (show Q = DoesPost w B D own (takeD k an).1 (decide ((takeD k an).2.1 = (takeD k2 an).2.1) && ((takeD k an).2.2 == (takeD k2 an).2.2)) (takeD k2 an).1 by
      rw [HQ.out]; unfold actK actB
      rw [← HKD.out, ← HAN.out, if_neg HX.out.1, if_neg HX.out.2, if_neg HX.out.1, if_neg HX.out.2, if_neg HX.out.1, if_neg HX.out.2])
    have HC := Lib.hid (take_any HM1.out an)
    obtain ⟨r1, hr1⟩ : ∃ r1, r1 = takeD k an := ⟨_, rfl⟩
    obtain ⟨r2, hr2⟩ : ∃ r2, r2 = takeD k2 an := ⟨_, rfl⟩
    rw [← hr1] at HC HQ2
    rw [← hr2] at HQ2
    have HR2 := Lib.hid hr2
    clear hr1 hr2
    go_enter Try.func11, Try.ntmps11
    go_wp2_with fail
    refine HC.out.mono ?_
    rintro e w2 ⟨A2, n2, q2, rfl, h1, -, h2, -, h3, h4⟩
    have HP := Lib.hid h4
    have HA2 := Lib.hid (And.intro h1 (And.intro h2 h3))
    obtain ⟨c0, c1, c2⟩ := HUP.out w2 h4.2
    clear h1 h2 h3 h4
    go_wp2_with fail
    have hT := rtake_any HL.out hn hnc (HK1.out.out HP.out.2) (fun j hj => (HP.out.1.lt hj).2) an
    rw [← HR2.out] at hT
    refine hT.mono ?_
    clear hT
    rintro e w3 ⟨A3, n3, c3, L3, m3, cl3, rfl, h1, h2, h3, h5, h6, h4⟩
    have HF := Lib.hid (And.intro h1 (And.intro h2 (And.intro h3 h4)))
    have hS := same_any (c := q2) (c' := cl3) HA2.out.1 h5 (by have := HA2.out.2.1; have := HM1.out.most; omega) (HA2.out.2.2.past h4) h6
    obtain ⟨ok, hok⟩ : ∃ ok, ok = decide (r1.2.1 = r2.2.1) := ⟨_, rfl⟩
    rw [← hok] at hS HQ2
    have HS := Lib.hid hS
    have hs3 := h4.size
    clear h1 h2 h3 h4 h5 h6 hS hok
    cases ok
    all_goals
      go_wp2_with (first | (go_at_call 21; refine HS.out.mono ?_; rintro e w4 ⟨rfl, hb4⟩; have HB4 := Lib.hid (HF.out.2.2.2.trans (hb4.mono hs3)); have HC4 := Lib.hid (HF.out.2.2.1.past hb4); clear hb4) | fail)
      rw [HQ2.out]
      exact ⟨A3, n3, c3, rfl, HF.out.1, HF.out.2.1, HC4.out, HP.out.1.past HB4.out, (HO1.out.trans HP.out.2).trans (.of_below HB4.out)⟩
end Go.Proofs.Ytjphjlbbeammnaa
