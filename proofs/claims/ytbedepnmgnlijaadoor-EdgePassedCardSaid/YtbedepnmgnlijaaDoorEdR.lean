/- palmerref12.One: the document's edge of a line. -/
import Derived.Test.YtbedepnmgnlijaaDoorEdO
import Derived.Test.YtbedepnmgnlijaaDoorTxM
namespace Go.Proofs.YtbedepnmgnlijaaDoor
open Go.RowKit Me Tx Ed Go.Shelf Go.Lib

theorem words_eq {a b : List UInt8} {r : List (List UInt8)} (h1 : ¬ 1 < r.length) (ha : a.headD 0 ≠ 35) :
    wordsS (a :: b :: r) = if (numS a 4294967295).2 ≠ 0 then (noEd, false, (numS a 4294967295).2)
      else if (numS b 4294967295).2 ≠ 0 then (noEd, false, (numS b 4294967295).2)
      else if (wgtS r).2 ≠ 0 then (noEd, false, (wgtS r).2)
      else (⟨(numS a 4294967295).1, (numS b 4294967295).1, (wgtS r).1⟩, true, 0) := by
  show (if a.headD 0 = 35 then (noEd, false, (0 : Int)) else if 1 < r.length then (noEd, false, 12) else _) = _
  rw [if_neg ha, if_neg h1]
theorem wordsG_some : ∀ (l c : List UInt8), ∀ x ∈ wordsG c l, x ≠ []
  | [], c => fun x hx => by
    rw [wordsG] at hx
    split at hx
    · simp at hx
    · rename_i h
      rw [List.mem_singleton.1 hx]; exact h
  | u :: l, c => fun x hx => by
    rw [wordsG] at hx
    split at hx
    · split at hx
      · exact wordsG_some l [] x hx
      · rename_i h
        rcases List.mem_cons.1 hx with rfl | hx
        · exact h
        · exact wordsG_some l [] x hx
    · exact wordsG_some l _ x hx
/-- Two edges of zeros in memory, at the front of what is new. -/
structure Zz (w w1 : World) : Prop where
  z : Blk w1 w.heap.size [.int .u32 0, .int .u32 0, .int .u32 0]
  y : Blk w1 (w.heap.size + 1) [.int .u32 0, .int .u32 0, .int .u32 0]
  b : Below w.heap.size w w1
theorem Zz.past {w w1 w2 : World} (h : Zz w w1) (hb : Below w1.heap.size w1 w2) : Zz w w2 := ⟨h.z.past hb, h.y.past hb, h.b.trans (hb.mono h.b.size)⟩
theorem wgtS_one {x : List UInt8} {v : Nat} {e : Int} (h : numS x 2147483647 = (v, e)) : wgtS [x] = if e ≠ 0 then (0, e) else if v = 0 then (0, 9) else (v, 0) := by
  show (if (numS x 2147483647).2 ≠ 0 then (0, (numS x 2147483647).2) else if (numS x 2147483647).1 = 0 then (0, 9) else ((numS x 2147483647).1, 0)) = _
  rw [h]

set_option maxRecDepth 100000 in
set_option maxHeartbeats 1000000 in
theorem rone_any (s : ByteArray) (hs : s.size ≤ 1073741824) (w : World) :
    Calls Tryd.prog 11 #[.string s] w (EdPost w (oneS s.data.toList)) := by
  obtain ⟨W0, hW0⟩ : ∃ W0, (w.alloc (.cells #[.int .u32 0, .int .u32 0, .int .u32 0] 25)).alloc (.cells #[.int .u32 0, .int .u32 0, .int .u32 0] 25) = W0 := ⟨_, rfl⟩
  have hz0 : Zz w W0 := by
    rw [← hW0]
    exact ⟨(Blk.new w [.int .u32 0, .int .u32 0, .int .u32 0] _).alloc _, Blk.new' (w.alloc _) [.int .u32 0, .int .u32 0, .int .u32 0] _ (by simp), ((Below.refl _ w).alloc (Nat.le_refl _) _).alloc (by simp) _⟩
  obtain ⟨ws, hws⟩ : ∃ ws, ws = wordsG [] s.data.toList := ⟨_, rfl⟩
  have hsh : ∀ x ∈ ws, x.length ≤ 1073741824 := fun x hx => by
    rw [hws] at hx
    have h := wordsG_short s.data.toList [] x hx
    rw [len_eq] at h
    simp at h; omega
  have hne : ∀ x ∈ ws, x ≠ [] := fun x hx => by rw [hws] at hx; exact wordsG_some _ _ x hx
  have HO := Lib.hid (show oneS s.data.toList = wordsS ws by rw [hws]; rfl)
  have HWS := Lib.hid hws
  have HSH := Lib.hid hsh
  have HNE := Lib.hid hne
  have HW0 := Lib.hid hW0
  have HZ0 := Lib.hid hz0
  rw [HO.out]
  clear hws hsh hne hW0 hz0
  go_enter Tryd.func11, Tryd.ntmps11
  go_wp2_with fail
  rw [HW0.out]
  refine (rwords_post s (by omega) W0).mono ?_
  rw [← HWS.out]
  rintro e w1 ⟨A, c, rfl, hc, ho, hb1⟩
  have HC := Lib.hid (Cs.of_own ho)
  have HZ := Lib.hid (HZ0.out.past hb1)
  obtain ⟨n, hn⟩ : ∃ n, n = ws.length := ⟨_, rfl⟩
  rw [← hn]
  clear ho hb1 hc HZ0 HW0
  cases hws : ws with
  | nil =>
    have h0 : n = 0 := by rw [hn, hws]; rfl
    have HP := Lib.hid (show wordsS ws = (noEd, false, 0) by rw [hws]; rfl)
    subst h0
    clear hn hws
    obtain ⟨y0, y1, y2, f0, f1, f2⟩ := blk3 HZ.out.z
    obtain ⟨z0, z1, z2, -, -, -⟩ := blk3 HZ.out.y
    go_wp2
    have r := blk_three (u0 := .int .u32 0) (u1 := .int .u32 0) (u2 := .int .u32 0) HZ.out.z
    have r0 := r.cell (i := 0) rfl
    have r1 := r.cell (i := 1) rfl
    have r2 := r.cell (i := 2) rfl
    refine bodyPost_ret (v := .tuple #[.agg #[.int .u32 0, .int .u32 0, .int .u32 0], .bool false, .int .i64 0]) (by simp [results, Tryd.results11, go_sem, r0, r1, r2]) rfl ?_
    unfold EdPost
    rw [HP.out]
    exact ⟨rfl, below_three HZ.out.b (Nat.le_refl _)⟩
  | cons a r =>
    obtain ⟨u, a', hua⟩ : ∃ u a', a = u :: a' := by
      have := HNE.out a (by rw [hws]; simp)
      cases a with
      | nil => exact absurd rfl this
      | cons u a' => exact ⟨u, a', rfl⟩
    have hn1 : 0 < n := by rw [hn, hws]; simp
    have k1 : ¬ (n : Int) = 0 := by omega
    have k2 : (0 : Int) < (n : Int) := by omega
    obtain ⟨ad, rfl, -, q⟩ := HC.out (by rw [hws]; simp)
    have c0 : w1.cell? ad = some (sv a) := q 0 _ (by rw [hws]; rfl)
    have hix := str_at (s := ⟨a.toArray⟩) (k := 0) (u := u) (by rw [hua]; rfl)
    have hsz : 0 < (⟨a.toArray⟩ : ByteArray).size := by rw [hua]; show 0 < (u :: a').length; simp
    have ha0 : a.headD 0 = u := by rw [hua]; rfl
    by_cases hu : u = 35
    · have HP := Lib.hid (show wordsS ws = (noEd, false, 0) by rw [hws]; exact words_note (by rw [ha0]; exact hu))
      subst hu
      clear hn hws q hua ha0
      obtain ⟨y0, y1, y2, f0, f1, f2⟩ := blk3 HZ.out.z
      obtain ⟨z0, z1, z2, -, -, -⟩ := blk3 HZ.out.y
      go_wp2
      have r := blk_three (u0 := .int .u32 0) (u1 := .int .u32 0) (u2 := .int .u32 0) HZ.out.z
      have r0 := r.cell (i := 0) rfl
      have r1 := r.cell (i := 1) rfl
      have r2 := r.cell (i := 2) rfl
      refine bodyPost_ret (v := .tuple #[.agg #[.int .u32 0, .int .u32 0, .int .u32 0], .bool false, .int .i64 0]) (by simp [results, Tryd.results11, go_sem, r0, r1, r2]) rfl ?_
      unfold EdPost
      rw [HP.out]
      exact ⟨rfl, below_three HZ.out.b (Nat.le_refl _)⟩
    · have hu2 : ((u.toNat : Int) == 35) = false := beq_eq_false_iff_ne.2 (nat_ne (c := 35) (by omega) hu)
      have ha : a.headD 0 ≠ 35 := by rw [ha0]; exact hu
      by_cases hlen : n = 1 ∨ 3 < n
      · have HP := Lib.hid (show wordsS ws = (noEd, false, 12) by
          rw [hws]
          rw [hws] at hn
          rcases hlen with h | h
          · have : r = [] := by
              cases r with
              | nil => rfl
              | cons b r => simp at hn; omega
            rw [this]; exact words_short ha
          · cases r with
            | nil => simp at hn; omega
            | cons b r => exact words_much (by simp at hn; omega) ha)
        have hq : (n : Int) = 1 ∨ (¬ (n : Int) = 1 ∧ 3 < (n : Int)) := by omega
        clear hn hws q hua ha0 hlen
        rcases hq with q1 | ⟨q1, q2⟩
        all_goals
          obtain ⟨y0, y1, y2, f0, f1, f2⟩ := blk3 HZ.out.z
          obtain ⟨z0, z1, z2, -, -, -⟩ := blk3 HZ.out.y
          go_wp2
          have r := blk_three (u0 := .int .u32 0) (u1 := .int .u32 0) (u2 := .int .u32 0) HZ.out.z
          have r0 := r.cell (i := 0) rfl
          have r1 := r.cell (i := 1) rfl
          have r2 := r.cell (i := 2) rfl
          refine bodyPost_ret (v := .tuple #[.agg #[.int .u32 0, .int .u32 0, .int .u32 0], .bool false, .int .i64 12]) (by simp [results, Tryd.results11, go_sem, r0, r1, r2]) rfl ?_
          unfold EdPost
          rw [HP.out]
          exact ⟨rfl, below_three HZ.out.b (Nat.le_refl _)⟩
      · have q1 : ((n : Int) == 1) = false := beq_eq_false_iff_ne.2 (by omega)
        have q2 : ¬ 3 < (n : Int) := by omega
        obtain ⟨b, r', hr⟩ : ∃ b r', r = b :: r' := by
          cases r with
          | nil => rw [hws] at hn; simp at hn; omega
          | cons b r' => exact ⟨b, r', rfl⟩
        subst hr
        have hrl : ¬ 1 < r'.length := by rw [hws] at hn; simp at hn; omega
        have k3 : (1 : Int) < (n : Int) := by omega
        have c1 : w1.cell? ⟨ad.block, ad.off + 1, none⟩ = some (sv b) := q 1 _ (by rw [hws]; rfl)
        have HA := Lib.hid (show a.length ≤ 1073741824 from HSH.out a (by rw [hws]; simp))
        have HBB := Lib.hid (show b.length ≤ 1073741824 from HSH.out b (by rw [hws]; simp))
        have hcase : (r' = [] ∧ n = 2) ∨ (∃ x : List UInt8, r' = [x] ∧ n = 3 ∧ w1.cell? ⟨ad.block, ad.off + 2, none⟩ = some (sv x) ∧ x.length ≤ 1073741824) := by
          cases r' with
          | nil => exact .inl ⟨rfl, by rw [hn, hws]; rfl⟩
          | cons x r'' =>
            have : r'' = [] := by
              cases r'' with
              | nil => rfl
              | cons y r3 => simp at hrl
            subst this
            exact .inr ⟨x, rfl, by rw [hn, hws]; rfl, q 2 _ (by rw [hws]; rfl), HSH.out x (by rw [hws]; simp)⟩
        have HEQ := Lib.hid (show wordsS ws = _ from (congrArg wordsS hws).trans (words_eq hrl ha))
        have HCA := Lib.hid hcase
        clear hn hws q hua ha0 hlen hcase ha hrl
        go_wp2_with fail
        refine (rnum_any ⟨a.toArray⟩ 4294967295 (by exact HA.out) (by omega) w1).mono ?_
        obtain ⟨⟨va, ea⟩, hra⟩ : ∃ r, r = numS (⟨a.toArray⟩ : ByteArray).data.toList 4294967295 := ⟨_, rfl⟩
        rw [← hra]
        rintro e1 w2 ⟨rfl, hb2⟩
        have hEQ := HEQ.out
        rw [show numS a 4294967295 = (va, ea) from hra.symm] at hEQ
        have c1' : w2.cell? ⟨ad.block, ad.off + 1, none⟩ = some (sv b) := (hb2.cell (World.block_lt_of_cell? _ _ c1)).trans c1
        have HCA' := Lib.hid (HCA.out.imp id fun ⟨x, h1, h2, h3, h4⟩ => (⟨x, h1, h2, (hb2.cell (World.block_lt_of_cell? _ _ h3)).trans h3, h4⟩ : ∃ x : List UInt8, r' = [x] ∧ n = 3 ∧ w2.cell? ⟨ad.block, ad.off + 2, none⟩ = some (sv x) ∧ x.length ≤ 1073741824))
        replace HZ := Lib.hid (HZ.out.past hb2)
        clear c0 c1 HCA hra HEQ hix hsz hu hu2 hb2 k1 k2 HC
        by_cases he : ea = 0
        · subst he
          rw [if_neg (by simp)] at hEQ
          have HEQ := Lib.hid hEQ
          clear hEQ
          go_wp2_with fail
          refine (rnum_any ⟨b.toArray⟩ 4294967295 (by exact HBB.out) (by omega) w2).mono ?_
          obtain ⟨⟨vb, eb⟩, hrb⟩ : ∃ r, r = numS (⟨b.toArray⟩ : ByteArray).data.toList 4294967295 := ⟨_, rfl⟩
          rw [← hrb]
          rintro e2 w3 ⟨rfl, hb3⟩
          have hEQ := HEQ.out
          rw [show numS b 4294967295 = (vb, eb) from hrb.symm] at hEQ
          have HCA := Lib.hid (HCA'.out.imp id fun ⟨x, h1, h2, h3, h4⟩ => (⟨x, h1, h2, (hb3.cell (World.block_lt_of_cell? _ _ h3)).trans h3, h4⟩ : ∃ x : List UInt8, r' = [x] ∧ n = 3 ∧ w3.cell? ⟨ad.block, ad.off + 2, none⟩ = some (sv x) ∧ x.length ≤ 1073741824))
          replace HZ := Lib.hid (HZ.out.past hb3)
          have hfit := oneS_fits s.data.toList
          rw [HO.out, hEQ] at hfit
          clear c1' HCA' hrb HEQ hb3 k3
          by_cases he2 : eb = 0
          · subst he2
            rw [if_neg (by simp)] at hEQ hfit
            rcases HCA.out with ⟨rfl, rfl⟩ | ⟨x, rfl, rfl, c2, hx⟩
            · have HP := Lib.hid (show wordsS ws = (⟨va, vb, 1⟩, true, 0) from hEQ)
              have hfit2 : Fits ⟨va, vb, 1⟩ := hfit
              obtain ⟨g0, g1, g2⟩ := hfit2
              simp only at g0 g1
              have m0 : (va : Int) % 4294967296 = (va : Int) := by omega
              have m1 : (vb : Int) % 4294967296 = (vb : Int) := by omega
              clear hEQ hfit HCA g0 g1 g2
              obtain ⟨y0, y1, y2, f0, f1, f2⟩ := blk3 HZ.out.z
              obtain ⟨z0, z1, z2, -, -, -⟩ := blk3 HZ.out.y
              go_wp2
              have r := blk_three (u0 := .int .u32 (va : Int)) (u1 := .int .u32 (vb : Int)) (u2 := .int .u32 1) HZ.out.z
              have r0 := r.cell (i := 0) rfl
              have r1 := r.cell (i := 1) rfl
              have r2 := r.cell (i := 2) rfl
              refine bodyPost_ret (v := .tuple #[.agg #[.int .u32 (va : Int), .int .u32 (vb : Int), .int .u32 1], .bool true, .int .i64 0]) (by simp [results, Tryd.results11, go_sem, r0, r1, r2]) rfl ?_
              unfold EdPost
              rw [HP.out]
              exact ⟨rfl, below_three HZ.out.b (Nat.le_refl _)⟩
            · have HEQ := Lib.hid hEQ
              have HX := Lib.hid hx
              have HFI := Lib.hid hfit
              clear hEQ hx hfit HCA
              go_wp2_with fail
              refine (rnum_any ⟨x.toArray⟩ 2147483647 (by exact HX.out) (by omega) w3).mono ?_
              obtain ⟨⟨vx, ex⟩, hrx⟩ : ∃ r, r = numS (⟨x.toArray⟩ : ByteArray).data.toList 2147483647 := ⟨_, rfl⟩
              rw [← hrx]
              rintro e3 w4 ⟨rfl, hb4⟩
              have hEQ := HEQ.out
              have hfit := HFI.out
              rw [wgtS_one (show numS x 2147483647 = (vx, ex) from hrx.symm)] at hEQ hfit
              replace HZ := Lib.hid (HZ.out.past hb4)
              clear c2 hrx HEQ hb4 HFI
              by_cases he3 : ex = 0
              · subst he3
                by_cases hv : vx = 0
                · subst hv
                  have HP := Lib.hid (show wordsS ws = (noEd, false, 9) by rw [hEQ]; simp)
                  clear hEQ hfit
                  obtain ⟨y0, y1, y2, f0, f1, f2⟩ := blk3 HZ.out.z
                  obtain ⟨z0, z1, z2, -, -, -⟩ := blk3 HZ.out.y
                  go_wp2
                  have r := blk_three (u0 := .int .u32 0) (u1 := .int .u32 0) (u2 := .int .u32 0) HZ.out.z
                  have r0 := r.cell (i := 0) rfl
                  have r1 := r.cell (i := 1) rfl
                  have r2 := r.cell (i := 2) rfl
                  refine bodyPost_ret (v := .tuple #[.agg #[.int .u32 0, .int .u32 0, .int .u32 0], .bool false, .int .i64 9]) (by simp [results, Tryd.results11, go_sem, r0, r1, r2]) rfl ?_
                  unfold EdPost
                  rw [HP.out]
                  exact ⟨rfl, below_three HZ.out.b (Nat.le_refl _)⟩
                · have hEQ2 : wordsS ws = (⟨va, vb, vx⟩, true, 0) := by rw [hEQ]; simp [hv]
                  have HP := Lib.hid hEQ2
                  have hfit2 : Fits ⟨va, vb, vx⟩ := by
                    have := oneS_fits s.data.toList
                    rw [HO.out, hEQ2] at this
                    exact this
                  obtain ⟨g0, g1, g2⟩ := hfit2
                  simp only at g0 g1 g2
                  have m0 : (va : Int) % 4294967296 = (va : Int) := by omega
                  have m1 : (vb : Int) % 4294967296 = (vb : Int) := by omega
                  have m2 : (vx : Int) % 4294967296 = (vx : Int) := by omega
                  have hv2 : ((vx : Int) == 0) = false := beq_eq_false_iff_ne.2 (by omega)
                  clear hEQ hEQ2 hfit g0 g1 g2
                  obtain ⟨y0, y1, y2, f0, f1, f2⟩ := blk3 HZ.out.z
                  obtain ⟨z0, z1, z2, -, -, -⟩ := blk3 HZ.out.y
                  go_wp2
                  have r := blk_three (u0 := .int .u32 (va : Int)) (u1 := .int .u32 (vb : Int)) (u2 := .int .u32 (vx : Int)) HZ.out.z
                  have r0 := r.cell (i := 0) rfl
                  have r1 := r.cell (i := 1) rfl
                  have r2 := r.cell (i := 2) rfl
                  refine bodyPost_ret (v := .tuple #[.agg #[.int .u32 (va : Int), .int .u32 (vb : Int), .int .u32 (vx : Int)], .bool true, .int .i64 0]) (by simp [results, Tryd.results11, go_sem, r0, r1, r2]) rfl ?_
                  unfold EdPost
                  rw [HP.out]
                  exact ⟨rfl, below_three HZ.out.b (Nat.le_refl _)⟩
              · rw [if_pos he3] at hEQ
                have HP := Lib.hid (show wordsS ws = (noEd, false, ex) by rw [hEQ]; simp [he3])
                clear hEQ hfit
                obtain ⟨y0, y1, y2, f0, f1, f2⟩ := blk3 HZ.out.z
                obtain ⟨z0, z1, z2, -, -, -⟩ := blk3 HZ.out.y
                go_wp2
                have r := blk_three (u0 := .int .u32 0) (u1 := .int .u32 0) (u2 := .int .u32 0) HZ.out.z
                have r0 := r.cell (i := 0) rfl
                have r1 := r.cell (i := 1) rfl
                have r2 := r.cell (i := 2) rfl
                refine bodyPost_ret (v := .tuple #[.agg #[.int .u32 0, .int .u32 0, .int .u32 0], .bool false, .int .i64 ex]) (by simp [results, Tryd.results11, go_sem, r0, r1, r2]) rfl ?_
                unfold EdPost
                rw [HP.out]
                exact ⟨rfl, below_three HZ.out.b (Nat.le_refl _)⟩
          · rw [if_pos he2] at hEQ
            have HP := Lib.hid hEQ
            clear hEQ hfit
            obtain ⟨y0, y1, y2, f0, f1, f2⟩ := blk3 HZ.out.z
            obtain ⟨z0, z1, z2, -, -, -⟩ := blk3 HZ.out.y
            go_wp2
            have r := blk_three (u0 := .int .u32 0) (u1 := .int .u32 0) (u2 := .int .u32 0) HZ.out.z
            have r0 := r.cell (i := 0) rfl
            have r1 := r.cell (i := 1) rfl
            have r2 := r.cell (i := 2) rfl
            refine bodyPost_ret (v := .tuple #[.agg #[.int .u32 0, .int .u32 0, .int .u32 0], .bool false, .int .i64 eb]) (by simp [results, Tryd.results11, go_sem, r0, r1, r2]) rfl ?_
            unfold EdPost
            rw [HP.out]
            exact ⟨rfl, below_three HZ.out.b (Nat.le_refl _)⟩
        · rw [if_pos he] at hEQ
          have HP := Lib.hid hEQ
          clear hEQ
          obtain ⟨y0, y1, y2, f0, f1, f2⟩ := blk3 HZ.out.z
          obtain ⟨z0, z1, z2, -, -, -⟩ := blk3 HZ.out.y
          go_wp2
          have r := blk_three (u0 := .int .u32 0) (u1 := .int .u32 0) (u2 := .int .u32 0) HZ.out.z
          have r0 := r.cell (i := 0) rfl
          have r1 := r.cell (i := 1) rfl
          have r2 := r.cell (i := 2) rfl
          refine bodyPost_ret (v := .tuple #[.agg #[.int .u32 0, .int .u32 0, .int .u32 0], .bool false, .int .i64 ea]) (by simp [results, Tryd.results11, go_sem, r0, r1, r2]) rfl ?_
          unfold EdPost
          rw [HP.out]
          exact ⟨rfl, below_three HZ.out.b (Nat.le_refl _)⟩
end Go.Proofs.YtbedepnmgnlijaaDoor
