/- The document's numbers: the program's. -/
import Derived.Test.YtbedepnmgnlijaaDoorTxN
import Derived.Test.YtbedepnmgnlijaaDoorRnP
namespace Go.Proofs.YtbedepnmgnlijaaDoor
open Go.RowKit Me Tx Go.Shelf Go.Lib

set_option maxRecDepth 100000 in
theorem rput_any (n : Nat) : ∀ (w : World), n < 18446744073709551616 →
    Calls Tryd.prog 27 #[.int .u64 (n : Int)] w fun e w' => e = .returned (sv (putN n)) ∧ Below w.heap.size w w' := by
  induction n using Nat.strongRecOn with
  | _ n ih =>
    intro w hn
    by_cases h : n < 10
    · have h1 : (n : Int) < 10 := by omega
      have h2 : (n : Int) % 256 = (n : Int) := by omega
      have h3 : (48 + (n : Int)) % 256 = 48 + (n : Int) := by omega
      obtain ⟨d, hd⟩ : ∃ d, d = UInt8.ofNat (48 + n) := ⟨_, rfl⟩
      have hu : d.toNat = 48 + n := by rw [hd]; exact (dig_of h).2
      have hi : (d.toNat : Int) = 48 + (n : Int) := by omega
      have e1 := str_any (some ⟨w.heap.size, 0, none⟩) 1 1 [d] (w.alloc (.cells #[.int .u8 (48 + (n : Int))] 5)) (w.heap.size + 1) rfl (Rd.lit w #[.int .u8 (48 + (n : Int))] _ _ (by simp only [cellsOf, List.map_cons, List.map_nil, hi]))
      rw [putN_lt h, ← hd]
      clear hd
      go_enter Tryd.func27, Tryd.ntmps27
      go_wp2
      go_ret
      exact ⟨rfl, (Below.refl _ _).alloc (Nat.le_refl _) _⟩
    · have h1 : ¬ (n : Int) < 10 := by omega
      obtain ⟨p, hp⟩ : ∃ p, p = n / 10 := ⟨_, rfl⟩
      obtain ⟨r, hr⟩ : ∃ r, r = n % 10 := ⟨_, rfl⟩
      have HI1 := Lib.hid (fun w => ih p (by omega) w (by omega))
      have HI2 := Lib.hid (fun w => ih r (by omega) w (by omega))
      have h4 : Int.tdiv (n : Int) 10 = (p : Int) := by rw [Int.tdiv_eq_ediv_of_nonneg (by omega)]; omega
      have h5 : Int.tmod (n : Int) 10 = (r : Int) := by rw [Int.tmod_eq_emod_of_nonneg (by omega)]; omega
      have k1 : (putN p).length ≤ 20 := putN_length (by omega)
      have k2 : putN r = [UInt8.ofNat (48 + r)] := putN_lt (by omega)
      have HE := Lib.hid (show putN n = putN p ++ putN r by rw [putN_ge h, hp, ← hr, k2])
      have k3 : (putN r).length ≤ 20 := by rw [k2]; simp
      have h6 : IntKind.u64.wrap (p : Int) = (p : Int) := by rw [IntKind.wrap_u64]; omega
      have h7 : IntKind.u64.wrap (r : Int) = (r : Int) := by rw [IntKind.wrap_u64]; omega
      clear ih k2 hp hr h
      have HN := Lib.hid hn
      clear hn
      go_enter Tryd.func27, Tryd.ntmps27
      go_wp2_with fail
      refine (HI1.out w).mono ?_
      rintro e w1 ⟨rfl, hb1⟩
      have HB1 := Lib.hid hb1
      clear hb1
      go_wp2_with fail
      refine (HI2.out w1).mono ?_
      rintro e w2 ⟨rfl, hb2⟩
      have HB2 := Lib.hid (HB1.out.trans (hb2.mono HB1.out.size))
      have e1 := run_string_add_lists (P := Tryd.prog) w2 (putN p) (putN r) (by omega) (by omega)
      clear hb2
      go_wp2
      go_ret
      exact ⟨by rw [HE.out]; rfl, HB2.out⟩
/-- The document's test of a number's size, as the program makes it. -/
theorem top_cases (l : List UInt8) (n : Nat) (hn : l.length = n) :
    (overB l = true ∧ (20 < n ∨ (n = 20 ∧ Op.bytesLess l topD = false ∧ (l == topD) = false))) ∨ (overB l = false ∧ (n < 20 ∨ (n = 20 ∧ (Op.bytesLess l topD = true ∨ (l == topD) = true)))) := by
  unfold overB
  rw [hn]
  by_cases h1 : 20 < n
  · exact .inl ⟨by simp [h1], .inl h1⟩
  · by_cases h2 : n = 20
    · cases h3 : Op.bytesLess topD l with
      | true =>
        refine .inl ⟨by simp [h2], .inr ⟨h2, ?_, ?_⟩⟩
        · rw [Bool.eq_false_iff]
          intro h4
          have := Rn.bl_trans h3 h4
          rw [Rn.bl_irrefl] at this
          cases this
        · rw [beq_eq_false_iff_ne]
          intro e
          rw [e, Rn.bl_irrefl] at h3
          cases h3
      | false =>
        refine .inr ⟨by simp [h1], .inr ⟨h2, ?_⟩⟩
        rcases Rn.bl_total l topD with h4 | h4 | h4
        · exact .inl h4
        · exact .inr (by rw [h4]; simp)
        · rw [h3] at h4; cases h4
    · exact .inr ⟨by simp [h1, h2], .inl (by omega)⟩
theorem val_take (l : List UInt8) (k : Nat) : val 0 (l.take k) ≤ val 0 l := by
  have h := val_append (l.take k) (l.drop k) 0
  rw [List.take_append_drop] at h
  have h2 := val_ge (l.drop k) (val 0 (l.take k))
  have h3 : 1 ≤ 10 ^ (l.drop k).length := Nat.pow_pos (by omega)
  have := Nat.mul_le_mul_left (val 0 (l.take k)) h3
  omega

set_option maxRecDepth 100000 in
set_option maxHeartbeats 1000000 in
theorem rnum_any (s : ByteArray) (most : Nat) (hs : s.size ≤ 1073741824) (hm : most < 18446744073709551616) (w : World) :
    Calls Tryd.prog 23 #[.string s, .int .u64 (most : Int)] w (NumPost w .i64 (numS s.data.toList most)) := by
  obtain ⟨l, hl⟩ : ∃ l, l = s.data.toList := ⟨_, rfl⟩
  have hln : l.length = s.size := by rw [hl]; exact len_eq s
  have HL := Lib.hid hl
  rw [← hl]
  cases hc : l with
  | nil =>
    rw [hc] at hln
    have hz : s.size = 0 := by rw [← hln]; rfl
    have e : numS [] most = (0, 3) := rfl
    rw [e]
    clear hl hln hc HL
    go_enter Tryd.func23, Tryd.ntmps23
    go_wp2
    go_ret2
    exact ⟨rfl, Below.refl _ _⟩
  | cons u r =>
    have hsz : s.size = r.length + 1 := by rw [← hln, hc]; rfl
    have hix := str_at (s := s) (k := 0) (u := u) (by rw [← hl, hc]; rfl)
    have hz : 0 < s.size := by omega
    have hz' : ¬ s.size = 0 := by omega
    by_cases h0 : 1 < r.length + 1 ∧ u = 48
    · have e : numS (u :: r) most = (0, 3) := by
        unfold numS
        rw [if_neg]
        unfold isNum
        simp only [List.length_cons, List.headD_cons, h0.1, h0.2]
        simp
      have h1 : (1 : Int) < (s.size : Int) := by omega
      have h48 : u = 48 := h0.2
      subst h48
      rw [e]
      clear hl hln hc HL
      go_enter Tryd.func23, Tryd.ntmps23
      go_wp2
      go_ret2
      exact ⟨rfl, Below.refl _ _⟩
    · have HI := Lib.hid (show isNum l = l.all dig by
        rw [hc]
        unfold isNum
        have : (decide (1 < (u :: r).length) && (u :: r).headD 0 == 48) = false := by
          rw [Bool.eq_false_iff]
          intro h
          simp only [Bool.and_eq_true, decide_eq_true_eq, List.length_cons, List.headD_cons, beq_iff_eq] at h
          exact h0 h
        rw [this]
        simp)
      rw [← hc]
      obtain ⟨n, hn⟩ : ∃ n, s.size = n := ⟨_, rfl⟩
      rw [hn] at hln
      have HLN := Lib.hid hln
      have key : (¬ (1 : Int) < (n : Int)) ∨ ((1 : Int) < (n : Int) ∧ ((u.toNat : Int) == 48) = false) := by
        by_cases h1 : 1 < r.length + 1
        · exact .inr ⟨by omega, beq_eq_false_iff_ne.2 (nat_ne (c := 48) (by omega) fun e => h0 ⟨h1, e⟩)⟩
        · exact .inl (by omega)
      rw [hn] at hz hz' hs
      have HM := Lib.hid hm
      have HD := Lib.hid (show (l.take 0).all dig = true from rfl)
      clear hl hc hln hsz h0 hm
      go_enter Tryd.func23, Tryd.ntmps23
      rcases key with k1 | ⟨k1, k2⟩
      all_goals
        go_wp2
        go_loopw [6] (fun i wr => ∃ k : Nat, i = .int .i64 (k : Int) ∧ k ≤ n ∧ wr = w ∧ Hid ((l.take k).all dig = true)) (fun i _ => (n - intOf i).toNat)
        case atStart => exact ⟨0, rfl, Nat.zero_le _, rfl, HD⟩
        case round =>
          clear HD hix
          obtain ⟨k, rfl, hk, rfl, HD⟩ := hrel
          by_cases hkn : k < n
          · have hu := Tx.get_at l k (by rw [HLN.out]; exact hkn)
            obtain ⟨x, hg⟩ : ∃ x, l.getD k 0 = x := ⟨_, rfl⟩
            rw [hg] at hu
            have hix := str_at (by rw [← HL.out]; exact hu)
            have hk2 : k < s.size := by omega
            by_cases hx : dig x = true
            · have hd := dig_iff.1 hx
              have HD2 := Lib.hid (show (l.take (k + 1)).all dig = true by rw [take_snoc hu, List.all_append, HD.out]; simp [hx])
              have q1 : ¬ (x.toNat : Int) < 48 := by omega
              have q2 : ¬ 57 < (x.toNat : Int) := by omega
              clear hu hg hx hd
              go_wp2
              go_roundw
              case rel => exact ⟨k + 1, by first | rfl | (congr 1), by omega, by first | rfl | trivial, HD2⟩
              case measure => simp [intOf]; omega
            · have e : numS l most = (0, 3) := by
                unfold numS
                rw [if_neg]
                rw [HI.out]
                intro h
                exact hx (List.all_eq_true.1 h x (List.mem_of_getElem? hu))
              have hd : ¬ (48 ≤ x.toNat ∧ x.toNat ≤ 57) := fun h => hx (dig_iff.2 h)
              have q : (x.toNat : Int) < 48 ∨ (¬ (x.toNat : Int) < 48 ∧ 57 < (x.toNat : Int)) := by omega
              rw [e]
              clear hu hg hx hd e
              rcases q with q1 | ⟨q1, q2⟩
              all_goals
                go_wp2
                go_ret2
                exact ⟨rfl, Below.refl _ _⟩
          · have hkk : k = n := by omega
            have hall : isNum l = true := by
              rw [HI.out]
              have := HD.out
              rw [List.take_of_length_le (by rw [HLN.out]; omega)] at this
              exact this
            have hdoc := numS_doc HM.out hall
            have HALL := Lib.hid hall
            have HDOC := Lib.hid hdoc
            clear hdoc hall HD
            have hsl : s.toList = l := by rw [Go.ByteArray.toList_eq, ← HL.out]
            rcases top_cases l n HLN.out with ⟨ho, hw⟩ | ⟨ho, hw⟩
            · have HEE := Lib.hid (show numS l most = (0, 9) by rw [HDOC.out, if_pos ho])
              rw [← hsl] at hw
              clear ho hsl
              rcases hw with q1 | ⟨q1, q2, q3⟩
              · have q4 : (20 : Int) < (n : Int) := by omega
                go_wp2
                go_ret2
                exact ⟨by rw [HEE.out]; rfl, Below.refl _ _⟩
              · have q4 : ¬ (20 : Int) < (n : Int) := by omega
                have q5 : (n : Int) = 20 := by omega
                unfold topD at q2 q3
                go_wp2
                go_ret2
                exact ⟨by rw [HEE.out]; rfl, Below.refl _ _⟩
            · have e : numS l most = if most < val 0 l then (0, 9) else (val 0 l, 0) := by rw [HDOC.out, if_neg (by rw [ho]; simp)]
              have HE := Lib.hid e
              have HV := Lib.hid (show val 0 l ≤ 18446744073709551615 from Nat.le_of_not_lt fun h => by rw [(over_iff HALL.out).2 h] at ho; cases ho)
              have HV0 := Lib.hid (show 0 = val 0 (l.take 0) from rfl)
              rw [← hsl] at hw
              clear ho e hsl hkn
              have q4 : ¬ (20 : Int) < (n : Int) := by rcases hw with h | h <;> omega
              have hw2 : (¬ (n : Int) = 20) ∨ ((n : Int) = 20 ∧ Op.bytesLess s.toList topD = true) ∨ ((n : Int) = 20 ∧ (s.toList == topD) = true) := by
                rcases hw with h | ⟨h, h1 | h1⟩
                · exact .inl (by omega)
                · exact .inr (.inl ⟨by omega, h1⟩)
                · exact .inr (.inr ⟨by omega, h1⟩)
              unfold topD at hw2
              clear hw
              rcases hw2 with q5 | ⟨q5, q6⟩ | ⟨q5, q6⟩
              all_goals
                go_wp2
                go_loopw [7, 8] (fun v i wx => ∃ k v0 : Nat, v = .int .u64 (v0 : Int) ∧ i = .int .i64 (k : Int) ∧ k ≤ n ∧ wx = wr ∧ Hid (v0 = val 0 (l.take k))) (fun _ i _ => (n - intOf i).toNat)
                case atStart => exact ⟨0, 0, rfl, rfl, Nat.zero_le _, rfl, HV0⟩
                case round =>
                  clear HV0 q5
                  obtain ⟨k, v0, rfl, rfl, hk, rfl, HA⟩ := hrel
                  by_cases hkn : k < n
                  · have hu := Tx.get_at l k (by rw [HLN.out]; exact hkn)
                    obtain ⟨x, hg⟩ : ∃ x, l.getD k 0 = x := ⟨_, rfl⟩
                    rw [hg] at hu
                    have hix := str_at (by rw [← HL.out]; exact hu)
                    have hk2 : k < s.size := by omega
                    have hd : dig x = true := by
                      have := HALL.out
                      rw [HI.out] at this
                      exact List.all_eq_true.1 this x (List.mem_of_getElem? hu)
                    have hd2 := dig_iff.1 hd
                    obtain ⟨d, hdd⟩ : ∃ d, d = x.toNat - 48 := ⟨_, rfl⟩
                    have hnx : val 0 (l.take (k + 1)) = 10 * v0 + d := by rw [take_snoc hu, val_append, ← HA.out, val_cons, val_nil, hdd]
                    have hle := val_take l (k + 1)
                    have hv := HV.out
                    have z1 : IntKind.u64.wrap (10 * (v0 : Int)) = 10 * (v0 : Int) := IntWalk.u64_in _ (by omega)
                    have z2 : ((x.toNat : Int) - 48) % 256 = (d : Int) := by omega
                    have z3 : IntKind.u64.wrap (d : Int) = (d : Int) := IntWalk.u64_in _ (by omega)
                    have z4 : IntKind.u64.wrap (10 * (v0 : Int) + (d : Int)) = 10 * (v0 : Int) + (d : Int) := IntWalk.u64_in _ (by omega)
                    have HA2 := Lib.hid (show 10 * v0 + d = val 0 (l.take (k + 1)) from hnx.symm)
                    clear hu hg hd hd2 hdd hnx hle hv HA
                    go_wp2
                    go_roundw
                    case rel => exact ⟨k + 1, 10 * v0 + d, by first | rfl | (congr 1), by first | rfl | (congr 1), by omega, by first | rfl | trivial, HA2⟩
                    case measure => simp [intOf]; omega
                  · have hkk : k = n := by omega
                    have hA := HA.out
                    rw [List.take_of_length_le (by rw [HLN.out]; omega)] at hA
                    have hE := HE.out
                    rw [← hA] at hE
                    have z5 : ¬ (k : Int) < (n : Int) := by omega
                    by_cases hm2 : most < v0
                    · rw [if_pos hm2] at hE
                      have HE2 := Lib.hid hE
                      have z1 : (most : Int) < (v0 : Int) := by omega
                      clear hA hE
                      go_wp2
                      go_ret2
                      exact ⟨by rw [HE2.out]; rfl, Below.refl _ _⟩
                    · rw [if_neg hm2] at hE
                      have HE2 := Lib.hid hE
                      have z1 : ¬ (most : Int) < (v0 : Int) := by omega
                      clear hA hE
                      go_wp2
                      go_ret2
                      exact ⟨by rw [HE2.out]; rfl, Below.refl _ _⟩
end Go.Proofs.YtbedepnmgnlijaaDoor
