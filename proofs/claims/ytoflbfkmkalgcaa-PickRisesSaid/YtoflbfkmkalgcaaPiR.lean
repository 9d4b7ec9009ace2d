/- The document's number to which a draw is mapped. -/
import Derived.Test.YtoflbfkmkalgcaaPiB
namespace Go.Proofs.Ytoflbfkmkalgcaa
open Go.RowKit Me Va Al

theorem metN_step {T : List CelD} {S k q : Nat} {c : CelD} (hc : T[q]? = some c) (hcut : ∀ d ∈ T, d.cut ≤ S) {r : Nat} (hr : r ≤ S) :
    metN T S k (q * S + r) = metN T S k (q * S) + ((if q = k then min r c.cut else 0) + if c.oth = k then r - min r c.cut else 0) := by
  have hq : q < T.length := (List.getElem?_eq_some_iff.1 hc).1
  have h0 := metN_all (k := k) hcut q (by omega)
  have h1 := metN_part (k := k) hc (hcut _ (List.mem_of_getElem? hc)) h0 r hr
  rw [Nat.mul_comm q S, h1, h0]
set_option maxRecDepth 100000 in
set_option maxHeartbeats 4000000 in
theorem refbelow_any (A : Option Addr) (n c : Nat) (T : List CelD) (S k x : Nat) (w : World) (hl : T.length = n) (hn : n ≤ 1000000) (hS : S ≤ 2147483647) (hk : k < n) (hx : x ≤ n * S) (hcut : ∀ d ∈ T, d.cut ≤ S) (hc : Cels w w.heap.size A T) :
    Calls Try.prog 28 #[.slice A n c, .int .u64 (S : Int), .int .i64 (k : Int), .int .u64 (x : Int)] w fun e w' => e = .returned (.int .u64 (metN T S k x : Int)) ∧ w' = w := by
  have HL := Lib.hid hl
  have HC := Lib.hid hc
  have HCU := Lib.hid hcut
  have HX := Lib.hid hx
  have hxl : x ≤ 2147483647000000 := by
    have : n * S ≤ 1000000 * 2147483647 := Nat.mul_le_mul hn hS
    omega
  clear hl hc hcut hx
  go_enter Try.func28, Try.ntmps28
  go_wp2
  go_loop [9, 15] (fun v i => ∃ q y : Nat, q ≤ n ∧ i = .int .i64 (q : Int) ∧ v = .int .u64 (y : Int) ∧ y ≤ x ∧ Hid (q * S ≤ x ∧ y = metN T S k (q * S) ∨ x < q * S ∧ y = metN T S k x)) (fun _ i => n - (intOf i).toNat)
  case atStart => exact ⟨0, 0, Nat.zero_le _, rfl, rfl, Nat.zero_le _, Lib.hid (.inl ⟨by omega, by rw [Nat.zero_mul]; rfl⟩)⟩
  case round =>
    obtain ⟨q, y, hq, rfl, rfl, hy, HE⟩ := hrel
    by_cases hlt : q < n
    · have hlt2 : (q : Int) < (n : Int) := by omega
      obtain ⟨f, hf⟩ : ∃ f, f = q * S := ⟨_, rfl⟩
      have hfm : f ≤ 2147483647000000 := by
        have : q * S ≤ 1000000 * 2147483647 := Nat.mul_le_mul (by omega) hS
        omega
      have e1 : (q : Int) * (S : Int) = (f : Int) := by rw [hf]; exact (Int.natCast_mul _ _).symm
      have v1 : IntKind.u64.wrap (q : Int) = (q : Int) := IntWalk.u64_in _ (by omega)
      by_cases hfx : x ≤ f
      · have hfx2 : (x : Int) ≤ (f : Int) := by omega
        have FIN := Lib.hid (show metN T S k x = y by
          rcases HE.out with ⟨h1, h2⟩ | ⟨h1, h2⟩
          · rw [h2, show q * S = x by omega]
          · exact h2.symm)
        clear hf
        go_wp2
        go_ret
        exact ⟨ret_int (by rw [FIN.out]), rfl⟩
      · have hfx2 : ¬ (x : Int) ≤ (f : Int) := by omega
        obtain ⟨a, d, rfl, hd, hab, d0, d1, -, ho⟩ := HC.out.at (k := q) (by rw [HL.out]; exact hlt)
        have hcu := HCU.out d (List.mem_of_getElem? hd)
        obtain ⟨z, hz⟩ : ∃ z, z = x - f := ⟨_, rfl⟩
        have e2 : (x : Int) - (f : Int) = (z : Int) := by omega
        have hyf : y = metN T S k (q * S) := by
          rcases HE.out with ⟨h1, h2⟩ | ⟨h1, h2⟩
          · exact h2
          · omega
        have NEW := Lib.hid (fun (r y2 : Nat) (h1 : r ≤ S) (h2 : r ≤ z) (h3 : r = S ∨ r = z) (h4 : y2 = y + ((if q = k then min r d.cut else 0) + if d.oth = k then r - min r d.cut else 0)) => show y2 ≤ x ∧ ((q + 1) * S ≤ x ∧ y2 = metN T S k ((q + 1) * S) ∨ x < (q + 1) * S ∧ y2 = metN T S k x) by
          have h5 := metN_step (k := k) hd HCU.out h1
          rw [← hyf, ← h4] at h5
          have h6 := metN_le T S k (q * S + r)
          have h7 : (q + 1) * S = q * S + S := Nat.add_one_mul _ _
          refine ⟨by omega, ?_⟩
          rcases h3 with rfl | rfl
          · exact .inl ⟨by omega, by rw [h7, h5]⟩
          · rcases Nat.lt_or_ge x ((q + 1) * S) with h8 | h8
            · exact .inr ⟨h8, by rw [← h5]; congr 1; omega⟩
            · have : S = r := by omega
              exact .inl ⟨h8, by rw [h7, ← h5]; congr 1; omega⟩)
        have hzl : z ≤ 2147483647000000 := by omega
        clear hz hf hd hyf HE
        -- how many of the cell's draws lie below
        obtain ⟨r, hr1, hr2, hr3, hway⟩ : ∃ r, r ≤ S ∧ r ≤ z ∧ (r = S ∨ r = z) ∧ (((S : Int) < (z : Int) ∧ r = S) ∨ (¬ (S : Int) < (z : Int) ∧ r = z)) := by
          rcases Nat.lt_or_ge S z with h | h
          · exact ⟨S, Nat.le_refl _, by omega, .inl rfl, .inl ⟨by omega, rfl⟩⟩
          · exact ⟨z, h, Nat.le_refl _, .inr rfl, .inr ⟨by omega, rfl⟩⟩
        have HR3 := Lib.hid hr3
        clear hr3
        rcases hway with ⟨hw1, rfl⟩ | ⟨hw1, rfl⟩ <;>
        rcases (show (((q : Int) == (k : Int)) = true ∧ q = k) ∨ (((q : Int) == (k : Int)) = false ∧ ¬ q = k) from by
          by_cases h : q = k
          · exact .inl ⟨by rw [beq_iff_eq]; omega, h⟩
          · exact .inr ⟨by rw [beq_eq_false_iff_ne]; omega, h⟩) with ⟨b1, b1'⟩ | ⟨b1, b1'⟩ <;>
        rcases (show (((d.oth : Int) == (k : Int)) = true ∧ d.oth = k) ∨ (((d.oth : Int) == (k : Int)) = false ∧ ¬ d.oth = k) from by
          by_cases h : d.oth = k
          · exact .inl ⟨by rw [beq_iff_eq]; omega, h⟩
          · exact .inr ⟨by rw [beq_eq_false_iff_ne]; omega, h⟩) with ⟨b2, b2'⟩ | ⟨b2, b2'⟩ <;>
        rcases (show ((d.cut : Int) < (r : Int) ∧ min r d.cut = d.cut) ∨ (¬ (d.cut : Int) < (r : Int) ∧ min r d.cut = r) from by
          rcases Nat.lt_or_ge d.cut r with h | h
          · exact .inl ⟨by omega, by omega⟩
          · exact .inr ⟨by omega, by omega⟩) with ⟨b3, b3'⟩ | ⟨b3, b3'⟩ <;>
        · obtain ⟨y2, hy2⟩ : ∃ y2, y2 = y + ((if q = k then min r d.cut else 0) + if d.oth = k then r - min r d.cut else 0) := ⟨_, rfl⟩
          have HN := Lib.hid (NEW.out r y2 hr1 hr2 HR3.out hy2)
          simp only [b1', b2', b3', ↓reduceIte] at hy2
          have HY := Lib.hid hy2
          clear b1' b2' b3' hy2 NEW
          go_wp2
          exact ⟨⟨q + 1, y2, by omega, by go_num, by have := HY.out; congr 1; omega, HN.out.1, Lib.hid HN.out.2⟩, by simp [intOf]; omega⟩
    · have hlt2 : ¬ (q : Int) < (n : Int) := by omega
      have e : q = n := by omega
      have FIN := Lib.hid (show metN T S k x = y by
        rcases HE.out with ⟨h1, h2⟩ | ⟨h1, h2⟩
        · rw [h2, show q * S = x by have := HX.out; rw [e] at h1 ⊢; omega]
        · exact h2.symm)
      clear e
      go_wp2
      go_ret
      exact ⟨ret_int (by rw [FIN.out]), rfl⟩
end Go.Proofs.Ytoflbfkmkalgcaa
