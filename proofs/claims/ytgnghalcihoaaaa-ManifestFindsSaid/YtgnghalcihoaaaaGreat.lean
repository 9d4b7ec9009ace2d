/- More than is gone through? -/
import Derived.Test.YtgnghalcihoaaaaRBody
namespace Go.Proofs.Ytgnghalcihoaaaa
open Go.RowKit Me Mf Va

/-- How much is gone through. -/
def tinySum : List FileD → Nat
  | [] => 0
  | f :: l => min f.blocks.length 3000 + min f.name.length 3000 + tinySum l
theorem tinySum_append : ∀ l m : List FileD, tinySum (l ++ m) = tinySum l + tinySum m
  | [], m => by simp [tinySum]
  | f :: l, m => by simp only [List.cons_append, tinySum, tinySum_append l m]; omega
theorem tinySum_take {l : List FileD} {k : Nat} {f : FileD} (h : l[k]? = some f) : tinySum (l.take (k + 1)) = tinySum (l.take k) + (min f.blocks.length 3000 + min f.name.length 3000) := by
  rw [take_snoc h, tinySum_append]; simp [tinySum]
theorem tinySum_le : ∀ l : List FileD, tinySum l ≤ 6000 * l.length
  | [] => Nat.le_refl _
  | f :: l => by have := tinySum_le l; simp only [tinySum, List.length_cons]; omega
def Tiny (m : ManD) : Prop := m.files.length ≤ 60 ∧ tinySum m.files ≤ 3000
theorem body_of_names : ∀ l : List FileD, (∀ f ∈ l, WfF f) → (∀ f ∈ l, 1 ≤ f.name.length ∧ f.name.length ≤ 32) → tinySum l ≤ 3000 → (encFs l).length ≤ 64 * l.length + 10 * tinySum l
  | [], _, _, _ => Nat.le_refl _
  | f :: l, hw, hn, ht => by
    simp only [tinySum] at ht
    have h1 := body_of_names l (fun g hg => hw g (by simp [hg])) (fun g hg => hn g (by simp [hg])) (by omega)
    have h2 := hn f (by simp)
    have h3 := hw f (by simp)
    have e1 := enc_ten (show f.name.length < 18446744073709551616 by omega)
    have e2 := enc_ten (show f.id < 18446744073709551616 by have := h3.id; omega)
    have e3 := enc_ten (show f.size.toNat < 18446744073709551616 by have := h3.high; omega)
    have e4 : (encBs f.blocks).length ≤ 10 * f.blocks.length := by
      have : ∀ bs : List Int, (∀ b ∈ bs, b ≤ 9223372036854775807) → (encBs bs).length ≤ 10 * bs.length := by
        intro bs
        induction bs with
        | nil => intro _; exact Nat.le_refl _
        | cons b r ih =>
          intro hb
          have := ih (fun c hc => hb c (by simp [hc]))
          have := enc_ten (show b.toNat < 18446744073709551616 by have := hb b (by simp); omega)
          simp only [encBs, List.length_append, List.length_cons]; omega
      exact this _ fun b hb => (h3.blocks b hb).2
    simp only [encFs, encF, List.length_append, List.length_cons, tinySum]
    omega
theorem tiny_body {m : ManD} (h : Tiny m) (hw : Wf m) (hg : Mf.Good m.next m.files) : (body m).length ≤ 40000 := by
  have h1 := body_of_names m.files hw.files hg.1.1 h.2
  have h2 := enc_ten hw.version
  have h3 := enc_ten (show m.next < 18446744073709551616 by have := hw.next; omega)
  have h4 := enc_ten (show m.files.length < 18446744073709551616 by have := h.1; omega)
  have h5 := h.1
  have h6 := h.2
  unfold body
  simp only [List.length_append]
  omega
set_option maxRecDepth 100000 in
set_option maxHeartbeats 2000000 in
theorem great_any (v x : Nat) (A : Option Addr) (n c : Nat) (m : ManD) (w : World) (h : ManAt w w.heap.size A n c m) :
    Calls Try.prog 12 #[mval v x A n c] w (Bp w (¬ Tiny m)) := by
  obtain ⟨HF, HL, -, hn63, -⟩ := h
  have HF := Lib.hid HF
  have HL := Lib.hid HL
  obtain ⟨l, hl⟩ : ∃ l, l = m.files := ⟨_, rfl⟩
  have HT := Lib.hid (show Tiny m ↔ (n ≤ 60 ∧ tinySum l ≤ 3000) by unfold Tiny; rw [HL.out, hl])
  rw [← hl] at HF HL
  clear hl
  obtain ⟨wb, hwb⟩ : ∃ wb, wb = w.alloc (mbox v x A n c) := ⟨_, rfl⟩
  have HWB := Lib.hid hwb
  have HB0 := Lib.hid (show Below w.heap.size w wb by rw [hwb]; exact (Below.refl _ _).alloc (Nat.le_refl _) _)
  have KM := Lib.hid (show Kp wb w.heap.size (mbox v x A n c) by rw [hwb]; exact Kp.new w _)
  clear hwb
  by_cases h60 : 60 < n
  · have d1 : decide ((60 : Int) < (n : Int)) = true := by simp; omega
    clear HB0 KM HWB
    go_enter Try.func12, Try.ntmps12
    go_wp2
    go_ret
    exact ⟨true, rfl, ⟨fun _ h => (by have := (HT.out.1 h).1; omega), fun _ => rfl⟩, (Below.refl _ _).alloc (Nat.le_refl _) _⟩
  · have d1 : decide ((60 : Int) < (n : Int)) = false := by simp; omega
    go_enter Try.func12, Try.ntmps12
    go_wp2_with fail
    rw [← HWB.out]
    clear HWB
    go_loopw [3, 12] (fun s i wr => ∃ k t : Nat, k ≤ n ∧ i = .int .i64 (k : Int) ∧ s = .int .i64 (t : Int) ∧ t ≤ 6000 * k ∧ Hid (t = tinySum (l.take k)) ∧ Hid (Kp wr w.heap.size (mbox v x A n c)) ∧ Hid (Below w.heap.size w wr)) (fun _ i _ => n - (intOf i).toNat)
    case atStart => exact ⟨0, 0, Nat.zero_le _, rfl, rfl, by omega, Lib.hid rfl, KM, HB0⟩
    case round =>
      clear HB0 KM
      obtain ⟨k, t, hk, rfl, rfl, ht, HS, K, HB⟩ := hrel
      by_cases hlt : k < n
      · obtain ⟨a, f, rfl, hab, hf, A2, n2, c2, g0, -, -, g3, g4, -⟩ := (HF.out.below HB.out).at (by rw [HL.out]; exact hlt)
        obtain ⟨nm, hnm⟩ : ∃ nm, nm = f.name := ⟨_, rfl⟩
        rw [← hnm] at g0
        obtain ⟨m1, hm1⟩ : ∃ m1, m1 = nm.length := ⟨_, rfl⟩
        have hs1 : (ByteArray.mk nm.toArray).size = m1 := by rw [hm1]; exact List.size_toArray ..
        obtain ⟨u1, hu1⟩ : ∃ u1 : Nat, u1 = min n2 3000 := ⟨_, rfl⟩
        obtain ⟨u2, hu2⟩ : ∃ u2 : Nat, u2 = min m1 3000 := ⟨_, rfl⟩
        have hu1' : u1 ≤ 3000 := by omega
        have hu2' : u2 ≤ 3000 := by omega
        have HSX := Lib.hid (show t + u1 + u2 = tinySum (l.take (k + 1)) from by
          rw [tinySum_take hf, HS.out, hu1, hu2, hm1, hnm, g4]; omega)
        have HU1 := Lib.hid (show (if (3000 : Int) < (n2 : Int) then (3000 : Int) else (n2 : Int)) = (u1 : Int) by rw [hu1]; split <;> omega)
        have HU2 := Lib.hid (show (if (3000 : Int) < (m1 : Int) then (3000 : Int) else (m1 : Int)) = (u2 : Int) by rw [hu2]; split <;> omega)
        have HG0 := Lib.hid g0
        have HG3 := Lib.hid g3
        have hab2 : (a.add (k * 4)).block < w.heap.size := by rw [block_add]; exact hab
        clear hf hnm hm1 hu1 hu2 g0 g3 g4
        have hwr : w.heap.size < wr.heap.size := K.out.2
        obtain ⟨-, -, k2⟩ := K.out.man
        have k0 := HG0.out
        have k3 := HG3.out
        have q1 := HU1.out
        have q2 := HU2.out
        have q3 : IntKind.i64.wrap ((t : Int) + (u1 : Int)) = (t : Int) + u1 := by rw [IntKind.wrap_i64]; omega
        have q4 : IntKind.i64.wrap ((t : Int) + (u1 : Int) + (u2 : Int)) = (t : Int) + u1 + u2 := by rw [IntKind.wrap_i64]; omega
        go_wp2_with fail
        go_region
        clear q1 q2 q3 q4 k0 k2 k3
        obtain ⟨t', ht'⟩ : ∃ t', t' = t + u1 + u2 := ⟨_, rfl⟩
        have hts : (t : Int) + (u1 : Int) + (u2 : Int) = (t' : Int) := by omega
        have ht6 : t' ≤ 6000 * (k + 1) := by omega
        rw [← ht'] at HSX
        rw [hts]
        clear ht' hts
        have K2 := Lib.hid (K.out.past (Below.refl _ _).drew)
        have B2 := Lib.hid HB.out.drew
        go_wp2
        go_roundw
        case rel => exact ⟨k + 1, t', by omega, by go_num, rfl, ht6, HSX, K2, B2⟩
        case measure => simp [intOf]; omega
      · have hkn : k = n := by omega
        subst hkn
        have e : l.take k = l := by rw [← HL.out, List.take_length]
        have HSE := HS
        rw [e] at HSE
        clear HS e
        by_cases hbig : 3000 < t
        · have d2 : decide ((3000 : Int) < (t : Int)) = true := by simp; omega
          go_wp2
          go_ret
          exact ⟨true, rfl, ⟨fun _ h => (by have := (HT.out.1 h).2; have := HSE.out; omega), fun _ => rfl⟩, HB.out⟩
        · have d2 : decide ((3000 : Int) < (t : Int)) = false := by simp; omega
          go_wp2
          go_ret
          exact ⟨false, rfl, ⟨fun h => (by cases h), fun h => absurd (HT.out.2 ⟨by omega, by have := HSE.out; omega⟩) h⟩, HB.out⟩
end Go.Proofs.Ytgnghalcihoaaaa
