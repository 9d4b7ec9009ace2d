import Derived.Test.YtgnghalcihoaaaaSum
import Derived.Test.YtgnghalcihoaaaaFoot
namespace Go.Proofs.Ytgnghalcihoaaaa
open Go.RowKit Cr Me

def zero256 : Array Value := Array.replicate 256 (.int .u32 0)
theorem zero_info : (Try.prog.info? 155).map (fun i => (i.zero, i.size)) = some (some (.agg zero256), 256) := by kernel_rfl
/-- The effect of byte i. -/
def effI (i : Nat) : Int := ((shN 8 (BitVec.ofNat 32 i)).toNat : Int)
theorem zero_first : zero256[0]? = some (.int .u32 (effI 0)) := by kernel_rfl
/-- The world as the loops know it: the first m effects stand in the second new block. -/
def Eff (w wr : World) (m : Nat) : Prop :=
  ∃ cs : Array Value, cs.size = 256 ∧ wr = (w.alloc (.cells zero256 155)).alloc (.cells cs 155) ∧ ∀ i, i < m → cs[i]? = some (.int .u32 (effI i))
theorem Eff.cells {w wr : World} {m i j : Nat} (h : Eff w wr m) (hi : i < m) (hj : j < 256) :
    wr.cell? ⟨w.heap.size + 1, i, none⟩ = some (.int .u32 (effI i)) ∧ (∃ v, wr.cell? ⟨w.heap.size + 1, j, none⟩ = some v) ∧ wr.frozen? ⟨w.heap.size + 1, j, none⟩ = false := by
  obtain ⟨cs, hs, rfl, hc⟩ := h
  have hh := heap_alloc_last (w.alloc (.cells zero256 155)) (.cells cs 155)
  rw [show (w.alloc (.cells zero256 155)).heap.size = w.heap.size + 1 by simp] at hh
  refine ⟨?_, ⟨cs[j], ?_⟩, ?_⟩
  · simp only [World.cell?, hh]; simpa using hc i hi
  · simp only [World.cell?, hh]; simp [hs, hj]
  · unfold World.frozen?; rw [hh]; simp
theorem Eff.store {w wr : World} {m : Nat} (h : Eff w wr m) (hM : m < 256) {x : Int} (hx : x = effI m) : Eff w (wr.setCell ⟨w.heap.size + 1, m, none⟩ (.int .u32 x)) (m + 1) := by
  obtain ⟨cs, hs, rfl, hc⟩ := h
  refine ⟨cs.setIfInBounds m (.int .u32 x), by simpa using hs, ?_, fun i hi => ?_⟩
  · have hsz : (w.alloc (.cells zero256 155)).heap.size = w.heap.size + 1 := by simp
    rw [← hsz]
    generalize w.alloc (.cells zero256 155) = u
    simp only [World.setCell, World.alloc]
    congr 1
    apply Array.ext_getElem?
    intro k
    rw [Array.getElem?_modify]
    by_cases hk : u.heap.size = k
    · subst hk; simp
    · have hk' : ¬ k = u.heap.size := fun e => hk e.symm
      simp [hk, hk', Array.getElem?_push]
  · rw [Array.getElem?_setIfInBounds]
    by_cases h : m = i
    · subst h
      rw [if_pos rfl]
      by_cases h2 : m < cs.size
      · rw [if_pos h2, hx]
      · exact absurd (by rw [hs]; exact hM) h2
    · rw [if_neg h]
      exact hc i (by omega)
theorem Eff.sum {t r : Nat} {f : Reg} (ht : t ≤ 128) (hp : ∃ b, t = 2 ^ b) (hr : r < t) (hf : f = shN 8 (BitVec.ofNat 32 t)) : bits .xor .u32 (effI r) (f.toNat : Int) = effI (t + r) := by
  unfold effI
  rw [xor_reg, hf, ← shN_xor]
  congr 3
  apply BitVec.eq_of_toNat_eq
  rw [BitVec.toNat_xor, BitVec.toNat_ofNat, BitVec.toNat_ofNat, BitVec.toNat_ofNat, Nat.mod_eq_of_lt (by omega), Nat.mod_eq_of_lt (by omega), Nat.mod_eq_of_lt (by omega)]
  obtain ⟨b, rfl⟩ := hp
  rw [Nat.xor_comm]
  have := Nat.two_pow_add_eq_or_of_lt hr 1
  rw [Nat.mul_one] at this
  rw [this]
  apply Nat.eq_of_testBit_eq
  intro i
  rw [Nat.testBit_xor, Nat.testBit_or, Nat.testBit_two_pow]
  by_cases h : b = i
  · subst h
    have : r.testBit b = false := Nat.testBit_lt_two_pow hr
    simp [this]
  · simp [h]
theorem below_setCells {B : Nat} {a : World} (b : Nat) : ∀ (vs : List Value) (o : Nat) {w : World}, Below B a w → B ≤ b → Below B a (w.setCells b o vs)
  | [], _, _, h, _ => h
  | _ :: vs, o, _, h, hb => below_setCells b vs (o + 1) (h.setCell (p := ⟨b, o, none⟩) hb _) hb
set_option maxRecDepth 100000 in
set_option maxHeartbeats 400000 in
theorem effects_any (w : World) :
    Calls Try.prog 110 #[] w fun e w' => ∃ cs, e = .returned (.agg cs) ∧ cs.size = 256 ∧ (∀ i, i < 256 → cs[i]? = some (.int .u32 ((shN 8 (BitVec.ofNat 32 i)).toNat : Int))) ∧ Below w.heap.size w w' := by
  have hz : ∀ w, (zeroValue 155).run Try.prog w = .ok (.agg zero256) w := (zero_of_info zero_info).1
  go_enter Try.func110, Try.ntmps110
  go_wp2
  go_loopw [6] (fun i wr => ∃ b : Nat, b ≤ 8 ∧ i = .int .i64 b ∧ Hid (Eff w wr (2 ^ b))) (fun i _ => 8 - (intOf i).toNat)
  case atStart => exact ⟨0, by omega, rfl, Lib.hid ⟨zero256, by simp [zero256], rfl, fun i hi => by
    have : i = 0 := by simpa using hi
    subst this
    exact zero_first⟩⟩
  case round =>
    obtain ⟨b, hb, rfl, HE⟩ := hrel
    by_cases hlt : b < 8
    · obtain ⟨t, ht⟩ : ∃ t, t = 2 ^ b := ⟨_, rfl⟩
      have ht1 : 1 ≤ t := by rw [ht]; exact Nat.one_le_two_pow
      have ht128 : t ≤ 128 := by rw [ht]; calc 2 ^ b ≤ 2 ^ 7 := Nat.pow_le_pow_right (by omega) (by omega)
        _ = 128 := rfl
      have HT := Lib.hid ht
      clear ht
      go_wp2_with fail
      rw [show wrap64 (2 ^ b) = (t : Int) from by
        rw [HT.out]
        have e : ((2 ^ b : Nat) : Int) = (2 : Int) ^ b := by simp
        rw [← e, ← HT.out]
        unfold wrap64; omega]
      rw [show (t : Int) % 4294967296 = ((BitVec.ofNat 32 t).toNat : Int) from by rw [BitVec.toNat_ofNat]; omega]
      refine (shifted_any _ _).mono ?_
      rintro e w' ⟨rfl, rfl⟩
      obtain ⟨f, hf⟩ : ∃ f, f = shN 8 (BitVec.ofNat 32 t) := ⟨_, rfl⟩
      rw [← hf]
      have HF := Lib.hid hf
      clear hf
      rw [HT.out.symm] at HE
      go_wp2
      go_loopw [15] (fun i wr => ∃ r : Nat, r ≤ t ∧ i = .int .i64 r ∧ Hid (Eff w wr (t + r))) (fun i _ => t - (intOf i).toNat)
      case atStart => exact ⟨0, by omega, rfl, HE⟩
      case round =>
        obtain ⟨r, hr, rfl, HE2⟩ := hrel
        by_cases hrt : r < t
        · obtain ⟨c1, ⟨v0, c2⟩, c3⟩ := HE2.out.cells (i := r) (j := t + r) (by omega) (by omega)
          have hf1 := reg_lt f
          go_wp2
          go_roundw
          case rel => exact ⟨r + 1, by omega, by go_num, Lib.hid (HE2.out.store (by omega) (Eff.sum ht128 ⟨b, HT.out⟩ hrt HF.out))⟩
          case measure => simp [intOf]; omega
        · go_wp2
          go_roundw
          case rel => exact ⟨b + 1, by omega, by go_num, Lib.hid (by have e : t + r = 2 ^ (b + 1) := by rw [Nat.pow_succ, ← HT.out]; omega
                                                                     rw [← e]; exact HE2.out)⟩
          case measure => simp [intOf]; omega
    · have hb8 : b = 8 := by omega
      subst hb8
      obtain ⟨cs, hs, hW, hc⟩ := HE.out
      have hsz : (Try.prog.info? 155).map (·.size) = some cs.size := by rw [hs]; exact (zero_of_info zero_info).2
      have hrange : wr.rangeAt (w.heap.size + 1) 0 cs.toList := fun j v hv => by
        have hh := heap_alloc_last (w.alloc (.cells zero256 155)) (.cells cs 155)
        rw [show (w.alloc (.cells zero256 155)).heap.size = w.heap.size + 1 by simp, ← hW] at hh
        simp only [World.cell?, hh]
        simpa using hv
      have hthere : wr.there w.heap.size 0 cs.toList.length := fun j hj => by
        have hh : wr.heap[w.heap.size]? = some (.cells zero256 155) := by
          rw [hW, Below.heap_alloc _ _ _ (by simp)]; exact heap_alloc_last w _
        have hj' : j < 256 := by simpa [hs] using hj
        refine ⟨?_, ?_⟩
        · simp only [World.cell?, hh]; simp [zero256, hj']
        · unfold World.frozen?; rw [hh]; simp
      have hone : cs.all (·.oneCell') = true := Array.all_eq_true_iff_forall_mem.2 fun v hv => by
        obtain ⟨i, hi, rfl⟩ := Array.mem_iff_getElem.1 hv
        have := hc i (by rw [hs] at hi; simpa using hi)
        rw [Array.getElem?_eq_getElem hi] at this
        injection this with this
        rw [this]
        rfl
      have hbelow : Below w.heap.size w wr := by
        rw [hW]; exact ((Below.refl _ _).alloc (Nat.le_refl _) _).alloc (by simp) _
      have HS := Lib.hid hs
      have HC := Lib.hid hc
      have HZ := Lib.hid hsz
      have HRa := Lib.hid hrange
      have HTh := Lib.hid hthere
      have HO := Lib.hid hone
      have HB := Lib.hid hbelow
      clear hs hW hc hsz hrange hthere hone hbelow HE
      go_wp2_with (first
        | (refine wpList_load_mid rfl 155 _ rfl (w.heap.size + 1) 0 rfl cs.toList _ HRa.out Try.underlying155 rfl (by rw [HZ.out]; simp) ?_)
        | (refine wpList_store_mid rfl 155 _ _ rfl w.heap.size 0 cs rfl rfl HTh.out HZ.out HO.out ?_))
      have hrest := World.rangeAt_setCells_same wr w.heap.size 0 cs.toList HTh.out
      refine bodyPost_ret (v := .agg cs) ?_ rfl ⟨cs, rfl, HS.out, fun i hi => HC.out i hi, below_setCells _ _ _ HB.out (Nat.le_refl _)⟩
      refine (results_cell_mid (p := 0) (ty := 155) rfl _ _ w.heap.size 0 cs.toList _ rfl hrest Try.underlying155 rfl (by rw [HZ.out]; simp)).trans ?_
      rw [Array.toArray_toList]
end Go.Proofs.Ytgnghalcihoaaaa
