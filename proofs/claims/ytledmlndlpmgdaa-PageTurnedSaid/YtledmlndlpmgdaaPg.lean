/- A page as bytes: how it is put, how it is read; plain mathematics. -/
import Derived.Test.YtledmlndlpmgdaaTur
namespace Go.Proofs.Ytledmlndlpmgdaa.Pg
open Go.RowKit Cr Me Fr

def zeros (n : Nat) : List UInt8 := List.replicate n 0
/-- A page's bytes ahead of their sum. -/
def raw (f p : Reg) (b : List UInt8) : List UInt8 := four f ++ (four p ++ (four (BitVec.ofNat 32 b.length) ++ (b ++ zeros (112 - b.length))))
/-- A page's block. -/
def enc (f p : Reg) (b : List UInt8) : List UInt8 := Cr.mark (raw f p b)
/-- The number in the first four bytes. -/
def num (l : List UInt8) : Nat := (l.getD 0 0).toNat + 256 * (l.getD 1 0).toNat + 65536 * (l.getD 2 0).toNat + 16777216 * (l.getD 3 0).toNat
/-- The bytes that a block tells of, as far as there is room. -/
def inner (k : List UInt8) : List UInt8 := (k.drop 12).take (min (num (k.drop 8)) 112)
/-- What is read of a block. -/
def getP (k : List UInt8) (f p : Reg) : List UInt8 × Int :=
  if k.length = 128 then (if enc f p (inner k) == k then (inner k, 0) else ([], 5)) else ([], 3)

theorem four_length (r : Reg) : (four r).length = 4 := rfl
theorem raw_length {f p : Reg} {b : List UInt8} (h : b.length ≤ 112) : (raw f p b).length = 124 := by
  simp only [raw, zeros, List.length_append, four_length, List.length_replicate]
  omega
theorem enc_length {f p : Reg} {b : List UInt8} (h : b.length ≤ 112) : (enc f p b).length = 128 := by
  unfold enc
  rw [mark_length, raw_length h]
theorem num_four (r : Reg) (l : List UInt8) : num (four r ++ l) = r.toNat := by
  have hr := r.isLt
  simp only [num, four, List.cons_append, List.getD_cons_zero, List.getD_cons_succ, UInt8.toNat_ofNat']
  omega
theorem num_lt (l : List UInt8) : num l < 4294967296 := by
  unfold num
  have h0 := (l.getD 0 0).toNat_lt
  have h1 := (l.getD 1 0).toNat_lt
  have h2 := (l.getD 2 0).toNat_lt
  have h3 := (l.getD 3 0).toNat_lt
  omega
theorem num_take (l : List UInt8) : num (l.take 4) = num l := by
  unfold num
  simp only [List.getD_eq_getElem?_getD, List.getElem?_take]
  simp
theorem four_num {l : List UInt8} (hl : l.length = 4) : four (BitVec.ofNat 32 (num l)) = l := by
  match l, hl with
  | [a, b, c, d], _ =>
    have ha := a.toNat_lt
    have hb := b.toNat_lt
    have hc := c.toNat_lt
    have hd := d.toNat_lt
    have hn : (BitVec.ofNat 32 (num [a, b, c, d])).toNat = a.toNat + 256 * b.toNat + 65536 * c.toNat + 16777216 * d.toNat := by
      rw [BitVec.toNat_ofNat, Nat.mod_eq_of_lt (num_lt _)]
      rfl
    have e (x : UInt8) (y : Nat) (h : y % 256 = x.toNat) : UInt8.ofNat y = x := by
      apply UInt8.toNat_inj.1
      rw [UInt8.toNat_ofNat']
      exact h
    unfold four
    rw [hn, e a _ (by omega), e b _ (by omega), e c _ (by omega), e d _ (by omega)]
theorem four_inj {r s : Reg} (h : four r = four s) : r = s := by
  have h1 := num_four r []
  have h2 := num_four s []
  rw [h] at h1
  exact BitVec.eq_of_toNat_eq (h1.symm.trans h2)
theorem take_four (r : Reg) (l : List UInt8) : (four r ++ l).take 4 = four r := List.take_left' rfl
theorem drop_four (r : Reg) (l : List UInt8) : (four r ++ l).drop 4 = l := List.drop_left' rfl
section
variable {f p f' p' : Reg} {b : List UInt8}
theorem enc_flat : enc f p b = four f ++ (four p ++ (four (BitVec.ofNat 32 b.length) ++ (b ++ (zeros (112 - b.length) ++ four (crc (raw f p b)))))) := by
  show raw f p b ++ four _ = _
  generalize crc (raw f p b) = r
  simp only [raw, List.append_assoc]
theorem enc_take4 : (enc f p b).take 4 = four f := by rw [enc_flat, take_four]
theorem enc_drop4 : ((enc f p b).drop 4).take 4 = four p := by rw [enc_flat, drop_four, take_four]
theorem enc_drop8 : (enc f p b).drop 8 = four (BitVec.ofNat 32 b.length) ++ (b ++ (zeros (112 - b.length) ++ four (crc (raw f p b)))) := by
  rw [show (8 : Nat) = 4 + 4 from rfl, ← List.drop_drop, enc_flat, drop_four, drop_four]
theorem enc_num (h : b.length ≤ 112) : num ((enc f p b).drop 8) = b.length := by
  rw [enc_drop8, num_four, BitVec.toNat_ofNat]
  omega
theorem enc_drop12 : (enc f p b).drop 12 = b ++ (zeros (112 - b.length) ++ four (crc (raw f p b))) := by
  rw [show (12 : Nat) = 8 + 4 from rfl, ← List.drop_drop, enc_drop8, drop_four]
theorem part_enc (h : b.length ≤ 112) : inner (enc f p b) = b := by
  unfold inner
  rw [enc_num h, enc_drop12, Nat.min_eq_left h, List.take_left' rfl]
theorem getP_enc (h : b.length ≤ 112) : getP (enc f p b) f p = (b, 0) := by
  unfold getP
  rw [if_pos (enc_length h), part_enc h, if_pos (by simp)]
theorem enc_inj (h : enc f p b = enc f' p' b) : f = f' ∧ p = p' := by
  constructor
  · have := congrArg (List.take 4) h
    rw [enc_take4, enc_take4] at this
    exact four_inj this
  · have := congrArg (fun l => (List.drop 4 l).take 4) h
    simp only [enc_drop4] at this
    exact four_inj this
theorem getP_other (h : b.length ≤ 112) (hne : ¬ (f = f' ∧ p = p')) : getP (enc f p b) f' p' = ([], 5) := by
  unfold getP
  rw [if_pos (enc_length h), part_enc h, if_neg]
  rw [beq_iff_eq]
  exact fun e => hne (enc_inj e.symm)
theorem part_length {k : List UInt8} (hk : k.length = 128) : (inner k).length = min (num (k.drop 8)) 112 := by
  unfold inner
  rw [List.length_take, List.length_drop, hk]
  omega
theorem part_le {k : List UInt8} (hk : k.length = 128) : (inner k).length ≤ 112 := by rw [part_length hk]; omega
theorem getP_unfit {k : List UInt8} (hk : k.length = 128) (h : fitB k = false) : getP k f p = ([], 5) := by
  unfold getP
  rw [if_pos hk, if_neg]
  rw [beq_iff_eq]
  intro e
  rw [← e] at h
  unfold enc at h
  rw [fitB_mark] at h
  cases h
theorem getP_turned (h : b.length ≤ 112) {i : Nat} {u x : UInt8} (hu : (enc f p b)[i]? = some u) (hx : x ≠ 0) : getP ((enc f p b).set i (u ^^^ x)) f' p' = ([], 5) :=
  getP_unfit (by rw [List.length_set, enc_length h]) (set_unfit _ hu hx)
/-- Where one of the document's tests fails, nothing is read. -/
theorem getP_bad {k : List UInt8} (hk : k.length = 128) (h : ¬ (k.take 4 = four f ∧ (k.drop 4).take 4 = four p ∧ num (k.drop 8) ≤ 112)) : getP k f p = ([], 5) := by
  unfold getP
  rw [if_pos hk, if_neg]
  rw [beq_iff_eq]
  intro e
  refine h ⟨?_, ?_, ?_⟩
  · rw [← e, enc_take4]
  · rw [← e, enc_drop4]
  · have h1 := part_length hk
    have h2 := enc_num (f := f) (p := p) (part_le hk)
    rw [e] at h2
    omega
theorem getP_zero {k : List UInt8} (hk : k.length = 128) {i : Nat} {u : UInt8} (h1 : 12 + num (k.drop 8) ≤ i) (h2 : i < 124) (hu : k[i]? = some u) (h0 : u ≠ 0) : getP k f p = ([], 5) := by
  unfold getP
  rw [if_pos hk, if_neg]
  rw [beq_iff_eq]
  intro e
  have hl := part_length hk
  have e2 := enc_drop12 (f := f) (p := p) (b := inner k)
  rw [e] at e2
  have h3 : (k.drop 12)[i - 12]? = some u := by rw [List.getElem?_drop, ← hu]; congr 1; omega
  rw [e2, List.getElem?_append_right (by omega), List.getElem?_append_left (by simp only [zeros, List.length_replicate]; omega)] at h3
  have := List.mem_of_getElem? h3
  exact h0 (List.eq_of_mem_replicate this)
theorem getP_good {k : List UInt8} (hk : k.length = 128) (hf : fitB k = true) (h1 : k.take 4 = four f) (h2 : (k.drop 4).take 4 = four p) (h3 : num (k.drop 8) ≤ 112) (h4 : ∀ (i : Nat) (u : UInt8), 12 + num (k.drop 8) ≤ i → i < 124 → k[i]? = some u → u = 0) :
    getP k f p = ((k.drop 12).take (num (k.drop 8)), 0) := by
  obtain ⟨n, hn⟩ : ∃ n, n = num (k.drop 8) := ⟨_, rfl⟩
  rw [← hn] at h3 h4 ⊢
  have hpe : inner k = (k.drop 12).take n := by unfold inner; rw [← hn, Nat.min_eq_left h3]
  have hpl : (inner k).length = n := by rw [part_length hk, ← hn]; omega
  have hm : Cr.mark (k.take 124) = k := by
    have := hf
    rw [fitB_of (k := 124) hk] at this
    exact beq_iff_eq.1 this
  have hr : raw f p (inner k) = k.take 124 := by
    rw [show (124 : Nat) = 4 + (4 + (4 + (n + (112 - n)))) by omega, List.take_add, List.take_add, List.take_add, List.take_add, List.drop_drop, List.drop_drop, List.drop_drop, h1, h2]
    unfold raw
    rw [hpl]
    congr 2
    have e4 : (k.drop (4 + 4)).take 4 = four (BitVec.ofNat 32 n) := by
      have := four_num (l := (k.drop 8).take 4) (by rw [List.length_take, List.length_drop, hk]; rfl)
      rw [num_take, ← hn] at this
      exact this.symm
    rw [e4]
    congr 1
    rw [hpe]
    congr 1
    unfold zeros
    symm
    rw [List.eq_replicate_iff]
    refine ⟨by rw [List.length_take, List.length_drop, hk]; omega, fun u hu => ?_⟩
    obtain ⟨j, hj, rfl⟩ := List.mem_iff_getElem.1 hu
    rw [List.length_take] at hj
    refine h4 (12 + n + j) _ (by omega) (by omega) ?_
    rw [List.getElem_take, List.getElem_drop, List.getElem?_eq_getElem]
  unfold getP
  rw [if_pos hk]
  unfold enc
  rw [hr, hm, hpe, if_pos (by simp)]
theorem front4 (k : List UInt8) : (k.take 124).take 4 = k.take 4 := by rw [List.take_take]; rfl
theorem front48 (k : List UInt8) : ((k.take 124).drop 4).take 4 = (k.drop 4).take 4 := by rw [List.drop_take, List.take_take]; rfl
theorem front_num (k : List UInt8) : num ((k.take 124).drop 8) = num (k.drop 8) := by
  rw [← num_take, ← num_take (k.drop 8), List.drop_take, List.take_take]
  rfl
theorem front12 (k : List UInt8) {m : Nat} (hm : m ≤ 112) : ((k.take 124).drop 12).take m = (k.drop 12).take m := by
  rw [List.drop_take, List.take_take, Nat.min_eq_left hm]
theorem front_at (k : List UInt8) {i : Nat} (hi : i < 124) : (k.take 124)[i]? = k[i]? := by rw [List.getElem?_take, if_pos hi]
theorem getP_le (k : List UInt8) (f p : Reg) : (getP k f p).1.length ≤ 112 := by
  unfold getP
  split
  · rename_i h
    split
    · exact part_le h
    · simp
  · simp
theorem getP_short {k : List UInt8} (hk : k.length ≠ 128) : getP k f p = ([], 3) := by unfold getP; rw [if_neg hk]
end
end Go.Proofs.Ytledmlndlpmgdaa.Pg
