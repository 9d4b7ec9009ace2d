/- A disk, and the document's disk: what an act does to both. -/
import Derived.Test.YtpdhnkmihlgdjaaDRefT
namespace Go.Proofs.Ytpdhnkmihlgdjaa
open Me Rw Ds

/-- Bounds kept by every act. -/
structure Small (S : Dsk) (m : RefM) (k : Nat) : Prop where
  pend : S.pend.length ≤ k
  made : m.made.length + m.wait.length ≤ k
  top : m.fuse ≤ 9223372036854775807
theorem Small.more {S : Dsk} {m : RefM} {k : Nat} (s : Small S m k) : Small S m (k + 1) := ⟨Nat.le_succ_of_le s.pend, Nat.le_succ_of_le s.made, s.top⟩
section
variable {S : Dsk} {m : RefM}
theorem rel_has (h : Rel S m) (i : Int) : hasB m.count i = hasB S.stored.length i := by rw [h.count]
theorem rel_readE (h : Rel S m) (i : Int) : readER m i = readE S i := by
  unfold readER readE
  rw [h.off, rel_has h]
  cases S.on <;> simp
theorem rel_read (h : Rel S m) (i : Int) : readR m i = readD S i := by
  unfold readR readD
  rw [rel_readE h]
  by_cases e : readE S i = 0
  · rw [if_pos e, if_pos e]
    have hb : hasB S.stored.length i = true := by
      unfold readE at e
      cases ho : S.on <;> rw [ho] at e <;> cases hh : hasB S.stored.length i <;> rw [hh] at e <;> simp at e ⊢
    obtain ⟨k, rfl, hk⟩ := hasB_true hb
    unfold latestD
    rw [Int.toNat_natCast, h.same.at hk, h.wait]
  · rw [if_neg e, if_neg e]
theorem rel_off (h : Rel S m) : Rel { S with on := false } { m with off := true } := ⟨h.count, rfl, h.fuse, h.wait, h.same, h.good, h.low⟩
theorem rel_fuse (h : Rel S m) {n : Int} (h1 : -9223372036854775808 ≤ n) (h2 : n ≤ 9223372036854775807) : Rel { S with fuse := max n (-1) } { m with fuse := n } := ⟨h.count, h.off, rfl, h.wait, h.same, ⟨h.good.1, h.good.2.1, h.good.2.2.1, h.good.2.2.2.1, by show -1 ≤ max n (-1); omega, by show max n (-1) ≤ _; omega⟩, h1⟩
/-- A deed of both. -/
theorem rel_power (h : Rel S m) (hon : S.on = true) : Rel (power S) { m with off := (deedR m.off m.fuse).1, fuse := (deedR m.off m.fuse).2.1 } ∧ ((power S).on = true ↔ (deedR m.off m.fuse).2.2 = 0) ∧ ((deedR m.off m.fuse).2.2 = 0 ∨ (deedR m.off m.fuse).2.2 = 6) ∧ (deedR m.off m.fuse).2.1 ≤ max m.fuse 0 := by
  have hf := h.fuse
  have hl := h.low
  obtain ⟨g1, g2, g3, g4, g5, g6⟩ := h.good
  unfold deedR
  by_cases h0 : m.fuse = 0
  · rw [if_pos h0, power_zero (by omega)]
    exact ⟨⟨h.count, rfl, by show S.fuse = max 0 (-1); omega, h.wait, h.same, h.good, by show (-9223372036854775808 : Int) ≤ 0; omega⟩, ⟨fun e => by simp at e, fun e => by simp at e⟩, .inr rfl, by show (0 : Int) ≤ _; omega⟩
  · rw [if_neg h0]
    by_cases h1 : 0 < m.fuse
    · rw [if_pos h1, power_pos (by omega)]
      exact ⟨⟨h.count, h.off, by show S.fuse - 1 = max (m.fuse - 1) (-1); omega, h.wait, h.same, ⟨g1, g2, g3, g4, by show -1 ≤ S.fuse - 1; omega, by show S.fuse - 1 ≤ _; omega⟩, by show _ ≤ m.fuse - 1; omega⟩, ⟨fun _ => rfl, fun _ => hon⟩, .inl rfl, by show m.fuse - 1 ≤ _; omega⟩
    · rw [if_neg h1, power_neg (by omega)]
      exact ⟨⟨h.count, h.off, h.fuse, h.wait, h.same, h.good, h.low⟩, ⟨fun _ => rfl, fun _ => hon⟩, .inl rfl, by show m.fuse ≤ _; omega⟩
theorem rel_write (h : Rel S m) (i : Int) (l : List UInt8) : Rel (writeD S i l).1 (writeR m i l).1 ∧ (writeD S i l).2 = (writeR m i l).2 ∧ ∀ k, Small S m k → Small (writeD S i l).1 (writeR m i l).1 (k + 1) := by
  have hE := rel_readE h i
  have hoff := h.off
  unfold writeD writeR
  rw [hE]
  unfold readE
  cases ho : S.on with
  | false =>
    rw [if_neg (by simp), if_neg (by simp)]
    exact ⟨h, rfl, fun k s => s.more⟩
  | true =>
    rw [if_pos rfl]
    cases hb : hasB S.stored.length i with
    | false =>
      rw [if_neg (by simp), if_neg (by simp)]
      exact ⟨h, rfl, fun k s => s.more⟩
    | true =>
      rw [if_pos rfl]
      by_cases h8 : l.length = 128
      · obtain ⟨k, rfl, hk⟩ := hasB_true hb
        obtain ⟨r1, r2, r3, r4⟩ := rel_power h ho
        obtain ⟨p1, p2⟩ := power_pend S
        rw [if_pos h8, if_pos (show (if true = true then if true = true then (0 : Int) else 9 else 6) = 0 from rfl), if_pos h8, Int.toNat_natCast]
        have h8' := h8
        by_cases hd : (deedR m.off m.fuse).2.2 = 0
        · rw [if_pos (r2.2 hd), if_pos hd]
          refine ⟨⟨r1.count, r1.off, r1.fuse, by show m.wait ++ _ = (power S).pend ++ _; rw [p1, h.wait], r1.same, ⟨r1.good.1, fun x hx => ?_, r1.good.2.2.1, r1.good.2.2.2.1, r1.good.2.2.2.2⟩, r1.low⟩, rfl, fun j s => ⟨?_, ?_, ?_⟩⟩
          · rcases List.mem_append.1 hx with hx | hx
            · exact r1.good.2.1 x hx
            · simp at hx
              subst hx
              exact ⟨h8', by show k < (power S).stored.length; rw [p2]; exact hk⟩
          · show ((power S).pend ++ _).length ≤ _
            rw [List.length_append, p1]
            have := s.pend
            simp
            omega
          · show m.made.length + (m.wait ++ _).length ≤ _
            rw [List.length_append]
            have := s.made
            simp
            omega
          · show (deedR m.off m.fuse).2.1 ≤ _
            have := s.top
            omega
        · rw [if_neg (fun e => hd (r2.1 e)), if_neg hd]
          refine ⟨r1, by rcases r3 with e | e; exact absurd e hd; exact e.symm, fun j s => ⟨by show (power S).pend.length ≤ _; rw [p1]; have := s.pend; omega, by have := s.made; show m.made.length + m.wait.length ≤ _; omega, by show (deedR m.off m.fuse).2.1 ≤ _; have := s.top; have r4 := r4; omega⟩⟩
      · rw [if_neg h8, if_pos (show (if true = true then if true = true then (0 : Int) else 9 else 6) = 0 from rfl), if_neg h8]
        exact ⟨h, rfl, fun k s => s.more⟩
theorem put_length_le (l : List WD) (x : WD) : (put l x).length ≤ l.length + 1 := by
  unfold put
  rw [List.length_append]
  have := List.length_filter_le (fun y => decide (y.i ≠ x.i)) l
  simp only [List.length_cons, List.length_nil]
  omega
theorem backR_length {K T : Nat} : ∀ (l : List WD) (k : Nat) (made : List WD), (backR K T k l made).length ≤ made.length + l.length
  | [], _, _ => by simp [backR]
  | x :: l, k, made => by
    rw [backR]
    split
    · have h1 := backR_length (K := K) (T := T) l (k + 1) (put made x); have h2 := put_length_le made x; simp; omega
    · split
      · have h1 := backR_length (K := K) (T := T) l (k + 1) (put made ⟨x.i, x.b.take 64 ++ (lastW made x.i zero128).drop 64⟩); have h2 := put_length_le made ⟨x.i, x.b.take 64 ++ (lastW made x.i zero128).drop 64⟩; simp; omega
      · have h1 := backR_length (K := K) (T := T) l (k + 1) made; simp; omega
theorem fine_settle (h : Rel S m) (K T : Nat) : Same (Ds.settle K T 0 S.pend S.stored) (backR K T 0 m.wait m.made) := by
  rw [h.wait]
  exact h.same.settle h.good.2.1
theorem rel_back (h : Rel S m) (K T : Nat) : Rel (backD K T S) (backM K T m) ∧ ∀ k, Small S m k → Small (backD K T S) (backM K T m) k := by
  have hs := fine_settle h K T
  refine ⟨⟨by show m.count = _; rw [h.count]; exact (settle_length K T S.pend 0 S.stored).symm, rfl, rfl, rfl, hs, ⟨hs.len, fun x hx => (by cases hx), ?_, ?_, by show (-1 : Int) ≤ -1; omega, by show (-1 : Int) ≤ _; omega⟩, by show _ ≤ (-1 : Int); omega⟩, fun k s => ⟨Nat.zero_le _, ?_, by show (-1 : Int) ≤ _; omega⟩⟩
  · show 1 ≤ (Ds.settle K T 0 S.pend S.stored).length; rw [settle_length]; exact h.good.2.2.1
  · show (Ds.settle K T 0 S.pend S.stored).length ≤ _; rw [settle_length]; exact h.good.2.2.2.1
  · show (backR K T 0 m.wait m.made).length + 0 ≤ k
    have := backR_length (K := K) (T := T) m.wait 0 m.made
    have := s.made
    omega
theorem rel_sync (h : Rel S m) : Rel (syncD S).1 (syncM m).1 ∧ (syncD S).2 = (syncM m).2 ∧ ∀ k, Small S m k → Small (syncD S).1 (syncM m).1 k := by
  have hoff := h.off
  unfold syncD syncM
  cases ho : S.on with
  | false =>
    rw [ho] at hoff
    rw [if_neg (by simp), if_pos (show m.off = true by rw [hoff]; rfl)]
    exact ⟨h, rfl, fun k s => s⟩
  | true =>
    rw [ho] at hoff
    obtain ⟨r1, r2, r3, r4⟩ := rel_power h ho
    obtain ⟨p1, p2⟩ := power_pend S
    rw [if_pos rfl, if_neg (show ¬ m.off = true by rw [hoff]; simp)]
    by_cases hd : (deedR m.off m.fuse).2.2 = 0
    · rw [if_pos (r2.2 hd), if_pos hd, syncR_back m.wait 0 m.made]
      have hs : Same (Ds.settle ones 0 0 (power S).pend (power S).stored) (backR ones 0 0 m.wait m.made) := fine_settle r1 ones 0
      refine ⟨⟨by show m.count = (Ds.settle ones 0 0 (power S).pend (power S).stored).length; rw [settle_length, p2, h.count], r1.off, r1.fuse, rfl, hs, ⟨hs.len, fun x hx => (by cases hx), ?_, ?_, r1.good.2.2.2.2⟩, r1.low⟩, rfl, fun k s => ⟨Nat.zero_le _, ?_, ?_⟩⟩
      · show 1 ≤ (Ds.settle ones 0 0 (power S).pend (power S).stored).length; rw [settle_length, p2]; exact h.good.2.2.1
      · show (Ds.settle ones 0 0 (power S).pend (power S).stored).length ≤ _; rw [settle_length, p2]; exact h.good.2.2.2.1
      · show (backR ones 0 0 m.wait m.made).length + 0 ≤ k
        have := backR_length (K := ones) (T := 0) m.wait 0 m.made
        have := s.made
        omega
      · show (deedR m.off m.fuse).2.1 ≤ _
        have := s.top
        omega
    · rw [if_neg (fun e => hd (r2.1 e)), if_neg hd]
      refine ⟨r1, by rcases r3 with e | e; exact absurd e hd; exact e.symm, fun j s => ⟨by show (power S).pend.length ≤ _; rw [p1]; exact s.pend, s.made, by show (deedR m.off m.fuse).2.1 ≤ _; have := s.top; have r4 := r4; omega⟩⟩
theorem rel_spoil (h : Rel S m) (i at_ : Int) (y : UInt8) : Rel (spoilD S i at_ y).1 (spoilR m i at_ y).1 ∧ (spoilD S i at_ y).2 = (spoilR m i at_ y).2 ∧ ∀ k, Small S m k → Small (spoilD S i at_ y).1 (spoilR m i at_ y).1 (k + 1) := by
  unfold spoilD spoilR
  rw [rel_has h]
  by_cases hb : (hasB S.stored.length i && hasB 128 at_) = true
  · rw [if_pos hb, if_pos hb]
    rw [Bool.and_eq_true] at hb
    obtain ⟨k, rfl, hk⟩ := hasB_true hb.1
    rw [Int.toNat_natCast, h.same.at hk]
    have hg := lastW_len (i := k) h.same.1 zero128_length
    have hs := h.same.put (x := ⟨k, turnB (lastW m.made k zero128) at_.toNat y⟩) (by simp [turnB, hg])
    refine ⟨⟨by show m.count = (S.stored.set _ _).length; rw [List.length_set]; exact h.count, h.off, h.fuse, h.wait, hs, ⟨hs.len, fun x hx => ?_, ?_, ?_, h.good.2.2.2.2⟩, h.low⟩, rfl, fun k s => ⟨by have := s.pend; show S.pend.length ≤ _; omega, ?_, s.top⟩⟩
    · show _ ∧ x.i < (S.stored.set _ _).length
      rw [List.length_set]
      exact h.good.2.1 x hx
    · show 1 ≤ (S.stored.set _ _).length; rw [List.length_set]; exact h.good.2.2.1
    · show (S.stored.set _ _).length ≤ _; rw [List.length_set]; exact h.good.2.2.2.1
    · have := s.made
      have := put_length_le m.made ⟨‹Nat›, turnB (lastW m.made ‹Nat› zero128) at_.toNat y⟩
      show (put m.made _).length + m.wait.length ≤ _
      first | omega | (refine Nat.le_trans (Nat.add_le_add_right (put_length_le _ _) _) ?_; omega)
  · rw [if_neg hb, if_neg hb]
    exact ⟨h, rfl, fun k s => s.more⟩
theorem rel_new (n : Nat) (h1 : 1 ≤ n) (h2 : n ≤ 65536) : Rel (newD n) ⟨n, false, -1, [], []⟩ := by
  refine ⟨by simp [newD], rfl, rfl, rfl, Same.new n, ⟨(Same.new n).len, fun x hx => (by cases hx), ?_, ?_, ?_, ?_⟩, ?_⟩
  · simpa [newD] using h1
  · simpa [newD] using h2
  · show (-1 : Int) ≤ -1; omega
  · show (-1 : Int) ≤ _; omega
  · show _ ≤ (-1 : Int); omega
theorem Rel.wait8 (h : Rel S m) : ∀ x ∈ m.wait, x.b.length = 128 := fun x hx => by
  rw [h.wait] at hx
  exact (h.good.2.1 x hx).1
end
/-- An act. -/
structure AD where
  kind : Int
  i : Int
  n : Int
  c : UInt8
  short : Bool
  keep : Nat
  torn : Nat
def AD.good (a : AD) : Prop := -9223372036854775808 ≤ a.n ∧ a.n ≤ 9223372036854775807 ∧ a.keep < 18446744073709551616 ∧ a.torn < 18446744073709551616
def aVs (a : AD) : List Value := [.int .i64 a.kind, .int .i64 a.i, .int .i64 a.n, .int .u8 (a.c.toNat : Int), .bool a.short, .int .u64 (a.keep : Int), .int .u64 (a.torn : Int)]
theorem aVs_length (a : AD) : (aVs a).length = 7 := rfl
/-- The disk behind an act. -/
def actD (S : Dsk) (a : AD) : Dsk :=
  if a.kind = 0 then (writeD S a.i (fillTo a.c (fillN a.short))).1 else if a.kind = 1 then (syncD S).1 else if a.kind = 2 then { S with fuse := max a.n (-1) }
  else if a.kind = 3 then { S with on := false } else if a.kind = 4 then backD a.keep a.torn S else if a.kind = 5 then (spoilD S a.i a.n a.c).1 else S
def actM (m : RefM) (a : AD) : RefM :=
  if a.kind = 0 then (writeR m a.i (fillTo a.c (fillN a.short))).1 else if a.kind = 1 then (syncM m).1 else if a.kind = 2 then { m with fuse := a.n }
  else if a.kind = 3 then { m with off := true } else if a.kind = 4 then backM a.keep a.torn m else if a.kind = 5 then (spoilR m a.i a.n a.c).1 else m
theorem rel_act {S : Dsk} {m : RefM} {a : AD} (h : Rel S m) (ha : a.good) : Rel (actD S a) (actM m a) ∧ ∀ k, Small S m k → Small (actD S a) (actM m a) (k + 1) := by
  obtain ⟨a1, a2, a3, a4⟩ := ha
  unfold actD actM
  by_cases h0 : a.kind = 0
  · rw [if_pos h0, if_pos h0]; exact ⟨(rel_write h _ _).1, (rel_write h _ _).2.2⟩
  rw [if_neg h0, if_neg h0]
  by_cases h1 : a.kind = 1
  · rw [if_pos h1, if_pos h1]; exact ⟨(rel_sync h).1, fun k s => by have := (rel_sync h).2.2 k s; exact ⟨Nat.le_succ_of_le this.pend, Nat.le_succ_of_le this.made, this.top⟩⟩
  rw [if_neg h1, if_neg h1]
  by_cases h2 : a.kind = 2
  · rw [if_pos h2, if_pos h2]; exact ⟨rel_fuse h a1 a2, fun k s => ⟨Nat.le_succ_of_le s.pend, Nat.le_succ_of_le s.made, a2⟩⟩
  rw [if_neg h2, if_neg h2]
  by_cases h3 : a.kind = 3
  · rw [if_pos h3, if_pos h3]; exact ⟨rel_off h, fun k s => ⟨Nat.le_succ_of_le s.pend, Nat.le_succ_of_le s.made, s.top⟩⟩
  rw [if_neg h3, if_neg h3]
  by_cases h4 : a.kind = 4
  · rw [if_pos h4, if_pos h4]; exact ⟨(rel_back h _ _).1, fun k s => by have := (rel_back h a.keep a.torn).2 k s; exact ⟨Nat.le_succ_of_le this.pend, Nat.le_succ_of_le this.made, this.top⟩⟩
  rw [if_neg h4, if_neg h4]
  by_cases h5 : a.kind = 5
  · rw [if_pos h5, if_pos h5]; exact ⟨(rel_spoil h _ _ _).1, (rel_spoil h _ _ _).2.2⟩
  rw [if_neg h5, if_neg h5]
  exact ⟨h, fun k s => ⟨Nat.le_succ_of_le s.pend, Nat.le_succ_of_le s.made, s.top⟩⟩
end Go.Proofs.Ytpdhnkmihlgdjaa
