/- An act of the law's: any. -/
import Derived.Test.YtpdhnkmihlgdjaaDoB
import Derived.Test.YtpdhnkmihlgdjaaDoC
import Derived.Test.YtpdhnkmihlgdjaaDoD
import Derived.Test.YtpdhnkmihlgdjaaDoE
import Derived.Test.YtpdhnkmihlgdjaaDoF
namespace Go.Proofs.Ytpdhnkmihlgdjaa
open Go.RowKit Me Rw Ds

theorem does_any {own : Nat → Prop} {w : World} {B D : Nat} {S : Dsk} {m : RefM} {v : Value} {kk : Nat} (hd : DiskAt w B D S own) (hv : RVal w own m v) (hR : Rel S m) (hs : Small S m kk) (hkk : kk ≤ 1000) (a : AD) (ha : a.good) :
    Calls Try.prog 10 #[.pointer (some ⟨D, 0, none⟩), v, .agg (aVs a).toArray] w (DoesPost w B D own (actD S a) (actM m a)) := by
  obtain ⟨Am, nm, cm, Aw, nw, cw, rfl, hm, hw, hr⟩ := hv
  obtain ⟨ki, i, n, c, sh, K, T⟩ := a
  obtain ⟨a1, a2, a3, a4⟩ := ha
  have e : (aVs ⟨ki, i, n, c, sh, K, T⟩).toArray = #[.int .i64 ki, .int .i64 i, .int .i64 n, .int .u8 (c.toNat : Int), .bool sh, .int .u64 (K : Int), .int .u64 (T : Int)] := rfl
  rw [e]
  unfold actD actM
  by_cases h0 : ki = 0
  · subst h0
    rw [if_pos rfl, if_pos rfl]
    exact does_write hd hr hm hw hR hs hkk i n c sh K T
  rw [if_neg h0, if_neg h0]
  by_cases h1 : ki = 1
  · subst h1
    rw [if_pos rfl, if_pos rfl]
    exact does_sync hd hr hm hw hR hs hkk i n c sh K T
  rw [if_neg h1, if_neg h1]
  by_cases h2 : ki = 2
  · subst h2
    rw [if_pos rfl, if_pos rfl]
    exact does_fuse hd hr hm hw hR hs i n c sh K T a2 _ rfl
  rw [if_neg h2, if_neg h2]
  by_cases h3 : ki = 3
  · subst h3
    rw [if_pos rfl, if_pos rfl]
    exact does_off hd hr hm hw hR hs i n c sh K T _ rfl
  rw [if_neg h3, if_neg h3]
  by_cases h4 : ki = 4
  · subst h4
    rw [if_pos rfl, if_pos rfl]
    exact does_back hd hr hm hw hR hs hkk i n c sh K T a3 a4
  rw [if_neg h4, if_neg h4]
  by_cases h5 : ki = 5
  · subst h5
    rw [if_pos rfl, if_pos rfl]
    exact does_spoil hd hr hm hw hR hs hkk i n c sh K T
  rw [if_neg h5, if_neg h5]
  exact does_read hd hr hm hw hR hs hkk ki i n c sh K T (by rw [beq_eq_false_iff_ne]; exact h0) (by rw [beq_eq_false_iff_ne]; exact h1) (by rw [beq_eq_false_iff_ne]; exact h2) (by rw [beq_eq_false_iff_ne]; exact h3) (by rw [beq_eq_false_iff_ne]; exact h4) (by rw [beq_eq_false_iff_ne]; exact h5)
end Go.Proofs.Ytpdhnkmihlgdjaa
