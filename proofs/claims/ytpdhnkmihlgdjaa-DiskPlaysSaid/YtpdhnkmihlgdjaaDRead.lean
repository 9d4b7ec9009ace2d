/- A block of a disk is read. -/
import Derived.Test.YtpdhnkmihlgdjaaLatest
namespace Go.Proofs.Ytpdhnkmihlgdjaa
open Go.RowKit Me Rw Ds

/-- The error of a read. -/
def readE (S : Dsk) (i : Int) : Int := if S.on then (if hasB S.stored.length i then 0 else 9) else 6
/-- What a read answers. -/
def readD (S : Dsk) (i : Int) : List UInt8 := if readE S i = 0 then latestD S i.toNat else []
/-- New bytes are answered, in a block of their own, and an error's number. -/
def ReadPost (w : World) (l : List UInt8) (x : Int) (e : Ending) (w' : World) : Prop :=
  Below w.heap.size w w' ∧ ∃ A n, e = .returned (.tuple #[.slice A n n, .int .i64 x]) ∧ l.length = n ∧ (0 < n → ∃ b, A = some ⟨b, 0, none⟩ ∧ w.heap.size ≤ b ∧ Blk w' b (cellsOf l))
theorem latestD_length {S : Dsk} (h : Fine S) {i : Nat} (hi : i < S.stored.length) : (latestD S i).length = 128 :=
  lastW_len (fun x hx => (h.2.1 x hx).1) (by
    rw [List.getD_eq_getElem?_getD, List.getElem?_eq_getElem hi]
    exact h.1 _ (List.getElem_mem _))
section
variable {w : World} {B D : Nat} {S : Dsk} {own : Nat → Prop}
set_option maxRecDepth 100000 in
set_option maxHeartbeats 1000000 in
theorem read_any (h : DiskAt w B D S own) (i : Int) (hp : S.pend.length < 4611686018427387904) :
    Calls Try.prog 14 #[.pointer (some ⟨D, 0, none⟩), .int .i64 i] w (ReadPost w (readD S i) (readE S i)) := by
  have HON := Lib.hid (on_any h)
  have HHAS := Lib.hid (has_any h i)
  cases ho : S.on with
  | false =>
    have e1 : readE S i = 6 := by unfold readE; rw [ho]; rfl
    have e2 : readD S i = [] := by unfold readD; rw [e1]; rfl
    rw [e1, e2]
    rw [ho] at HON
    clear h ho e1 e2
    go_enter Try.func14, Try.ntmps14
    go_wp2_with (go_at_call 11; refine HON.out.mono ?_; rintro e w' ⟨rfl, rfl⟩)
    exact bodyPost_ret (v := .tuple #[.slice none 0 0, .int .i64 6]) (by simp [results, Try.results14, go_sem]) rfl ⟨Below.refl _ _, _, _, rfl, rfl, fun h => by omega⟩
  | true =>
  rw [ho] at HON
  cases hi : hasB S.stored.length i with
  | false =>
    have e1 : readE S i = 9 := by unfold readE; rw [ho, hi]; rfl
    have e2 : readD S i = [] := by unfold readD; rw [e1]; rfl
    rw [e1, e2]
    rw [hi] at HHAS
    clear h ho hi e1 e2
    go_enter Try.func14, Try.ntmps14
    go_wp2_with (first
      | (go_at_call 11; refine HON.out.mono ?_; rintro e w' ⟨rfl, rfl⟩)
      | (go_at_call 27; refine HHAS.out.mono ?_; rintro e w' ⟨rfl, rfl⟩))
    exact bodyPost_ret (v := .tuple #[.slice none 0 0, .int .i64 9]) (by simp [results, Try.results14, go_sem]) rfl ⟨Below.refl _ _, _, _, rfl, rfl, fun h => by omega⟩
  | true =>
    rw [hi] at HHAS
    have e1 : readE S i = 0 := by unfold readE; rw [ho, hi]; rfl
    obtain ⟨k, rfl, hk⟩ := hasB_true hi
    have e2 : readD S k = latestD S k := by unfold readD; rw [if_pos e1]; rfl
    rw [e1, e2]
    have hl := latestD_length h.good hk
    have H1 := latest_any h k hk hp
    generalize latestD S k = l at *
    have HLT := Lib.hid H1
    have HL := Lib.hid hl
    have hz : ∀ w, (zeroValue 64).run Try.prog w = .ok (.agg zblock) w := (zero_of_info block_info).1
    have HSz := Lib.hid (show (Try.prog.info? 64).map (·.size) = some (cellsOf l).toArray.size by simp only [List.size_toArray, cellsOf_length, hl]; exact block_size)
    have HAl := Lib.hid (show (cellsOf l).toArray.all (·.oneCell') = true from all_oneCell_toArray (cellsOf_one l))
    clear h ho hi e1 e2 hl H1
    go_enter Try.func14, Try.ntmps14
    go_wp2_with (first
      | (go_at_call 11; refine HON.out.mono ?_; rintro e w' ⟨rfl, rfl⟩)
      | (go_at_call 27; refine HHAS.out.mono ?_; rintro e w' ⟨rfl, rfl⟩)
      | (go_at_call 28
         refine HLT.out.mono ?_
         rintro e w1 ⟨rfl, hb⟩
         have HB := Lib.hid hb
         have HBl := Lib.hid (Blk.new w1 zblock.toList 64)
         clear hb)
      | (refine wpList_store_mid rfl 64 _ _ rfl w1.heap.size 0 (cellsOf l).toArray rfl rfl (HBl.out.there (by simp [cellsOf_length, HL.out, zblock])) HSz.out HAl.out ?_))
    refine bodyPost_ret (v := .tuple #[.slice (some ⟨w1.heap.size, 0, none⟩) 128 128, .int .i64 0]) (by simp [results, Try.results14, go_sem]) rfl ?_
    have hO : Out (fun _ => False) w1 ((w1.alloc (.cells zblock 64)).setCells w1.heap.size 0 (cellsOf l)) := Out.setCells _ _ _ ((Out.refl _ _).alloc _) (.inr (Nat.le_refl _))
    have hB : Blk ((w1.alloc (.cells zblock 64)).setCells w1.heap.size 0 (cellsOf l)) w1.heap.size (cellsOf l) := by
      have := HBl.out.sets (o := 0) (vs := cellsOf l) (by simp [cellsOf_length, HL.out, zblock])
      rwa [splice_whole _ _ (by simp [cellsOf_length, HL.out, zblock])] at this
    exact ⟨HB.out.trans (hO.below (fun _ _ h => h.elim) HB.out.size), _, _, rfl, HL.out, fun _ => ⟨_, rfl, HB.out.size, hB⟩⟩
set_option maxRecDepth 100000 in
theorem read_nil (w : World) (i : Int) : Calls Try.prog 14 #[.pointer none, .int .i64 i] w fun e w' => e = .returned (.tuple #[.slice none 0 0, .int .i64 6]) ∧ w = w' := by
  go_enter Try.func14, Try.ntmps14
  go_wp2_with (go_at_call 11; refine (on_nil _).mono ?_; rintro e w' ⟨rfl, rfl⟩)
  exact bodyPost_ret (v := .tuple #[.slice none 0 0, .int .i64 6]) (by simp [results, Try.results14, go_sem]) rfl ⟨rfl, rfl⟩
set_option maxRecDepth 100000 in
theorem spoil_nil (w : World) (i at_ y : Int) : Calls Try.prog 22 #[.pointer none, .int .i64 i, .int .i64 at_, .int .u8 y] w fun e w' => e = .returned (.int .i64 9) ∧ w = w' := by
  go_enter Try.func22, Try.ntmps22
  go_wp2_with (go_at_call 27; refine (has_nil _ _).mono ?_; rintro e w' ⟨rfl, rfl⟩)
  go_ret
  exact ⟨rfl, rfl⟩
end
end Go.Proofs.Ytpdhnkmihlgdjaa
