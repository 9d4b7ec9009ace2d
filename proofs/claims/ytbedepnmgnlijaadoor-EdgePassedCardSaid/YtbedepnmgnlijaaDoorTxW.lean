/- Words and numbers: the program's. -/
import Derived.Test.YtbedepnmgnlijaaDoorTxR
import Derived.Test.YtbedepnmgnlijaaDoorShelf
namespace Go.Proofs.YtbedepnmgnlijaaDoor
open Go.RowKit Me Tx Go.Shelf Go.Lib

theorem isBlank_at (w : World) : PredAtRunes Tryd.prog 29 #[] blankR w := by
  intro W x hx _
  unfold FnGives encR
  show Calls Tryd.prog 29 #[.int .i32 (x : Int)] W _
  by_cases h1 : x = 32
  · subst h1
    go_enter Tryd.func29, Tryd.ntmps29
    go_wp2
    go_ret
    exact ⟨rfl, 0, rfl⟩
  · by_cases h2 : x = 9
    · subst h2
      go_enter Tryd.func29, Tryd.ntmps29
      go_wp2
      go_ret
      exact ⟨rfl, 0, rfl⟩
    · have e : blankR x = false := by unfold blankR; simp [h1, h2]
      have k1 : ((x : Int) == 32) = false := by simp; omega
      have k2 : ((x : Int) == 9) = false := by simp; omega
      rw [e]
      go_enter Tryd.func29, Tryd.ntmps29
      go_wp2
      go_ret
      exact ⟨rfl, 0, rfl⟩
theorem isNoDigit_at (w : World) : PredAtRunes Tryd.prog 42 #[] noDigR w := by
  intro W x hx _
  unfold FnGives encR
  show Calls Tryd.prog 42 #[.int .i32 (x : Int)] W _
  by_cases h1 : x < 48
  · have e : noDigR x = true := by unfold noDigR; simp [h1]
    have k1 : (x : Int) < 48 := by omega
    rw [e]
    go_enter Tryd.func42, Tryd.ntmps42
    go_wp2
    go_ret
    exact ⟨rfl, 0, rfl⟩
  · have k1 : ¬ (x : Int) < 48 := by omega
    by_cases h2 : 57 < x
    · have e : noDigR x = true := by unfold noDigR; simp [h2]
      have k2 : 57 < (x : Int) := by omega
      rw [e]
      go_enter Tryd.func42, Tryd.ntmps42
      go_wp2
      go_ret
      exact ⟨rfl, 0, rfl⟩
    · have e : noDigR x = false := by unfold noDigR; simp; omega
      have k2 : ¬ 57 < (x : Int) := by omega
      rw [e]
      go_enter Tryd.func42, Tryd.ntmps42
      go_wp2
      go_ret
      exact ⟨rfl, 0, rfl⟩
theorem enters22 : ∀ args w, (callFunc 29 args).run Tryd.prog w = .ok (.enter 29 args) w := enters_of Tryd.func29 (by kernel_rfl) rfl
theorem enters29 : ∀ args w, (callFunc 42 args).run Tryd.prog w = .ok (.enter 42 args) w := enters_of Tryd.func42 (by kernel_rfl) rfl

/-- Texts of one's own are answered. -/
def TextsPost (w : World) (ls : List (List UInt8)) (e : Ending) (w' : World) : Prop :=
  ∃ A c, e = .returned (.slice A ls.length c) ∧ ls.length ≤ c ∧ w'.ownsRow w.heap.size 9 1 (.slice A ls.length c) ls.length (ls.map sv) ∧ Below w.heap.size w w'
theorem TextsPost.of {w w' : World} {ls : List (List UInt8)} {v : Value} (h : w'.ownsRow w.heap.size 9 1 v ls.length (ls.map sv)) (hb : Below w.heap.size w w') : TextsPost w ls (.returned v) w' := by
  obtain ⟨A, c, rfl⟩ := own_slice h
  exact ⟨A, c, rfl, own_cap' h, h, hb⟩
theorem fields_map (s : ByteArray) : (goFieldsP blankR s).map Value.string = (wordsG [] s.data.toList).map sv := by
  rw [← fields_words, List.map_map]
  apply List.map_congr_left
  intro x _
  exact (sv_data x).symm
theorem fields_len (s : ByteArray) : (goFieldsP blankR s).length = (wordsG [] s.data.toList).length := by
  rw [← fields_words, List.length_map]
set_option maxRecDepth 100000 in
theorem words_any (s : ByteArray) (hs : s.size ≤ 4294967296) (w : World) :
    Calls Tryd.prog 19 #[.string s] w (TextsPost w (wordsG [] s.data.toList)) := by
  go_enter Tryd.func19, Tryd.ntmps19
  go_wp2_with fail
  refine (Tryd.strings_FieldsFunc_runes 29 #[] enters22 blankR s _ hs (isBlank_at _)).mono ?_
  rintro e w' ⟨A, rfl, hA, ho, hb⟩
  rw [fields_map, fields_len] at ho
  rw [fields_len]
  have HO := Lib.hid (TextsPost.of ho hb)
  clear ho hb
  go_wp2
  go_ret
  exact HO.out
theorem rlines_post (A : Option Addr) (n c : Nat) (l : List UInt8) (hl : l.length = n) (hn : n ≤ 1073741824) (w : World) (hr : Rd w w.heap.size A l) :
    Calls Tryd.prog 25 #[.slice A n c] w (TextsPost w (linesG [] l)) :=
  (rlines_any A n c l hl hn w hr).mono fun e w' ⟨v, he, ho, hb⟩ => by subst he; exact .of ho hb
theorem rwords_post (s : ByteArray) (hn : s.size ≤ 1073741824) (w : World) :
    Calls Tryd.prog 22 #[.string s] w (TextsPost w (wordsG [] s.data.toList)) :=
  (rwords_any s s.size rfl hn w).mono fun e w' ⟨v, he, ho, hb⟩ => by subst he; exact .of ho hb
end Go.Proofs.YtbedepnmgnlijaaDoor
