/- Manifests: plain mathematics: which may be, their bytes. -/
import Derived.Test.YtgnghalcihoaaaaNmo
import Derived.Test.YtgnghalcihoaaaaMany
namespace Go.Proofs.Ytgnghalcihoaaaa.Mf
open Va

/-- A file. -/
structure FileD where
  name : List UInt8
  id : Nat
  size : Int
  blocks : List Int
/-- A manifest. -/
structure ManD where
  version : Nat
  next : Nat
  files : List FileD
def noFile : FileD := ⟨[], 0, 0, []⟩
def noMan : ManD := ⟨0, 0, []⟩

/-- Which string stands ahead. -/
def less (l m : List UInt8) : Bool := Go.Op.bytesLess l m
theorem u8_lt (a b : UInt8) : (a < b) ↔ a.toNat < b.toNat := UInt8.lt_iff_toNat_lt
theorem less_irrefl : ∀ l : List UInt8, less l l = false
  | [] => rfl
  | a :: l => by
    have h1 : ¬ a < a := by rw [u8_lt]; omega
    have := less_irrefl l
    unfold less at this ⊢
    simp [Go.Op.bytesLess, h1, this]
theorem less_nil (l : List UInt8) : less l [] = false := by unfold less; cases l <;> rfl
theorem nil_less {l : List UInt8} (h : l ≠ []) : less [] l = true := by
  unfold less
  cases l with
  | nil => exact absurd rfl h
  | cons a l => rfl
theorem less_cons (a b : UInt8) (x y : List UInt8) : less (a :: x) (b :: y) = true ↔ a.toNat < b.toNat ∨ (a = b ∧ less x y = true) := by
  unfold less
  simp [Go.Op.bytesLess, u8_lt]
theorem less_trans : ∀ {l m n : List UInt8}, less l m = true → less m n = true → less l n = true
  | l, m, [], _, h => by rw [less_nil] at h; cases h
  | l, [], _ :: _, h, _ => by rw [less_nil] at h; cases h
  | [], _ :: _, c :: n, _, _ => rfl
  | a :: l, b :: m, c :: n, h1, h2 => by
    rw [less_cons] at h1 h2 ⊢
    rcases h1 with h1 | ⟨rfl, h1⟩
    · rcases h2 with h2 | ⟨rfl, h2⟩
      · exact .inl (by omega)
      · exact .inl h1
    · rcases h2 with h2 | ⟨rfl, h2⟩
      · exact .inl h2
      · exact .inr ⟨rfl, less_trans h1 h2⟩
theorem less_total : ∀ {l m : List UInt8}, less l m = false → l ≠ m → less m l = true
  | [], [], _, h => absurd rfl h
  | [], b :: m, h, _ => by cases h
  | a :: l, [], _, _ => rfl
  | a :: l, b :: m, h, hne => by
    have h' : ¬ less (a :: l) (b :: m) = true := by rw [h]; simp
    rw [less_cons] at h' ⊢
    rcases Nat.lt_trichotomy a.toNat b.toNat with h1 | h1 | h1
    · exact absurd (.inl h1) h'
    · have hab : a = b := UInt8.toNat_inj.1 h1
      subst hab
      refine .inr ⟨rfl, less_total ?_ (fun e => hne (by rw [e]))⟩
      cases hl : less l m with
      | false => rfl
      | true => exact absurd (.inr ⟨rfl, hl⟩) h'
    · exact .inl h1
theorem less_asymm {l m : List UInt8} (h : less l m = true) : less m l = false := by
  cases hm : less m l with
  | false => rfl
  | true =>
    have := less_trans h hm
    rw [less_irrefl] at this
    cases this
/-- l is at most m: as Go reckons it. -/
theorem leq_eq (l m : List UInt8) : (less l m || l == m) = !less m l := by
  cases h : less l m with
  | true => rw [less_asymm h]; rfl
  | false =>
    by_cases e : l = m
    · subst e; rw [less_irrefl]; simp
    · rw [less_total h e]
      simpa using e

/-- The numbers of blocks, as bytes. -/
def encBs : List Int → List UInt8
  | [] => []
  | b :: l => enc b.toNat ++ encBs l
theorem encBs_append : ∀ l m : List Int, encBs (l ++ m) = encBs l ++ encBs m
  | [], m => rfl
  | b :: l, m => by simp only [encBs, List.cons_append, encBs_append l m, List.append_assoc]
theorem encBs_take {l : List Int} {k : Nat} {b : Int} (h : l[k]? = some b) : encBs (l.take (k + 1)) = encBs (l.take k) ++ enc b.toNat := by
  rw [List.take_add_one, h, encBs_append]
  simp [encBs]
theorem encBs_length : ∀ l : List Int, l.length ≤ (encBs l).length
  | [] => Nat.le_refl _
  | b :: l => by
    have := encBs_length l
    have := enc_pos b.toNat
    simp only [encBs, List.length_append, List.length_cons]; omega
/-- Numbers, as bytes. -/
def encNs : List Nat → List UInt8
  | [] => []
  | b :: l => enc b ++ encNs l
theorem encNs_append : ∀ l m : List Nat, encNs (l ++ m) = encNs l ++ encNs m
  | [], m => rfl
  | b :: l, m => by simp only [encNs, List.cons_append, encNs_append l m, List.append_assoc]
theorem encNs_take {l : List Nat} {k : Nat} {b : Nat} (h : l[k]? = some b) : encNs (l.take (k + 1)) = encNs (l.take k) ++ enc b := by
  rw [List.take_add_one, h, encNs_append]
  simp [encNs]
theorem encNs_ten : ∀ l : List Nat, (∀ x ∈ l, x < 18446744073709551616) → (encNs l).length ≤ 10 * l.length
  | [], _ => Nat.le_refl _
  | b :: l, h => by
    have := encNs_ten l (fun x hx => h x (by simp [hx]))
    have := enc_ten (h b (by simp))
    simp only [encNs, List.length_append, List.length_cons]; omega
/-- A file, as bytes. -/
def encF (f : FileD) : List UInt8 := enc f.name.length ++ (f.name ++ (enc f.id ++ (enc f.size.toNat ++ encBs f.blocks)))
def encFs : List FileD → List UInt8
  | [] => []
  | f :: l => encF f ++ encFs l
theorem encFs_append : ∀ l m : List FileD, encFs (l ++ m) = encFs l ++ encFs m
  | [], m => rfl
  | b :: l, m => by simp only [encFs, List.cons_append, encFs_append l m, List.append_assoc]
theorem encFs_take {l : List FileD} {k : Nat} {f : FileD} (h : l[k]? = some f) : encFs (l.take (k + 1)) = encFs (l.take k) ++ encF f := by
  rw [List.take_add_one, h, encFs_append]
  simp [encFs]
theorem encF_length (f : FileD) : 3 ≤ (encF f).length ∧ f.name.length ≤ (encF f).length ∧ f.blocks.length ≤ (encF f).length := by
  have h1 := enc_pos f.name.length
  have h2 := enc_pos f.id
  have h3 := enc_pos f.size.toNat
  have h4 := encBs_length f.blocks
  unfold encF
  simp only [List.length_append]
  omega
theorem encFs_mem : ∀ {l : List FileD} {f : FileD}, f ∈ l → (encF f).length ≤ (encFs l).length
  | g :: l, f, h => by
    rw [encFs, List.length_append]
    rcases List.mem_cons.1 h with rfl | h
    · omega
    · have := encFs_mem h; omega
theorem encFs_length : ∀ l : List FileD, 3 * l.length ≤ (encFs l).length
  | [] => Nat.le_refl _
  | f :: l => by
    have h1 := encFs_length l
    have h2 := (encF_length f).1
    rw [encFs, List.length_append, List.length_cons]; omega
theorem encFs_le {l : List FileD} (k : Nat) : (encFs (l.take k)).length ≤ (encFs l).length := by
  have h : encFs l = encFs (l.take k) ++ encFs (l.drop k) := by rw [← encFs_append, List.take_append_drop]
  rw [h, List.length_append]; omega
/-- A manifest's numbers, as bytes. -/
def body (m : ManD) : List UInt8 := enc m.version ++ (enc m.next ++ (enc m.files.length ++ encFs m.files))
theorem body_length (m : ManD) : (encFs m.files).length + 3 ≤ (body m).length := by
  have h1 := enc_pos m.version
  have h2 := enc_pos m.next
  have h3 := enc_pos m.files.length
  unfold body
  simp only [List.length_append]
  omega

/-- Numbers that a program can hold. -/
structure WfF (f : FileD) : Prop where
  id : f.id < 4294967296
  low : -9223372036854775808 ≤ f.size
  high : f.size ≤ 9223372036854775807
  blocks : ∀ b ∈ f.blocks, -9223372036854775808 ≤ b ∧ b ≤ 9223372036854775807
structure Wf (m : ManD) : Prop where
  version : m.version < 18446744073709551616
  next : m.next < 4294967296
  files : ∀ f ∈ m.files, WfF f
/-- No size, no block is negative. -/
structure PosF (f : FileD) : Prop where
  size : 0 ≤ f.size
  blocks : ∀ b ∈ f.blocks, 0 ≤ b

def allBlocks (l : List FileD) : List Int := l.flatMap (·.blocks)
theorem allBlocks_append (l m : List FileD) : allBlocks (l ++ m) = allBlocks l ++ allBlocks m := by simp [allBlocks]
theorem allBlocks_snoc (l : List FileD) (f : FileD) : allBlocks (l ++ [f]) = allBlocks l ++ f.blocks := by simp [allBlocks]
theorem mem_allBlocks {l : List FileD} {b : Int} : b ∈ allBlocks l ↔ ∃ g ∈ l, b ∈ g.blocks := by simp [allBlocks]

def NamesOk (l : List FileD) : Prop := (∀ f ∈ l, 1 ≤ f.name.length ∧ f.name.length ≤ 32) ∧ l.Pairwise fun f g => less f.name g.name = true
def IdsOk (next : Nat) (l : List FileD) : Prop := (∀ f ∈ l, f.id < next) ∧ (l.map (·.id)).Nodup
def BlkOk (f : FileD) : Prop := 0 ≤ f.size ∧ manyZ f.size = f.blocks.length ∧ ∀ b ∈ f.blocks, 32 ≤ b ∧ b < 65536
def BlocksOk (l : List FileD) : Prop := (∀ f ∈ l, BlkOk f) ∧ (allBlocks l).Nodup
def Good (next : Nat) (l : List FileD) : Prop := NamesOk l ∧ IdsOk next l ∧ BlocksOk l
/-- A manifest that may be. -/
def Fit (m : ManD) : Prop := Good m.next m.files ∧ (body m).length ≤ 2035

theorem take_snoc {α : Type} {l : List α} {k : Nat} {x : α} (h : l[k]? = some x) : l.take (k + 1) = l.take k ++ [x] := by rw [List.take_add_one, h]; rfl
theorem pairwise_snoc {α : Type} {R : α → α → Prop} {l : List α} {x : α} : (l ++ [x]).Pairwise R ↔ l.Pairwise R ∧ ∀ y ∈ l, R y x := by
  rw [List.pairwise_append]
  simp
theorem nodup_snoc {α : Type} {l : List α} {x : α} : (l ++ [x]).Nodup ↔ l.Nodup ∧ x ∉ l := by
  rw [List.nodup_append]
  simp
  intro _
  exact ⟨fun h hx => h x hx rfl, fun h y hy e => h (e ▸ hy)⟩
/-- The name behind which the next one stands. -/
def lastName (l : List FileD) : List UInt8 := (l.getLast?.map (·.name)).getD []
theorem lastName_nil : lastName [] = [] := rfl
theorem lastName_snoc (l : List FileD) (f : FileD) : lastName (l ++ [f]) = f.name := by simp [lastName]
theorem names_last {l : List FileD} (h : NamesOk l) : ∀ g ∈ l, less g.name (lastName l) = true ∨ g.name = lastName l := by
  intro g hg
  rcases List.eq_nil_or_concat l with rfl | ⟨l', f, rfl⟩
  · cases hg
  · rw [List.concat_eq_append] at hg h ⊢
    rw [lastName_snoc]
    rcases List.mem_append.1 hg with hg | hg
    · exact .inl ((pairwise_snoc.1 h.2).2 g hg)
    · simp at hg; subst hg; exact .inr rfl
theorem names_snoc {l : List FileD} {f : FileD} (h : NamesOk l) : NamesOk (l ++ [f]) ↔ less (lastName l) f.name = true ∧ f.name.length ≤ 32 := by
  constructor
  · rintro ⟨h1, h2⟩
    have hf := h1 f (by simp)
    refine ⟨?_, hf.2⟩
    rcases List.eq_nil_or_concat l with rfl | ⟨l', g, rfl⟩
    · exact nil_less (fun e => by rw [e] at hf; simp at hf)
    · rw [List.concat_eq_append] at h2 ⊢
      rw [lastName_snoc]
      exact (pairwise_snoc.1 h2).2 g (by simp)
  · rintro ⟨h1, h2⟩
    refine ⟨fun g hg => ?_, pairwise_snoc.2 ⟨h.2, fun g hg => ?_⟩⟩
    · rcases List.mem_append.1 hg with hg | hg
      · exact h.1 g hg
      · simp at hg; subst hg
        refine ⟨?_, h2⟩
        cases hn : g.name with
        | nil => rw [hn, less_nil] at h1; cases h1
        | cons a t => simp
    · rcases names_last h g hg with h3 | h3
      · exact less_trans h3 h1
      · rw [h3]; exact h1
theorem NamesOk.take {l : List FileD} (h : NamesOk l) (k : Nat) : NamesOk (l.take k) := ⟨fun f hf => h.1 f (List.mem_of_mem_take hf), h.2.sublist (List.take_sublist _ _)⟩
theorem IdsOk.take {n : Nat} {l : List FileD} (h : IdsOk n l) (k : Nat) : IdsOk n (l.take k) := ⟨fun f hf => h.1 f (List.mem_of_mem_take hf), h.2.sublist ((List.take_sublist _ _).map _)⟩
theorem BlocksOk.take {l : List FileD} (h : BlocksOk l) (k : Nat) : BlocksOk (l.take k) := by
  refine ⟨fun f hf => h.1 f (List.mem_of_mem_take hf), ?_⟩
  have e : allBlocks l = allBlocks (l.take k) ++ allBlocks (l.drop k) := by rw [← allBlocks_append, List.take_append_drop]
  have := h.2
  rw [e, List.nodup_append] at this
  exact this.1
theorem Good.take {n : Nat} {l : List FileD} (h : Good n l) (k : Nat) : Good n (l.take k) := ⟨h.1.take k, h.2.1.take k, h.2.2.take k⟩
/-- A file that may stand behind others. -/
structure RefOk (next : Nat) (pre : List FileD) (f : FileD) : Prop where
  name : 1 ≤ f.name.length ∧ f.name.length ≤ 32
  id : f.id < next
  blk : 0 ≤ f.size ∧ manyZ f.size = f.blocks.length
  ahead : ∀ g ∈ pre, g.id ≠ f.id ∧ less g.name f.name = true
  range : ∀ b ∈ f.blocks, 32 ≤ b ∧ b < 65536
  nodup : f.blocks.Nodup
  apart : ∀ b ∈ f.blocks, ∀ g ∈ pre, b ∉ g.blocks
theorem good_snoc {n : Nat} {l : List FileD} {f : FileD} (h : Good n l) : Good n (l ++ [f]) ↔ RefOk n l f := by
  obtain ⟨hn, hi, hb⟩ := h
  constructor
  · rintro ⟨h1, h2, h3⟩
    have hids := h2.2
    rw [List.map_append, List.map_cons, List.map_nil, nodup_snoc] at hids
    have hbl := h3.2
    rw [allBlocks_snoc, List.nodup_append] at hbl
    refine ⟨h1.1 f (by simp), h2.1 f (by simp), ⟨(h3.1 f (by simp)).1, (h3.1 f (by simp)).2.1⟩, fun g hg => ⟨fun e => hids.2 (List.mem_map.2 ⟨g, hg, e⟩), (pairwise_snoc.1 h1.2).2 g hg⟩, (h3.1 f (by simp)).2.2, hbl.2.1, fun b hb g hg hbg => ?_⟩
    exact hbl.2.2 b (mem_allBlocks.2 ⟨g, hg, hbg⟩) b hb rfl
  · rintro ⟨h1, h2, h3, h4, h5, h6, h7⟩
    refine ⟨⟨fun g hg => ?_, pairwise_snoc.2 ⟨hn.2, fun g hg => (h4 g hg).2⟩⟩, ⟨fun g hg => ?_, ?_⟩, ⟨fun g hg => ?_, ?_⟩⟩
    · rcases List.mem_append.1 hg with hg | hg
      · exact hn.1 g hg
      · simp at hg; subst hg; exact h1
    · rcases List.mem_append.1 hg with hg | hg
      · exact hi.1 g hg
      · simp at hg; subst hg; exact h2
    · rw [List.map_append, List.map_cons, List.map_nil, nodup_snoc]
      refine ⟨hi.2, fun h => ?_⟩
      obtain ⟨g, hg, e⟩ := List.mem_map.1 h
      exact (h4 g hg).1 e
    · rcases List.mem_append.1 hg with hg | hg
      · exact hb.1 g hg
      · simp at hg; subst hg; exact ⟨h3.1, h3.2, h5⟩
    · rw [allBlocks_snoc, List.nodup_append]
      refine ⟨hb.2, h6, fun a ha b hb' e => ?_⟩
      subst e
      obtain ⟨g, hg, hag⟩ := mem_allBlocks.1 ha
      exact h7 a hb' g hg hag
theorem good_nil (n : Nat) : Good n [] := ⟨⟨fun f h => (by cases h), .nil⟩, ⟨fun f h => (by cases h), by simp⟩, ⟨fun f h => (by cases h), by simp [allBlocks]⟩⟩
theorem good_pos {n : Nat} {l : List FileD} (h : Good n l) : ∀ f ∈ l, PosF f := fun f hf => ⟨(h.2.2.1 f hf).1, fun b hb => by have := ((h.2.2.1 f hf).2.2 b hb).1; omega⟩
end Go.Proofs.Ytgnghalcihoaaaa.Mf
