import Derived.Lib.IndexMore
import Derived.Lib.IndexLaws
import Derived.Lib.IndexAny
import Derived.Lib.Split
import Derived.Lib.SplitLaws
import Derived.Lib.Case
import Derived.Test.YtadcidbeealdpaaGreatDoorProg
import Derived.WalkKit
import Derived.WalkSpells
import Derived.WalkLawsBesides
import Derived.Lib.Strings
import Derived.Lib.IndexBytes
import Derived.RowKit
import Derived.Laws.BitsLemmas
import Derived.Lib.Hide
import Derived.Laws.IdiomStrings
import Derived.Laws.MakeOwn
import Derived.Lib.ConvBytes
import Derived.Lib.UnsafeStr

/- Addresses and domains as functions on lists of bytes: as the program reads them, as the document's answer reads them, and that the two are one. No program is named here. -/
namespace Go.Proofs.YtadcidbeealdpaaGreatDoor
open Go

/-- a letter; a digit -/
def letB (c : Int) : Bool := (decide (97 ≤ c) && decide (c ≤ 122)) || (decide (65 ≤ c) && decide (c ≤ 90))
def digB (c : Int) : Bool := decide (48 ≤ c) && decide (c ≤ 57)
def alB (c : UInt8) : Bool := letB c.toNat || digB c.toNat

/-- the program's: made of letters, digits and marks -/
def madeB (l m : List UInt8) : Bool := l.all fun c => alB c || !decide (Lib.indexByte m c < 0)
def labB (l : List UInt8) : Bool := decide (1 ≤ l.length) && decide (l.length ≤ 20) && !Lib.hasPrefix l [45] && !Lib.hasSuffix l [45] && madeB l [45]
def locB (l : List UInt8) : Bool := decide (1 ≤ l.length) && decide (l.length ≤ 20) && !Lib.hasPrefix l [46] && !Lib.hasSuffix l [46] && !Lib.contains l [46, 46] && madeB l [45, 95, 43, 46]

/-- a text at the first byte c -/
def cutR (c : UInt8) : List UInt8 → List UInt8 × List UInt8 × Bool
  | [] => ([], [], false)
  | b :: r => if b = c then ([], r, true) else (b :: (cutR c r).1, (cutR c r).2.1, (cutR c r).2.2)
/-- its pieces -/
def pieces (c : UInt8) : List UInt8 → List (List UInt8)
  | [] => [[]]
  | b :: r => if b = c then [] :: pieces c r else (b :: (pieces c r).headD []) :: (pieces c r).tail
def domB (l : List UInt8) : Bool := decide (l.length ≤ 40) && (pieces 46 l).all labB

/-- the document's: a label, what stands ahead of the @ -/
def labR (l : List UInt8) : Bool := decide (1 ≤ l.length) && decide (l.length ≤ 20) && !(l.getD 0 0 == 45) && !(l.getD (l.length - 1) 0 == 45) && l.all fun c => alB c || c == 45
def chR (l : List UInt8) (i : Nat) : Bool := alB (l.getD i 0) || l.getD i 0 == 45 || l.getD i 0 == 95 || l.getD i 0 == 43 || (l.getD i 0 == 46 && !(l.getD (i - 1) 0 == 46))
def locR (l : List UInt8) : Bool := decide (1 ≤ l.length) && decide (l.length ≤ 20) && !(l.getD 0 0 == 46) && !(l.getD (l.length - 1) 0 == 46) && (List.range l.length).all (chR l)

theorem hasPrefix_one (l : List UInt8) (c : UInt8) (h : 1 ≤ l.length) : Lib.hasPrefix l [c] = (l.getD 0 0 == c) := by
  cases l with
  | nil => simp at h
  | cons b r =>
    rw [Bool.eq_iff_iff]
    simp [Lib.hasPrefix, List.isPrefixOf]
    exact eq_comm

theorem hasSuffix_one (l : List UInt8) (c : UInt8) (h : 1 ≤ l.length) : Lib.hasSuffix l [c] = (l.getD (l.length - 1) 0 == c) := by
  rw [Lib.hasSuffix, List.isSuffixOf]
  have hr : 1 ≤ l.reverse.length := by simpa using h
  have := hasPrefix_one l.reverse c hr
  rw [Lib.hasPrefix] at this
  simp only [List.reverse_cons, List.reverse_nil, List.nil_append]
  rw [this]
  congr 1
  rw [List.getD_eq_getElem?_getD, List.getD_eq_getElem?_getD, List.getElem?_reverse (show 0 < l.length by omega)]
  simp

theorem indexByte_neg (m : List UInt8) (c : UInt8) : (!decide (Lib.indexByte m c < 0)) = m.contains c := by
  rw [Lib.contains_iff_indexByte]
  have := Lib.indexByte_ge m c
  by_cases h : Lib.indexByte m c < 0
  · have h' : ¬ 0 ≤ Lib.indexByte m c := by omega
    simp [h, h']
  · have h' : 0 ≤ Lib.indexByte m c := by omega
    simp [h, h']

theorem labB_eq (l : List UInt8) : labB l = labR l := by
  unfold labB labR
  by_cases h : 1 ≤ l.length
  · rw [hasPrefix_one l 45 h, hasSuffix_one l 45 h]
    congr 1
    unfold madeB
    congr 1
    funext c
    rw [indexByte_neg, Bool.eq_iff_iff]
    simp
  · simp [h]

theorem cutR_found (c : UInt8) : ∀ l : List UInt8, (cutR c l).2.2 = true → l = (cutR c l).1 ++ c :: (cutR c l).2.1 ∧ pieces c l = (cutR c l).1 :: pieces c (cutR c l).2.1 ∧ Lib.indexByte l c = ((cutR c l).1.length : Int)
  | [], h => by simp [cutR] at h
  | b :: r, h => by
    by_cases hb : b = c
    · subst hb; simp [cutR, pieces, Lib.indexByte]
    · have hbc : (b == c) = false := by simpa using hb
      have h' : (cutR c r).2.2 = true := by simpa [cutR, hb] using h
      obtain ⟨e1, e2, e3⟩ := cutR_found c r h'
      refine ⟨?_, ?_, ?_⟩
      · simp only [cutR, hb, if_false, List.cons_append]
        rw [← e1]
      · simp only [cutR, pieces, hb, if_false]
        rw [e2]; rfl
      · simp only [cutR, hb, if_false, Lib.indexByte, hbc, Bool.false_eq_true]
        rw [e3]
        have : (((cutR c r).1.length : Int) == -1) = false := by rw [beq_eq_false_iff_ne]; omega
        rw [this]; simp

theorem cutR_none (c : UInt8) : ∀ l : List UInt8, (cutR c l).2.2 = false → cutR c l = (l, [], false) ∧ pieces c l = [l] ∧ Lib.indexByte l c = -1
  | [], h => by simp [cutR, pieces, Lib.indexByte]
  | b :: r, h => by
    by_cases hb : b = c
    · subst hb; simp [cutR] at h
    · have hbc : (b == c) = false := by simpa using hb
      have h' : (cutR c r).2.2 = false := by simpa [cutR, hb] using h
      obtain ⟨e1, e2, e3⟩ := cutR_none c r h'
      refine ⟨?_, ?_, ?_⟩
      · simp only [cutR, hb, if_false]
        rw [e1]
      · simp only [pieces, hb, if_false]
        rw [e2]; rfl
      · simp only [Lib.indexByte, hbc, Bool.false_eq_true, if_false]
        rw [e3]; rfl

/-- the first c is at i -/
theorem cutR_at (c : UInt8) : ∀ (l : List UInt8) (i : Nat), l[i]? = some c → (∀ j : Nat, j < i → l[j]? ≠ some c) → cutR c l = (l.take i, l.drop (i + 1), true)
  | [], i, h, _ => by simp at h
  | b :: r, 0, h, _ => by
    have : b = c := by simpa using h
    simp [cutR, this]
  | b :: r, i + 1, h, hn => by
    have hb : b ≠ c := by simpa using hn 0 (by omega)
    have ih := cutR_at c r i (by simpa using h) (fun j hj => by simpa using hn (j + 1) (by omega))
    simp only [cutR, hb, if_false]
    rw [ih]; simp

theorem cutR_no (c : UInt8) : ∀ (l : List UInt8), (∀ j : Nat, l[j]? ≠ some c) → cutR c l = (l, [], false)
  | [], _ => rfl
  | b :: r, hn => by
    have hb : b ≠ c := by simpa using hn 0
    have ih := cutR_no c r (fun j => by simpa using hn (j + 1))
    simp only [cutR, hb, if_false]
    rw [ih]

theorem cutR_lib (c : UInt8) (l : List UInt8) : cutR c l = if 0 ≤ Lib.indexByte l c then (l.take (Lib.indexByte l c).toNat, l.drop ((Lib.indexByte l c).toNat + 1), true) else (l, [], false) := by
  have hge := Lib.indexByte_ge l c
  by_cases h : 0 ≤ Lib.indexByte l c
  · rw [if_pos h]
    obtain ⟨n, hn⟩ := Int.eq_ofNat_of_zero_le h
    have := Lib.indexByte_some hn
    rw [hn]
    exact cutR_at c l n this.1 this.2
  · rw [if_neg h]
    exact cutR_no c l (Lib.indexByte_none (by omega))

theorem split_pieces (c : UInt8) : ∀ (k : Nat) (l : List UInt8), l.count c = k → Lib.splitK [c] 0 k l = pieces c l
  | 0, l, h => by
    have hn : ∀ j : Nat, l[j]? ≠ some c := fun j hj => by
      have := List.mem_of_getElem? hj
      rw [List.count_eq_zero] at h
      exact h this
    have hf : (cutR c l).2.2 = false := by rw [cutR_no c l hn]
    rw [(cutR_none c l hf).2.1]; rfl
  | k + 1, l, h => by
    cases hc : (cutR c l).2.2 with
    | false =>
      have h0 := (cutR_none c l hc).2.2
      exfalso
      have : c ∈ l := List.count_pos_iff.1 (by omega)
      obtain ⟨j, hj, e⟩ := List.mem_iff_getElem.1 this
      exact Lib.indexByte_none h0 j (by rw [List.getElem?_eq_getElem hj, e])
    | true =>
      obtain ⟨e1, e2, e3⟩ := cutR_found c l hc
      have hno : (cutR c l).1.count c = 0 := by
        rw [List.count_eq_zero]
        intro hm
        obtain ⟨j, hj, e⟩ := List.mem_iff_getElem.1 hm
        refine (Lib.indexByte_some e3).2 j hj ?_
        rw [e1, List.getElem?_append_left hj, List.getElem?_eq_getElem hj, e]
      have hk : (cutR c l).2.1.count c = k := by
        have := h
        rw [e1, List.count_append, hno, List.count_cons_self] at this
        omega
      have ih := split_pieces c k _ hk
      have hi : (((cutR c l).1.length : Int) == -1) = false := by rw [beq_eq_false_iff_ne]; omega
      rw [Lib.splitK, Lib.index_one, e3, hi, e2, ← ih]
      have hT : ∀ a b : List UInt8, l = a ++ c :: b → List.take ((a.length : Int).toNat + 0) l = a ∧ List.drop ((a.length : Int).toNat + [c].length) l = b := by
        rintro a b rfl
        have hz : a.length + 1 - a.length = 1 := by omega
        simp [List.drop_append, hz]
      obtain ⟨ht, hd⟩ := hT _ _ e1
      rw [ht, hd]; rfl

theorem split_eq (l : List UInt8) : Lib.split l [46] = pieces 46 l := by
  rw [Lib.split, Lib.count_one]
  exact split_pieces 46 _ l rfl

theorem isPrefix_two (a b : UInt8) : ∀ l : List UInt8, List.isPrefixOf [a, b] l = (l[0]? == some a && l[1]? == some b)
  | [] => rfl
  | [x] => by simp [List.isPrefixOf]
  | x :: y :: r => by
    rw [Bool.eq_iff_iff]
    simp [List.isPrefixOf]
    constructor <;> (rintro ⟨h1, h2⟩; exact ⟨h1.symm, h2.symm⟩)

theorem contains_dots (l : List UInt8) : Lib.contains l [46, 46] = true ↔ ∃ i : Nat, l[i]? = some (46 : UInt8) ∧ l[i + 1]? = some (46 : UInt8) := by
  rw [Lib.contains, decide_eq_true_eq]
  rcases Lib.index_spec l [46, 46] with ⟨h1, h2⟩ | ⟨i, h1, h2, h3, h4⟩
  · constructor
    · intro h; omega
    · rintro ⟨i, ha, hb⟩
      have hi : i < l.length := by
        rcases Nat.lt_or_ge i l.length with h | h
        · exact h
        · rw [List.getElem?_eq_none h] at ha; cases ha
      have := h2 i (by omega)
      rw [Lib.occAt, isPrefix_two] at this
      simp [List.getElem?_drop, ha, hb] at this
  · constructor
    · intro _
      rw [Lib.occAt, isPrefix_two] at h3
      simp [List.getElem?_drop] at h3
      exact ⟨i, h3.1, h3.2⟩
    · intro _; omega

theorem locB_eq (l : List UInt8) : locB l = locR l := by
  unfold locB locR
  by_cases h : 1 ≤ l.length
  · rw [hasPrefix_one l 46 h, hasSuffix_one l 46 h, Bool.and_assoc _ (!Lib.contains l [46, 46]) _]
    by_cases h0 : l.getD 0 0 = 46
    · rw [h0]
      have e : (!((46 : UInt8) == 46)) = false := rfl
      simp only [e, Bool.and_false, Bool.false_and]
    · congr 1
      rw [Bool.eq_iff_iff]
      simp only [Bool.and_eq_true, Bool.not_eq_true', madeB, List.all_eq_true, List.mem_range]
      constructor
      · rintro ⟨hc, hm⟩ i hi
        have hx : l[i]? = some (l.getD i 0) := by rw [List.getD_eq_getElem?_getD, List.getElem?_eq_getElem hi]; rfl
        have := hm (l.getD i 0) (List.mem_of_getElem? hx)
        rw [indexByte_neg] at this
        simp only [chR]
        by_cases hd : l.getD i 0 = 46
        · have hp : l.getD (i - 1) 0 ≠ 46 := by
            intro hp
            have hi0 : 0 < i := by
              rcases Nat.eq_zero_or_pos i with h' | h'
              · subst h'; exact absurd hd h0
              · exact h'
            have hi1 : i - 1 < l.length := by omega
            have hx1 : l[i - 1]? = some (l.getD (i - 1) 0) := by rw [List.getD_eq_getElem?_getD, List.getElem?_eq_getElem hi1]; rfl
            have := (contains_dots l).2 ⟨i - 1, by rw [hx1, hp], by rw [show i - 1 + 1 = i by omega, hx, hd]⟩
            rw [this] at hc; cases hc
          have hp' : (l.getD (i - 1) 0 == 46) = false := by simpa using hp
          rw [hd, hp']; rfl
        · simp at this
          rcases this with h | h | h | h | h
          · simp [h]
          · simp [h]
          · simp [h]
          · simp [h]
          · exact absurd h hd
      · intro hm
        constructor
        · cases hc : Lib.contains l [46, 46] with
          | false => rfl
          | true =>
            obtain ⟨i, ha, hb⟩ := (contains_dots l).1 hc
            have hi : i + 1 < l.length := by
              rcases Nat.lt_or_ge (i + 1) l.length with h | h
              · exact h
              · rw [List.getElem?_eq_none h] at hb; cases hb
            have := hm (i + 1) hi
            simp only [chR, List.getD_eq_getElem?_getD, hb, show i + 1 - 1 = i by omega, ha] at this
            exact absurd this (by decide)
        · intro c hcm
          obtain ⟨i, hi, e⟩ := List.mem_iff_getElem.1 hcm
          have := hm i hi
          have hx : l.getD i 0 = c := by rw [List.getD_eq_getElem?_getD, List.getElem?_eq_getElem hi]; exact e
          rw [indexByte_neg]
          simp only [chR, hx] at this
          simp at this ⊢
          rcases this with (((h | h) | h) | h) | h
          · exact Or.inl h
          · exact Or.inr (Or.inl h)
          · exact Or.inr (Or.inr (Or.inl h))
          · exact Or.inr (Or.inr (Or.inr (Or.inl h)))
          · exact Or.inr (Or.inr (Or.inr (Or.inr h.1)))
  · simp [h]

/-- the document's domain: the loop over its pieces -/
def domR (l : List UInt8) : Bool := !l.isEmpty && decide (l.length ≤ 40) && (pieces 46 l).all labR
theorem domB_eq (l : List UInt8) : domB l = domR l := by
  unfold domB domR
  have : labB = labR := funext labB_eq
  rw [this]
  cases l with
  | nil => rfl
  | cons b r => simp

/-- all of a domain's bytes are plain -/
theorem mem_pieces (c : UInt8) : ∀ (l : List UInt8) (b : UInt8), b ∈ l → b = c ∨ ∃ p ∈ pieces c l, b ∈ p
  | [], b, h => by cases h
  | x :: r, b, h => by
    by_cases hx : x = c
    · rcases List.mem_cons.1 h with e | h
      · left; rw [e, hx]
      · rcases mem_pieces c r b h with e | ⟨p, hp, hb⟩
        · exact Or.inl e
        · right; refine ⟨p, ?_, hb⟩; simp [pieces, hx, hp]
    · simp only [pieces, hx, if_false]
      rcases List.mem_cons.1 h with e | h
      · right; exact ⟨_, List.mem_cons_self, by rw [e]; exact List.mem_cons_self⟩
      · rcases mem_pieces c r b h with e | ⟨p, hp, hb⟩
        · exact Or.inl e
        · right
          cases hq : pieces c r with
          | nil => rw [hq] at hp; cases hp
          | cons q qs =>
            rw [hq] at hp
            rcases List.mem_cons.1 hp with e | hp
            · subst e; exact ⟨_, List.mem_cons_self, List.mem_cons_of_mem _ hb⟩
            · exact ⟨p, List.mem_cons_of_mem _ hp, hb⟩

theorem al_lt (c : UInt8) (h : alB c = true) : c.toNat < 128 := by
  simp only [alB, letB, digB, Bool.or_eq_true, Bool.and_eq_true, decide_eq_true_eq] at h
  omega

theorem dom_ascii (l : List UInt8) (h : domB l = true) : ∀ (j : Nat) (b : UInt8), l[j]? = some b → b.toNat < 128 := by
  intro j b hb
  rw [domB_eq] at h
  simp only [domR, Bool.and_eq_true, List.all_eq_true] at h
  rcases mem_pieces 46 l b (List.mem_of_getElem? hb) with e | ⟨p, hp, hbp⟩
  · rw [e]; decide
  · have := h.2 p hp
    simp only [labR, Bool.and_eq_true, List.all_eq_true] at this
    have := this.2 b hbp
    rw [Bool.or_eq_true] at this
    rcases this with h | h
    · exact al_lt b h
    · have : b = 45 := by simpa using h
      rw [this]; decide

theorem domB_len (l : List UInt8) (h : domB l = true) : l.length ≤ 40 := by
  simp only [domB, Bool.and_eq_true, decide_eq_true_eq] at h; exact h.1
/-- one piece more -/
theorem dom_step (c : UInt8) (p : List UInt8 → Bool) (l x y : List UInt8) (f : Bool) (h : cutR c l = (x, y, f)) : (pieces c l).all p = (p x && (!f || (pieces c y).all p)) := by
  cases f with
  | true =>
    have := (cutR_found c l (by rw [h])).2.1
    rw [this, h]; simp
  | false =>
    obtain ⟨e1, e2, _⟩ := cutR_none c l (by rw [h])
    rw [e1] at h
    obtain ⟨rfl, rfl⟩ : l = x ∧ [] = y := by simpa using h
    rw [e2]; simp
theorem cut_len (c : UInt8) (l x y : List UInt8) (f : Bool) (h : cutR c l = (x, y, f)) : x.length ≤ l.length ∧ y.length ≤ l.length ∧ (f = true → y.length < l.length) := by
  cases f with
  | true =>
    have := (cutR_found c l (by rw [h])).1
    rw [h] at this
    have e : l.length = x.length + (y.length + 1) := by rw [this]; simp
    exact ⟨by omega, by omega, fun _ => by omega⟩
  | false =>
    obtain ⟨e1, e2, _⟩ := cutR_none c l (by rw [h])
    rw [e1] at h
    obtain ⟨rfl, rfl⟩ : l = x ∧ [] = y := by simpa using h
    exact ⟨Nat.le_refl _, Nat.zero_le _, fun h => by cases h⟩
def okR (c : UInt8) : Bool := alB c || c == 45
theorem okR_let {c : UInt8} (h : letB c.toNat = true) : okR c = true := by simp [okR, alB, h]
theorem okR_dig {c : UInt8} (h : digB c.toNat = true) : okR c = true := by simp [okR, alB, h]
theorem okR_dash {c : UInt8} (h : ((c.toNat : Int) != 45) = false) : okR c = true := by
  have h : (c.toNat : Int) = 45 := by simpa using h
  have : c = 45 := UInt8.toNat_inj.1 (by show c.toNat = 45; omega)
  simp [okR, this]
theorem okR_no {c : UInt8} (h1 : ¬ letB c.toNat = true) (h2 : ¬ digB c.toNat = true) (h3 : ((c.toNat : Int) != 45) = true) : okR c = false := by
  have h3 : ¬ (c.toNat : Int) = 45 := by simpa using h3
  have : c ≠ 45 := fun e => h3 (by rw [e]; rfl)
  simp [okR, alB, h1, h2, this]
theorem ok_succ {p : UInt8 → Bool} {l : List UInt8} {k : Nat} {c : UInt8} (hn : ∀ j : Nat, j < k → p (l.getD j 0) = true) (hg : l.getD k 0 = c) (h : p c = true) : ∀ j : Nat, j < k + 1 → p (l.getD j 0) = true := by
  intro j hj
  by_cases e : j < k
  · exact hn j e
  · have : j = k := by omega
    rw [this, hg]; exact h
theorem all_of {p : UInt8 → Bool} {l : List UInt8} (h : ∀ j : Nat, j < l.length → p (l.getD j 0) = true) : l.all p = true := by
  rw [List.all_eq_true]
  intro c hc
  obtain ⟨i, hi, e⟩ := List.mem_iff_getElem.1 hc
  have := h i hi
  rw [List.getD_eq_getElem?_getD, List.getElem?_eq_getElem hi] at this
  rw [← e]; exact this
theorem all_no {p : UInt8 → Bool} {l : List UInt8} {k : Nat} (hk : k < l.length) (h : p (l.getD k 0) = false) : l.all p = false := by
  cases e : l.all p with
  | false => rfl
  | true =>
    rw [List.all_eq_true] at e
    have := e (l.getD k 0) (by rw [List.getD_eq_getElem?_getD, List.getElem?_eq_getElem hk]; exact List.getElem_mem hk)
    rw [h] at this; cases this
theorem beq_byte (c : UInt8) (n : Nat) (hn : n < 256) : ((c.toNat : Int) == (n : Int)) = (c == UInt8.ofNat n) := by
  rw [Bool.eq_iff_iff, beq_iff_eq, beq_iff_eq]
  constructor
  · intro h
    exact UInt8.toNat_inj.1 (by rw [UInt8.toNat_ofNat']; omega)
  · intro h
    rw [h, UInt8.toNat_ofNat']; omega
theorem labR_of {l : List UInt8} {a z : UInt8} (h1 : 1 ≤ l.length) (h2 : l.length ≤ 20) (ha : l.getD 0 0 = a) (hz : l.getD (l.length - 1) 0 = z) (hd0 : ((a.toNat : Int) == 45) = false) (hd1 : ((z.toNat : Int) == 45) = false) (h : ∀ j : Nat, j < l.length → okR (l.getD j 0) = true) : labR l = true := by
  have e0 := beq_byte a 45 (by decide)
  have e1 := beq_byte z 45 (by decide)
  have a' : (a == (45 : UInt8)) = false := e0.symm.trans hd0
  have z' : (z == (45 : UInt8)) = false := e1.symm.trans hd1
  have := all_of (p := fun c => alB c || c == 45) h
  simp only [labR, ha, hz, a', z', this, decide_eq_true h1, decide_eq_true h2]; rfl
theorem labR_len {l : List UInt8} (h : ¬ (1 ≤ l.length ∧ l.length ≤ 20)) : labR l = false := by
  cases e : labR l with
  | false => rfl
  | true =>
    simp only [labR, Bool.and_eq_true, decide_eq_true_eq] at e
    exact absurd ⟨e.1.1.1.1, e.1.1.1.2⟩ h
theorem labR_dash {l : List UInt8} {a z : UInt8} (ha : l.getD 0 0 = a) (hz : l.getD (l.length - 1) 0 = z) (h : ¬ (((a.toNat : Int) == 45) = false ∧ ((z.toNat : Int) == 45) = false)) : labR l = false := by
  have e0 := beq_byte a 45 (by decide)
  have e1 := beq_byte z 45 (by decide)
  cases e : labR l with
  | false => rfl
  | true =>
    simp only [labR, Bool.and_eq_true, decide_eq_true_eq, Bool.not_eq_true', ha, hz] at e
    exact absurd ⟨e0.trans e.1.1.2, e1.trans e.1.2⟩ h
theorem labR_ch {l : List UInt8} {k : Nat} {c : UInt8} (hk : k < l.length) (hg : l.getD k 0 = c) (h : okR c = false) : labR l = false := by
  have := all_no (p := fun c => alB c || c == 45) hk (by rw [hg]; exact h)
  simp only [labR, this, Bool.and_false]
end Go.Proofs.YtadcidbeealdpaaGreatDoor

/- The leaves: what a byte is. -/
namespace Go.Proofs.YtadcidbeealdpaaGreatDoor
open Go.RowKit

theorem ret_bool {a b : Bool} (h : a = b) : Ending.returned (.bool a) = .returned (.bool b) := by rw [h]

set_option maxHeartbeats 400000 in
theorem isLetterOrDigit_any (c : Int) (w : World) : Calls Tryz.prog 178 #[.int .u8 c] w fun e w' => e = .returned (.bool (letB c || digB c)) ∧ w' = w := by
  go_enter Tryz.func178, Tryz.ntmps178
  go_wp2
  all_goals
    go_ret
    exact ⟨ret_bool (by rw [Bool.eq_iff_iff]; simp [letB, digB]; omega), rfl⟩
end Go.Proofs.YtadcidbeealdpaaGreatDoor

/- The document's answer: a text is cut at a byte. -/
namespace Go.Proofs.YtadcidbeealdpaaGreatDoor
open Go.RowKit

theorem get_of (s : ByteArray) (k : Nat) (h : k < s.size) : s.data.toList[k]? = some s[k] := by
  rw [List.getElem?_eq_getElem (by simpa using h)]; rfl

theorem byte_ne {a b : UInt8} {c : Int} (hb : (b.toNat : Int) = c) (h : ((a.toNat : Int) == c) = false) : a ≠ b := by
  intro e; subst e; rw [hb] at h; simp at h
theorem byte_eq {a b : UInt8} {c : Int} (hb : (b.toNat : Int) = c) (h : ((a.toNat : Int) == c) = true) : a = b := by
  have h : (a.toNat : Int) = c := by simpa using h
  rw [← hb] at h
  exact UInt8.toNat_inj.1 (by omega)

def CutPost (b : UInt8) (l : List UInt8) (w : World) (e : Ending) (w' : World) : Prop :=
  ∃ (x y : ByteArray) (f : Bool), e = .returned (.tuple #[.string x, .string y, .bool f]) ∧ cutR b l = (x.data.toList, y.data.toList, f) ∧ ∃ n, w' = w.drewN n
theorem CutPost.mk {b : UInt8} {l : List UInt8} {w : World} {e : Ending} {w' : World} (x y : ByteArray) (f : Bool) (he : e = .returned (.tuple #[.string x, .string y, .bool f])) (hc : cutR b l = (x.data.toList, y.data.toList, f)) (n : Nat) (hw : w' = w.drewN n) : CutPost b l w e w' :=
  ⟨x, y, f, he, hc, n, hw⟩

end Go.Proofs.YtadcidbeealdpaaGreatDoor

/- Plain mathematics of records: the sum of 32 bits, byte by byte and bit by bit. -/
namespace Go.Proofs.YtadcidbeealdpaaGreatDoor

def poly : Nat := 3988292384
/-- one bit of the sum, the byte mixed in ahead -/
def crcBit (c : Nat) : Nat := (c / 2) ^^^ (if c % 2 = 1 then poly else 0)
/-- one bit of the sum, the bit held against the lowest -/
def refBit (c b : Nat) : Nat := if b % 2 = c % 2 then c / 2 else (c / 2) ^^^ poly
theorem xor_half (a b : Nat) : (a ^^^ b) / 2 = a / 2 ^^^ b / 2 := by
  have := Nat.shiftRight_xor_distrib (a := a) (b := b) (i := 1)
  simpa [Nat.shiftRight_eq_div_pow] using this
theorem crc_ref (c b : Nat) : crcBit (c ^^^ b) = refBit c b ^^^ (b / 2) := by
  unfold crcBit refBit
  rw [xor_half]
  have h : (c ^^^ b) % 2 = 1 ↔ ¬ b % 2 = c % 2 := by
    rw [Nat.xor_mod_two_eq_one]; omega
  by_cases e : b % 2 = c % 2
  · rw [if_neg (by rw [h]; exact fun k => k e), if_pos e, Nat.xor_zero]
  · rw [if_pos (h.2 e), if_neg e]
    rw [Nat.xor_assoc, Nat.xor_assoc, Nat.xor_comm poly]
def crcBits : Nat → Nat → Nat
  | 0, c => c
  | n + 1, c => crcBits n (crcBit c)
def refBits : Nat → Nat → Nat → Nat
  | 0, c, _ => c
  | n + 1, c, b => refBits n (refBit c b) (b / 2)
theorem crc_refs : ∀ (n c b : Nat), crcBits n (c ^^^ b) = refBits n c b ^^^ (b / 2 ^ n)
  | 0, c, b => by simp [crcBits, refBits]
  | n + 1, c, b => by
    rw [crcBits, refBits, crc_ref, crc_refs n, Nat.div_div_eq_div_mul, ← Nat.pow_succ']
theorem refBits_succ : ∀ (n c b : Nat), refBits (n + 1) c b = refBit (refBits n c b) (b / 2 ^ n)
  | 0, c, b => by simp [refBits]
  | n + 1, c, b => by
    rw [refBits, refBits_succ n, refBits, Nat.div_div_eq_div_mul, ← Nat.pow_succ']
theorem crcBits_succ : ∀ (n c : Nat), crcBits (n + 1) c = crcBit (crcBits n c)
  | 0, c => rfl
  | n + 1, c => by rw [crcBits, crcBits_succ n, crcBits]
theorem crcBit_lt {c : Nat} (h : c < 2 ^ 32) : crcBit c < 2 ^ 32 := by
  unfold crcBit
  refine Nat.xor_lt_two_pow (by omega) ?_
  split <;> decide
theorem refBit_lt {c b : Nat} (h : c < 2 ^ 32) : refBit c b < 2 ^ 32 := by
  unfold refBit
  split
  · omega
  · exact Nat.xor_lt_two_pow (by omega) (by decide)
theorem crcBits_lt : ∀ (n : Nat) {c : Nat}, c < 2 ^ 32 → crcBits n c < 2 ^ 32
  | 0, _, h => h
  | n + 1, _, h => crcBits_lt n (crcBit_lt h)
theorem refBits_lt : ∀ (n : Nat) {c b : Nat}, c < 2 ^ 32 → refBits n c b < 2 ^ 32
  | 0, _, _, h => h
  | n + 1, _, _, h => refBits_lt n (refBit_lt h)
/-- a byte more -/
def crcByte (c : Nat) (b : UInt8) : Nat := refBits 8 c b.toNat
theorem crcByte_eq (c : Nat) (b : UInt8) : crcBits 8 (c ^^^ b.toNat) = crcByte c b := by
  rw [crc_refs]
  have : b.toNat / 2 ^ 8 = 0 := Nat.div_eq_of_lt b.toNat_lt
  rw [this, Nat.xor_zero]; rfl
theorem crcByte_lt {c : Nat} (b : UInt8) (h : c < 2 ^ 32) : crcByte c b < 2 ^ 32 := refBits_lt 8 h
def crcOn (c : Nat) (l : List UInt8) : Nat := l.foldl crcByte c
theorem crcOn_lt : ∀ (l : List UInt8) {c : Nat}, c < 2 ^ 32 → crcOn c l < 2 ^ 32
  | [], _, h => h
  | b :: l, _, h => crcOn_lt l (crcByte_lt b h)
/-- the sum -/
def crc (l : List UInt8) : Nat := 4294967295 - crcOn 4294967295 l
theorem crcOn_take (c : Nat) (l : List UInt8) (k : Nat) (h : k < l.length) : crcOn c (l.take (k + 1)) = crcByte (crcOn c (l.take k)) l[k] := by
  unfold crcOn
  rw [List.take_succ_eq_append_getElem h, List.foldl_append]; rfl
end Go.Proofs.YtadcidbeealdpaaGreatDoor

/- The sum of a record: the document's and the program's. -/
namespace Go.Proofs.YtadcidbeealdpaaGreatDoor
open Go.RowKit

theorem bits_xor_nat (k : IntKind) (j : Nat) (hj : j ≤ k.bits) (hk : ∀ n : Int, 0 ≤ n → n < 2 ^ j → k.wrap n = n) (a b : Nat) (ha : a < 2 ^ j) (hb : b < 2 ^ j) : bits .xor k a b = ((a ^^^ b : Nat) : Int) := by
  have hp : 2 ^ j ≤ 2 ^ k.bits := Nat.pow_le_pow_right (by decide) hj
  have ha' : a % 2 ^ k.bits = a := Nat.mod_eq_of_lt (Nat.lt_of_lt_of_le ha hp)
  have hb' : b % 2 ^ k.bits = b := Nat.mod_eq_of_lt (Nat.lt_of_lt_of_le hb hp)
  have cast : ∀ n : Nat, n < 2 ^ j → ((n : Nat) : Int) < 2 ^ j := fun n h => by exact_mod_cast h
  simp only [bits, BitVec.ofInt_natCast, BitVec.toNat_xor, BitVec.toNat_ofNat, ha', hb']
  exact hk _ (Int.natCast_nonneg _) (cast _ (Nat.xor_lt_two_pow ha hb))
theorem wraps_i64 (n : Int) (h₀ : 0 ≤ n) (h₁ : n < 2 ^ 32) : IntKind.i64.wrap n = n := by rw [IntKind.wrap_i64]; omega
theorem wrap_u32' (n : Int) : IntKind.u32.wrap n = n % 4294967296 := by simp [IntKind.wrap, IntKind.bits, IntKind.signed]
theorem wraps_u32 (n : Int) (h₀ : 0 ≤ n) (h₁ : n < 2 ^ 32) : IntKind.u32.wrap n = n := by rw [wrap_u32']; omega
theorem half_i64 {D : Nat} (h : D < 2 ^ 32) : wrap64 ((D : Int) / 2) = ((D / 2 : Nat) : Int) := by unfold wrap64; omega
/-- the document's test of a bit, in plain numbers -/
theorem bit_test {b j D : Nat} (hb : b < 256) : ((wrap64 (b : Int) / 2 ^ j).tmod 2 != (D : Int) % 2) = !decide (b / 2 ^ j % 2 = D % 2) := by
  have e0 : wrap64 (b : Int) = (b : Int) := by unfold wrap64; omega
  have e1 : ((b : Int) / 2 ^ j) = ((b / 2 ^ j : Nat) : Int) := by simp
  rw [e0, e1, Int.tmod_eq_emod_of_nonneg (Int.natCast_nonneg _)]
  have e2 : (((b / 2 ^ j : Nat) : Int) % 2) = ((b / 2 ^ j % 2 : Nat) : Int) := by omega
  have e3 : ((D : Int) % 2) = ((D % 2 : Nat) : Int) := by omega
  rw [e2, e3, Bool.eq_iff_iff]
  simp only [bne_iff_ne, ne_eq, Bool.not_eq_true', decide_eq_false_iff_not]
  omega

end Go.Proofs.YtadcidbeealdpaaGreatDoor

/- Plain mathematics of records: texts as lists of bytes, numbers whose highest byte comes first. -/
namespace Go.Proofs.YtadcidbeealdpaaGreatDoor

/-- the text of these bytes -/
def bs (l : List UInt8) : ByteArray := ⟨l.toArray⟩
theorem bs_toList (l : List UInt8) : (bs l).data.toList = l := rfl
theorem bs_size (l : List UInt8) : (bs l).size = l.length := by simp [bs, ByteArray.size]
theorem bs_of (s : ByteArray) : bs s.data.toList = s := rfl
theorem bs_inj {a b : List UInt8} (h : bs a = bs b) : a = b := by
  have := congrArg (fun s => s.data.toList) h
  simpa [bs_toList] using this
theorem bs_extract (l : List UInt8) (a b : Nat) : (bs l).extract a b = bs ((l.take b).drop a) := by
  have h : ((bs l).extract a b).data.toList = (l.take b).drop a := by
    rw [Lib.extract_data]
    simp [bs_toList, List.drop_take]
  rw [← h, bs_of]
theorem bs_append (a b : List UInt8) : bs a ++ bs b = bs (a ++ b) := by
  have h : (bs a ++ bs b).data.toList = a ++ b := by simp [bs]
  rw [← h, bs_of]
theorem bs_get (l : List UInt8) (k : Nat) (h : k < (bs l).size) : (bs l)[k] = l[k]'(by rw [← bs_size]; exact h) := by
  simp [bs, ByteArray.getElem_eq_getElem_data]

/-- a number, the highest byte first -/
def be (l : List UInt8) : Nat := l.foldl (fun n b => 256 * n + b.toNat) 0
theorem be_snoc (l : List UInt8) (b : UInt8) : be (l ++ [b]) = 256 * be l + b.toNat := by
  unfold be; rw [List.foldl_append]; rfl
theorem be_take (l : List UInt8) (k : Nat) (h : k < l.length) : be (l.take (k + 1)) = 256 * be (l.take k) + l[k].toNat := by
  rw [List.take_succ_eq_append_getElem h, be_snoc]
theorem snoc_ind {P : List UInt8 → Prop} (h0 : P []) (h1 : ∀ l b, P l → P (l ++ [b])) (l : List UInt8) : P l := by
  have h : ∀ r : List UInt8, P r.reverse := fun r => by
    induction r with
    | nil => exact h0
    | cons b r ih => rw [List.reverse_cons]; exact h1 _ _ ih
  have := h l.reverse
  rwa [List.reverse_reverse] at this
theorem be_lt (l : List UInt8) : be l < 256 ^ l.length := by
  refine snoc_ind (P := fun l => be l < 256 ^ l.length) (by decide) (fun l b ih => ?_) l
  · rw [be_snoc, List.length_append, List.length_singleton, Nat.pow_succ]
    have := b.toNat_lt
    omega
/-- a number in k bytes -/
def beBytes : Nat → Nat → List UInt8
  | 0, _ => []
  | k + 1, n => beBytes k (n / 256) ++ [UInt8.ofNat n]
theorem beBytes_len : ∀ (k n : Nat), (beBytes k n).length = k
  | 0, _ => rfl
  | k + 1, n => by rw [beBytes, List.length_append, beBytes_len k]; rfl
theorem be_beBytes : ∀ (k n : Nat), be (beBytes k n) = n % 256 ^ k
  | 0, n => by simp [beBytes, be, Nat.mod_one]
  | k + 1, n => by
    rw [beBytes, be_snoc, be_beBytes k, UInt8.toNat_ofNat', Nat.pow_succ' (n := k)]
    rw [Nat.mod_mul (x := n) (a := 256) (b := 256 ^ k)]
    omega
theorem beBytes_be : ∀ (l : List UInt8), beBytes l.length (be l) = l := by
  intro l
  refine snoc_ind (P := fun l => beBytes l.length (be l) = l) rfl (fun l b ih => ?_) l
  · rw [List.length_append, List.length_singleton, beBytes, be_snoc]
    have h := b.toNat_lt
    have e : (256 * be l + b.toNat) / 256 = be l := by omega
    rw [e, ih]
    congr 2
    apply UInt8.toNat_inj.1
    rw [UInt8.toNat_ofNat']
    omega
end Go.Proofs.YtadcidbeealdpaaGreatDoor

/- The document's reader of records: take, number, text, list. -/
namespace Go.Proofs.YtadcidbeealdpaaGreatDoor
open Go.RowKit

/-- what lies outside memory is as it was -/
def Still (w w' : World) : Prop := w'.os = w.os ∧ w'.tape = w.tape ∧ w'.output = w.output
theorem Still.refl (w : World) : Still w w := ⟨rfl, rfl, rfl⟩
theorem Still.trans {a b c : World} (h : Still a b) (h' : Still b c) : Still a c := ⟨h'.1.trans h.1, h'.2.1.trans h.2.1, h'.2.2.trans h.2.2⟩
theorem Still.of_below {B : Nat} {w w' : World} (h : Below B w w') : Still w w' := ⟨h.os, h.tape, h.output⟩
theorem still_drewN : ∀ (n : Nat) (w : World), Still w (w.drewN n)
  | 0, w => Still.refl w
  | n + 1, w => (show Still w w.drew from ⟨rfl, rfl, rfl⟩).trans (still_drewN n w.drew)
/-- all blocks but b are as they were -/
structure Same (b : Nat) (w w' : World) : Prop where
  size : w'.heap.size = w.heap.size
  block : ∀ c : Nat, c ≠ b → w'.heap[c]? = w.heap[c]?
  still : Still w w'
theorem Same.refl (b : Nat) (w : World) : Same b w w := ⟨rfl, fun _ _ => rfl, Still.refl w⟩
theorem Same.trans {b : Nat} {w w' w'' : World} (h : Same b w w') (h' : Same b w' w'') : Same b w w'' := ⟨h'.1.trans h.1, fun c hc => (h'.2 c hc).trans (h.2 c hc), h.3.trans h'.3⟩
theorem Same.drewN {b : Nat} {w w' : World} (h : Same b w w') (n : Nat) : Same b w (w'.drewN n) := ⟨by simpa using h.1, fun c hc => by simpa using h.2 c hc, h.3.trans (still_drewN n w')⟩
theorem Same.setCell {b i : Nat} {w w' : World} (h : Same b w w') (v : Value) : Same b w (w'.setCell ⟨b, i, none⟩ v) :=
  ⟨by simpa using h.1, fun c hc => (heap_setCell_other w' ⟨b, i, none⟩ c v hc).trans (h.2 c hc), h.3.trans ⟨rfl, rfl, rfl⟩⟩
theorem Same.below {b B : Nat} {w w' : World} (h : Same b w w') (hb : B ≤ b) : Below B w w' := ⟨h.3.1, h.3.2.1, h.3.2.2, by rw [h.1]; exact Nat.le_refl _, fun k hk => h.2 k (by omega)⟩
theorem w64_in (n : Int) (h : -9223372036854775808 ≤ n ∧ n ≤ 9223372036854775807) : wrap64 n = n := by unfold wrap64; omega
theorem be_byte (l : List UInt8) : be (l.take 1) < 256 := by
  cases l with
  | nil => decide
  | cons b l =>
    have := b.toNat_lt
    show 256 * 0 + b.toNat < 256
    omega
theorem be_four {l : List UInt8} (h : l.length ≤ 4) : be l < 4294967296 := by
  have h1 := be_lt l
  have h2 : 256 ^ l.length ≤ 256 ^ 4 := Nat.pow_le_pow_right (by decide) h
  have h3 : 256 ^ 4 = 4294967296 := by decide
  omega
theorem take_step (l : List UInt8) (many k : Nat) (hk : k < (l.take many).length) : be ((l.take many).take (k + 1)) = 256 * be ((l.take many).take k) + (l.take many)[k].toNat := be_take _ _ hk

end Go.Proofs.YtadcidbeealdpaaGreatDoor

/- The document's answer: is it a domain? -/
namespace Go.Proofs.YtadcidbeealdpaaGreatDoor
open Go.RowKit

def DomPost (l : List UInt8) (w : World) (e : Ending) (w' : World) : Prop := e = .returned (.bool (domR l)) ∧ ∃ n, w' = w.drewN n
theorem DomPost.mk {l : List UInt8} {w : World} {e : Ending} {w' : World} (b : Bool) (he : e = .returned (.bool b)) (hb : domR l = b) (n : Nat) (hw : w' = w.drewN n) : DomPost l w e w' := ⟨by rw [he, hb], n, hw⟩

def domM (s m : Value) : Nat := match s, m with | .string t, .bool true => t.size + 1 | _, _ => 0

/-- where the loop stands: what is left, and whether there is more -/
def DomRel (l : List UInt8) (w : World) (s m : Value) (w' : World) : Prop :=
  ∃ (t : ByteArray) (more : Bool), s = .string t ∧ m = .bool more ∧ t.size ≤ 40 ∧ (more = true → (pieces 46 l).all labR = (pieces 46 t.data.toList).all labR) ∧ (more = false → (pieces 46 l).all labR = true) ∧ ∃ n, w' = w.drewN n

theorem size_of_toList (s : ByteArray) : s.data.toList.length = s.size := by simp

theorem getD_of (s : ByteArray) (k : Nat) (h : k < s.size) : s.data.toList.getD k 0 = s[k] := by
  rw [List.getD_eq_getElem?_getD, get_of s k h]; rfl

end Go.Proofs.YtadcidbeealdpaaGreatDoor

/- The document's answer: small letters. -/
namespace Go.Proofs.YtadcidbeealdpaaGreatDoor
open Go.RowKit

/-- the row while the loop goes: the first k bytes are small -/
def SmallAt (l : List UInt8) (B k : Nat) (w w' : World) : Prop :=
  Below B w w' ∧ B < w'.heap.size ∧ (∀ j : Nat, j < l.length → w'.cell? ⟨B, j, none⟩ = some (.int .u8 (((if j < k then Lib.lowerB (l.getD j 0) else l.getD j 0).toNat : Nat) : Int))) ∧ ∀ j : Nat, j < l.length → w'.frozen? ⟨B, j, none⟩ = false

theorem smallAt_start (s : ByteArray) (w : World) : ∃ cap W1, (convert 9 76 (.string s)).run Tryz.prog w = .ok (.slice (some ⟨w.heap.size, 0, none⟩) s.size cap) W1 ∧ SmallAt s.data.toList w.heap.size 0 w W1 := by
  refine ⟨_, _, run_bytes_of_string w 9 76 5 s Tryz.underlying9 Tryz.underlying76 Tryz.underlying5, ?_, ?_, ?_, ?_⟩
  · exact (Below.refl _ _).drew.alloc (by simp) _
  · simp
  · intro j hj
    have h1 := World.cell?_alloc_mark w.drew (bytesRow s (grownCap w s.size 0 5)) 5 ((bytesRow s (grownCap w s.size 0 5)).size, (bytesRow s (grownCap w s.size 0 5)).size + 1) j
    refine h1.trans ?_
    rw [bytesRow_at s _ j (by simpa using hj)]
    rw [if_neg (by omega), List.getD_eq_getElem?_getD, List.getElem?_eq_getElem hj]
    rfl
  · intro j hj
    have h1 := World.frozen?_alloc_mark w.drew (bytesRow s (grownCap w s.size 0 5)) 5 (bytesRow s (grownCap w s.size 0 5)).size ((bytesRow s (grownCap w s.size 0 5)).size + 1) j
    refine h1.trans ?_
    have : j < (bytesRow s (grownCap w s.size 0 5)).size := by
      have : j < s.data.size := by simpa using hj
      unfold bytesRow
      rw [Array.size_append, Array.size_map]
      omega
    rw [Bool.and_eq_false_iff]
    left
    simp; omega

theorem smallAt_same {l : List UInt8} {B k : Nat} {w w' : World} (h : SmallAt l B k w w') (hk : k < l.length) (he : Lib.lowerB (l.getD k 0) = l.getD k 0) : SmallAt l B (k + 1) w w' := by
  refine ⟨h.1, h.2.1, fun j hj => ?_, h.2.2.2⟩
  rw [h.2.2.1 j hj]
  by_cases e : j = k
  · subst e; rw [if_neg (by omega), if_pos (by omega), he]
  · by_cases e2 : j < k
    · rw [if_pos e2, if_pos (by omega)]
    · rw [if_neg e2, if_neg (by omega)]

theorem smallAt_set {l : List UInt8} {B k : Nat} {w w' : World} (h : SmallAt l B k w w') (hk : k < l.length) (v : Int) (hv : ((Lib.lowerB (l.getD k 0)).toNat : Int) = v) : SmallAt l B (k + 1) w (w'.setCell ⟨B, k, none⟩ (.int .u8 v)) := by
  refine ⟨h.1.setCell (Nat.le_refl _) _, by simpa using h.2.1, fun j hj => ?_, fun j hj => by simpa using h.2.2.2 j hj⟩
  by_cases e : j = k
  · subst e
    rw [World.cell?_setCell_same _ _ _ (h.2.2.1 j hj), if_pos (by omega), hv]
  · rw [World.cell?_setCell_other _ _ _ _ (by intro h; injection h with _ h; exact e h.symm), h.2.2.1 j hj]
    by_cases e2 : j < k
    · rw [if_pos e2, if_pos (by omega)]
    · rw [if_neg e2, if_neg (by omega)]

theorem lower_no {c : UInt8} (h : ¬ (65 ≤ (c.toNat : Int) ∧ (c.toNat : Int) ≤ 90)) : Lib.lowerB c = c := by
  unfold Lib.lowerB Lib.isUpperB
  rw [if_neg]
  simp only [Bool.and_eq_true, decide_eq_true_eq, UInt8.le_iff_toNat_le]
  intro h'; apply h
  have h1 : (65 : UInt8).toNat = 65 := rfl
  have h2 : (90 : UInt8).toNat = 90 := rfl
  omega
theorem lower_yes {c : UInt8} (h : 65 ≤ (c.toNat : Int) ∧ (c.toNat : Int) ≤ 90) : ((Lib.lowerB c).toNat : Int) = (c.toNat : Int) + 32 := by
  unfold Lib.lowerB Lib.isUpperB
  have h1 : (65 : UInt8).toNat = 65 := rfl
  have h2 : (90 : UInt8).toNat = 90 := rfl
  rw [if_pos]
  · rw [UInt8.toNat_add]
    have : (32 : UInt8).toNat = 32 := rfl
    omega
  · simp only [Bool.and_eq_true, decide_eq_true_eq, UInt8.le_iff_toNat_le]
    omega

theorem bytes_back (w' : World) (B cap n : Nat) (l : List UInt8) (hn : l.length = n) (hc : ∀ (j : Nat), j < n → w'.cell? ⟨B, j, none⟩ = some (.int .u8 ((l.getD j 0).toNat : Int))) :
    (convert 76 9 (.slice (some ⟨B, 0, none⟩) n cap)).run Tryz.prog w' = .ok (.string ⟨l.toArray⟩) w' := by
  subst hn
  refine run_convert_bytes_back (P := Tryz.prog) w' 76 9 5 ⟨B, 0, none⟩ cap l Tryz.underlying76 Tryz.underlying5 Tryz.underlying9 (fun j hj => ?_)
  have ea : (Addr.add ⟨B, 0, none⟩ j) = ⟨B, j, none⟩ := by
    unfold Addr.add; simp <;> omega
  rw [ea, hc j hj, List.getD_eq_getElem?_getD, List.getElem?_eq_getElem hj]
  rfl

theorem smallAt_back (s : ByteArray) (cap : Nat) (w w' : World) (B : Nat) (h : SmallAt s.data.toList B s.size w w') :
    (convert 76 9 (.slice (some ⟨B, 0, none⟩) s.size cap)).run Tryz.prog w' = .ok (.string ⟨(Lib.toLowerA s.data.toList).toArray⟩) w' := by
  refine bytes_back w' B cap s.size (Lib.toLowerA s.data.toList) (by simp [Lib.toLowerA]) (fun j hj => ?_)
  have hj' : j < s.data.toList.length := by rw [size_of_toList]; exact hj
  have hc := h.2.2.1 j hj'
  rw [if_pos hj] at hc
  rw [hc, List.getD_eq_getElem?_getD, List.getElem?_eq_getElem hj', Lib.toLowerA, List.getD_eq_getElem?_getD, List.getElem?_map, List.getElem?_eq_getElem hj']
  rfl

end Go.Proofs.YtadcidbeealdpaaGreatDoor

/- The document's numbers in bytes. -/
namespace Go.Proofs.YtadcidbeealdpaaGreatDoor
open Go.RowKit

/-- a row of n elements is made -/
theorem make_n {P : Program} {t e : TypeId} {z : Value} {sz bytes : Nat} (ht : P.underlying t = some (.slice e)) (hinf : (P.info? e).map (fun i => (i.zero, i.size, i.bytes)) = some (some z, sz, bytes)) (n : Nat) (hb : bytes * n ≤ 281474976710656) (hn : n ≤ 140737488351232) (w : World) :
    (Instr.makeSlice t (.int .i64 (n : Int)) (.int .i64 (n : Int))).run P w = .ok (.slice (some ⟨w.heap.size, 0, none⟩) n n) (w.alloc (.cells (madeCells z.cells (n * sz)) e)) := by
  obtain ⟨i, hi, hz, hs, hby⟩ := info_parts hinf
  have := run_make (P := P) w t e i z ht hi hz .i64 .i64 (n : Int) (n : Int) (by omega) (Int.le_refl _) (by
      have h9 : ((bytes : Int) * (n : Int)) = ((bytes * n : Nat) : Int) := by rw [Int.natCast_mul]
      rw [hby, h9]
      generalize bytes * n = q at hb
      omega) (by omega)
  rw [show ((n : Int)).toNat = n by omega, hs] at this
  exact this
theorem made_one (z : Value) (h : z.cells = #[z]) (n : Nat) : (madeCells z.cells (n * 1)).toList = List.replicate n z := by
  rw [h, Nat.mul_one]
  apply List.ext_getElem?
  intro i
  by_cases hi : i < n
  · simp [madeCells, hi, Nat.mod_one]
  · simp [madeCells, hi]

theorem beBytes_cons : ∀ (j n : Nat), beBytes (j + 1) n = UInt8.ofNat (n / 256 ^ j) :: beBytes j n
  | 0, n => by simp [beBytes]
  | j + 1, n => by
    rw [beBytes, beBytes_cons j, beBytes, Nat.div_div_eq_div_mul, ← Nat.pow_succ']
    rfl

theorem info_u8' : (Tryz.prog.info? 5).map (fun i => (i.zero, i.size, i.bytes)) = some (some (.int .u8 0), 1, 1) := by kernel_rfl

/-- the row while it is written, from its end on: j of m bytes stand -/
def ByteRow (w : World) (b m j n : Nat) : Prop := ∃ A : Array Value, w.heap[b]? = some (.cells A 5 (0, 0)) ∧ A.toList = List.replicate (m - j) (.int .u8 0) ++ Lib.byteCells (beBytes j n)
theorem ByteRow.size {m j n : Nat} {A : Array Value} (hj : j ≤ m) (h : A.toList = List.replicate (m - j) (.int .u8 0) ++ Lib.byteCells (beBytes j n)) : A.size = m := by
  have := congrArg List.length h
  rw [List.length_append, List.length_replicate, Lib.byteCells_length, beBytes_len, Array.length_toList] at this
  omega
theorem ByteRow.set {w : World} {b m j n N I : Nat} (h : ByteRow w b m j n) (hj : j < m) (hI : I = m - (j + 1)) (hN : N = n / 256 ^ j) : ByteRow (w.setCell ⟨b, I, none⟩ (.int .u8 ((N : Int) % 256))) b m (j + 1) n := by
  have e0 : ((N : Int) % 256) = (n : Int) / 256 ^ j % 256 := by rw [hN]; simp
  rw [e0, hI]
  clear e0 hN hI
  obtain ⟨A, hA, hl⟩ := h
  refine ⟨A.setIfInBounds (m - (j + 1)) (.int .u8 ((n : Int) / 256 ^ j % 256)), heap_setCell_same w b _ A _ _ hA, ?_⟩
  have hv : ((n : Int) / 256 ^ j % 256) = ((UInt8.ofNat (n / 256 ^ j)).toNat : Int) := by
    rw [UInt8.toNat_ofNat', show ((n : Int) / 256 ^ j) = ((n / 256 ^ j : Nat) : Int) by simp]
    omega
  rw [Array.toList_setIfInBounds, hl, hv, beBytes_cons]
  have e : List.replicate (m - j) (Value.int .u8 0) = List.replicate (m - (j + 1)) (.int .u8 0) ++ [.int .u8 0] := by
    rw [show m - j = (m - (j + 1)) + 1 by omega, List.replicate_succ']
  rw [e, List.append_assoc, List.set_append_right _ _ (by simp)]
  simp [Lib.byteCells]

end Go.Proofs.YtadcidbeealdpaaGreatDoor
