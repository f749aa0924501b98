/- Addresses and domains as functions on lists of bytes: as the program reads them, as the document's answer reads them, and that the two are one. No program is named here. -/
import Derived.Lib.IndexMore
import Derived.Lib.IndexLaws
import Derived.Lib.IndexAny
import Derived.Lib.Split
import Derived.Lib.SplitLaws
import Derived.Lib.Case
namespace Go.Proofs.YtnfhdbmmoicilaaDoor
open Go

/-- a letter; a digit -/
def letB (c : Int) : Bool := (decide (97 ≤ c) && decide (c ≤ 122)) || (decide (65 ≤ c) && decide (c ≤ 90))
def digB (c : Int) : Bool := decide (48 ≤ c) && decide (c ≤ 57)
def alB (c : UInt8) : Bool := letB c.toNat || digB c.toNat

/-- the program's: made of letters, digits and marks -/
def madeB (l m : List UInt8) : Bool := l.all fun c => alB c || !decide (Lib.indexByte m c < 0)
def labB (l : List UInt8) : Bool := decide (1 ≤ l.length) && decide (l.length ≤ 20) && !Lib.hasPrefix l [45] && !Lib.hasSuffix l [45] && madeB l [45]
def locB (l : List UInt8) : Bool := decide (1 ≤ l.length) && decide (l.length ≤ 20) && !Lib.hasPrefix l [46] && !Lib.hasSuffix l [46] && !Lib.contains l [46, 46] && madeB l [45, 95, 43, 46]

/-- a text at the first byte c -/
def cutR (c : UInt8) : List UInt8 → List UInt8 × List UInt8 × Bool
  | [] => ([], [], false)
  | b :: r => if b = c then ([], r, true) else (b :: (cutR c r).1, (cutR c r).2.1, (cutR c r).2.2)
/-- its pieces -/
def pieces (c : UInt8) : List UInt8 → List (List UInt8)
  | [] => [[]]
  | b :: r => if b = c then [] :: pieces c r else (b :: (pieces c r).headD []) :: (pieces c r).tail
def domB (l : List UInt8) : Bool := decide (l.length ≤ 40) && (pieces 46 l).all labB

/-- the document's: a label, what stands ahead of the @ -/
def labR (l : List UInt8) : Bool := decide (1 ≤ l.length) && decide (l.length ≤ 20) && !(l.getD 0 0 == 45) && !(l.getD (l.length - 1) 0 == 45) && l.all fun c => alB c || c == 45
def chR (l : List UInt8) (i : Nat) : Bool := alB (l.getD i 0) || l.getD i 0 == 45 || l.getD i 0 == 95 || l.getD i 0 == 43 || (l.getD i 0 == 46 && !(l.getD (i - 1) 0 == 46))
def locR (l : List UInt8) : Bool := decide (1 ≤ l.length) && decide (l.length ≤ 20) && !(l.getD 0 0 == 46) && !(l.getD (l.length - 1) 0 == 46) && (List.range l.length).all (chR l)

theorem hasPrefix_one (l : List UInt8) (c : UInt8) (h : 1 ≤ l.length) : Lib.hasPrefix l [c] = (l.getD 0 0 == c) := by
  cases l with
  | nil => simp at h
  | cons b r =>
    rw [Bool.eq_iff_iff]
    simp [Lib.hasPrefix, List.isPrefixOf]
    exact eq_comm

theorem hasSuffix_one (l : List UInt8) (c : UInt8) (h : 1 ≤ l.length) : Lib.hasSuffix l [c] = (l.getD (l.length - 1) 0 == c) := by
  rw [Lib.hasSuffix, List.isSuffixOf]
  have hr : 1 ≤ l.reverse.length := by simpa using h
  have := hasPrefix_one l.reverse c hr
  rw [Lib.hasPrefix] at this
  simp only [List.reverse_cons, List.reverse_nil, List.nil_append]
  rw [this]
  congr 1
  rw [List.getD_eq_getElem?_getD, List.getD_eq_getElem?_getD, List.getElem?_reverse (show 0 < l.length by omega)]
  simp

theorem indexByte_neg (m : List UInt8) (c : UInt8) : (!decide (Lib.indexByte m c < 0)) = m.contains c := by
  rw [Lib.contains_iff_indexByte]
  have := Lib.indexByte_ge m c
  by_cases h : Lib.indexByte m c < 0
  · have h' : ¬ 0 ≤ Lib.indexByte m c := by omega
    simp [h, h']
  · have h' : 0 ≤ Lib.indexByte m c := by omega
    simp [h, h']

theorem labB_eq (l : List UInt8) : labB l = labR l := by
  unfold labB labR
  by_cases h : 1 ≤ l.length
  · rw [hasPrefix_one l 45 h, hasSuffix_one l 45 h]
    congr 1
    unfold madeB
    congr 1
    funext c
    rw [indexByte_neg, Bool.eq_iff_iff]
    simp
  · simp [h]

theorem cutR_found (c : UInt8) : ∀ l : List UInt8, (cutR c l).2.2 = true → l = (cutR c l).1 ++ c :: (cutR c l).2.1 ∧ pieces c l = (cutR c l).1 :: pieces c (cutR c l).2.1 ∧ Lib.indexByte l c = ((cutR c l).1.length : Int)
  | [], h => by simp [cutR] at h
  | b :: r, h => by
    by_cases hb : b = c
    · subst hb; simp [cutR, pieces, Lib.indexByte]
    · have hbc : (b == c) = false := by simpa using hb
      have h' : (cutR c r).2.2 = true := by simpa [cutR, hb] using h
      obtain ⟨e1, e2, e3⟩ := cutR_found c r h'
      refine ⟨?_, ?_, ?_⟩
      · simp only [cutR, hb, if_false, List.cons_append]
        rw [← e1]
      · simp only [cutR, pieces, hb, if_false]
        rw [e2]; rfl
      · simp only [cutR, hb, if_false, Lib.indexByte, hbc, Bool.false_eq_true]
        rw [e3]
        have : (((cutR c r).1.length : Int) == -1) = false := by rw [beq_eq_false_iff_ne]; omega
        rw [this]; simp

theorem cutR_none (c : UInt8) : ∀ l : List UInt8, (cutR c l).2.2 = false → cutR c l = (l, [], false) ∧ pieces c l = [l] ∧ Lib.indexByte l c = -1
  | [], h => by simp [cutR, pieces, Lib.indexByte]
  | b :: r, h => by
    by_cases hb : b = c
    · subst hb; simp [cutR] at h
    · have hbc : (b == c) = false := by simpa using hb
      have h' : (cutR c r).2.2 = false := by simpa [cutR, hb] using h
      obtain ⟨e1, e2, e3⟩ := cutR_none c r h'
      refine ⟨?_, ?_, ?_⟩
      · simp only [cutR, hb, if_false]
        rw [e1]
      · simp only [pieces, hb, if_false]
        rw [e2]; rfl
      · simp only [Lib.indexByte, hbc, Bool.false_eq_true, if_false]
        rw [e3]; rfl

/-- the first c is at i -/
theorem cutR_at (c : UInt8) : ∀ (l : List UInt8) (i : Nat), l[i]? = some c → (∀ j : Nat, j < i → l[j]? ≠ some c) → cutR c l = (l.take i, l.drop (i + 1), true)
  | [], i, h, _ => by simp at h
  | b :: r, 0, h, _ => by
    have : b = c := by simpa using h
    simp [cutR, this]
  | b :: r, i + 1, h, hn => by
    have hb : b ≠ c := by simpa using hn 0 (by omega)
    have ih := cutR_at c r i (by simpa using h) (fun j hj => by simpa using hn (j + 1) (by omega))
    simp only [cutR, hb, if_false]
    rw [ih]; simp

theorem cutR_no (c : UInt8) : ∀ (l : List UInt8), (∀ j : Nat, l[j]? ≠ some c) → cutR c l = (l, [], false)
  | [], _ => rfl
  | b :: r, hn => by
    have hb : b ≠ c := by simpa using hn 0
    have ih := cutR_no c r (fun j => by simpa using hn (j + 1))
    simp only [cutR, hb, if_false]
    rw [ih]

theorem cutR_lib (c : UInt8) (l : List UInt8) : cutR c l = if 0 ≤ Lib.indexByte l c then (l.take (Lib.indexByte l c).toNat, l.drop ((Lib.indexByte l c).toNat + 1), true) else (l, [], false) := by
  have hge := Lib.indexByte_ge l c
  by_cases h : 0 ≤ Lib.indexByte l c
  · rw [if_pos h]
    obtain ⟨n, hn⟩ := Int.eq_ofNat_of_zero_le h
    have := Lib.indexByte_some hn
    rw [hn]
    exact cutR_at c l n this.1 this.2
  · rw [if_neg h]
    exact cutR_no c l (Lib.indexByte_none (by omega))

theorem split_pieces (c : UInt8) : ∀ (k : Nat) (l : List UInt8), l.count c = k → Lib.splitK [c] 0 k l = pieces c l
  | 0, l, h => by
    have hn : ∀ j : Nat, l[j]? ≠ some c := fun j hj => by
      have := List.mem_of_getElem? hj
      rw [List.count_eq_zero] at h
      exact h this
    have hf : (cutR c l).2.2 = false := by rw [cutR_no c l hn]
    rw [(cutR_none c l hf).2.1]; rfl
  | k + 1, l, h => by
    cases hc : (cutR c l).2.2 with
    | false =>
      have h0 := (cutR_none c l hc).2.2
      exfalso
      have : c ∈ l := List.count_pos_iff.1 (by omega)
      obtain ⟨j, hj, e⟩ := List.mem_iff_getElem.1 this
      exact Lib.indexByte_none h0 j (by rw [List.getElem?_eq_getElem hj, e])
    | true =>
      obtain ⟨e1, e2, e3⟩ := cutR_found c l hc
      have hno : (cutR c l).1.count c = 0 := by
        rw [List.count_eq_zero]
        intro hm
        obtain ⟨j, hj, e⟩ := List.mem_iff_getElem.1 hm
        refine (Lib.indexByte_some e3).2 j hj ?_
        rw [e1, List.getElem?_append_left hj, List.getElem?_eq_getElem hj, e]
      have hk : (cutR c l).2.1.count c = k := by
        have := h
        rw [e1, List.count_append, hno, List.count_cons_self] at this
        omega
      have ih := split_pieces c k _ hk
      have hi : (((cutR c l).1.length : Int) == -1) = false := by rw [beq_eq_false_iff_ne]; omega
      rw [Lib.splitK, Lib.index_one, e3, hi, e2, ← ih]
      have hT : ∀ a b : List UInt8, l = a ++ c :: b → List.take ((a.length : Int).toNat + 0) l = a ∧ List.drop ((a.length : Int).toNat + [c].length) l = b := by
        rintro a b rfl
        have hz : a.length + 1 - a.length = 1 := by omega
        simp [List.drop_append, hz]
      obtain ⟨ht, hd⟩ := hT _ _ e1
      rw [ht, hd]; rfl

theorem split_eq (l : List UInt8) : Lib.split l [46] = pieces 46 l := by
  rw [Lib.split, Lib.count_one]
  exact split_pieces 46 _ l rfl

theorem isPrefix_two (a b : UInt8) : ∀ l : List UInt8, List.isPrefixOf [a, b] l = (l[0]? == some a && l[1]? == some b)
  | [] => rfl
  | [x] => by simp [List.isPrefixOf]
  | x :: y :: r => by
    rw [Bool.eq_iff_iff]
    simp [List.isPrefixOf]
    constructor <;> (rintro ⟨h1, h2⟩; exact ⟨h1.symm, h2.symm⟩)

theorem contains_dots (l : List UInt8) : Lib.contains l [46, 46] = true ↔ ∃ i : Nat, l[i]? = some (46 : UInt8) ∧ l[i + 1]? = some (46 : UInt8) := by
  rw [Lib.contains, decide_eq_true_eq]
  rcases Lib.index_spec l [46, 46] with ⟨h1, h2⟩ | ⟨i, h1, h2, h3, h4⟩
  · constructor
    · intro h; omega
    · rintro ⟨i, ha, hb⟩
      have hi : i < l.length := by
        rcases Nat.lt_or_ge i l.length with h | h
        · exact h
        · rw [List.getElem?_eq_none h] at ha; cases ha
      have := h2 i (by omega)
      rw [Lib.occAt, isPrefix_two] at this
      simp [List.getElem?_drop, ha, hb] at this
  · constructor
    · intro _
      rw [Lib.occAt, isPrefix_two] at h3
      simp [List.getElem?_drop] at h3
      exact ⟨i, h3.1, h3.2⟩
    · intro _; omega

theorem locB_eq (l : List UInt8) : locB l = locR l := by
  unfold locB locR
  by_cases h : 1 ≤ l.length
  · rw [hasPrefix_one l 46 h, hasSuffix_one l 46 h, Bool.and_assoc _ (!Lib.contains l [46, 46]) _]
    by_cases h0 : l.getD 0 0 = 46
    · rw [h0]
      have e : (!((46 : UInt8) == 46)) = false := rfl
      simp only [e, Bool.and_false, Bool.false_and]
    · congr 1
      rw [Bool.eq_iff_iff]
      simp only [Bool.and_eq_true, Bool.not_eq_true', madeB, List.all_eq_true, List.mem_range]
      constructor
      · rintro ⟨hc, hm⟩ i hi
        have hx : l[i]? = some (l.getD i 0) := by rw [List.getD_eq_getElem?_getD, List.getElem?_eq_getElem hi]; rfl
        have := hm (l.getD i 0) (List.mem_of_getElem? hx)
        rw [indexByte_neg] at this
        simp only [chR]
        by_cases hd : l.getD i 0 = 46
        · have hp : l.getD (i - 1) 0 ≠ 46 := by
            intro hp
            have hi0 : 0 < i := by
              rcases Nat.eq_zero_or_pos i with h' | h'
              · subst h'; exact absurd hd h0
              · exact h'
            have hi1 : i - 1 < l.length := by omega
            have hx1 : l[i - 1]? = some (l.getD (i - 1) 0) := by rw [List.getD_eq_getElem?_getD, List.getElem?_eq_getElem hi1]; rfl
            have := (contains_dots l).2 ⟨i - 1, by rw [hx1, hp], by rw [show i - 1 + 1 = i by omega, hx, hd]⟩
            rw [this] at hc; cases hc
          have hp' : (l.getD (i - 1) 0 == 46) = false := by simpa using hp
          rw [hd, hp']; rfl
        · simp at this
          rcases this with h | h | h | h | h
          · simp [h]
          · simp [h]
          · simp [h]
          · simp [h]
          · exact absurd h hd
      · intro hm
        constructor
        · cases hc : Lib.contains l [46, 46] with
          | false => rfl
          | true =>
            obtain ⟨i, ha, hb⟩ := (contains_dots l).1 hc
            have hi : i + 1 < l.length := by
              rcases Nat.lt_or_ge (i + 1) l.length with h | h
              · exact h
              · rw [List.getElem?_eq_none h] at hb; cases hb
            have := hm (i + 1) hi
            simp only [chR, List.getD_eq_getElem?_getD, hb, show i + 1 - 1 = i by omega, ha] at this
            exact absurd this (by decide)
        · intro c hcm
          obtain ⟨i, hi, e⟩ := List.mem_iff_getElem.1 hcm
          have := hm i hi
          have hx : l.getD i 0 = c := by rw [List.getD_eq_getElem?_getD, List.getElem?_eq_getElem hi]; exact e
          rw [indexByte_neg]
          simp only [chR, hx] at this
          simp at this ⊢
          rcases this with (((h | h) | h) | h) | h
          · exact Or.inl h
          · exact Or.inr (Or.inl h)
          · exact Or.inr (Or.inr (Or.inl h))
          · exact Or.inr (Or.inr (Or.inr (Or.inl h)))
          · exact Or.inr (Or.inr (Or.inr (Or.inr h.1)))
  · simp [h]

/-- the document's domain: the loop over its pieces -/
def domR (l : List UInt8) : Bool := !l.isEmpty && decide (l.length ≤ 40) && (pieces 46 l).all labR
theorem domB_eq (l : List UInt8) : domB l = domR l := by
  unfold domB domR
  have : labB = labR := funext labB_eq
  rw [this]
  cases l with
  | nil => rfl
  | cons b r => simp

/-- all of a domain's bytes are plain -/
theorem mem_pieces (c : UInt8) : ∀ (l : List UInt8) (b : UInt8), b ∈ l → b = c ∨ ∃ p ∈ pieces c l, b ∈ p
  | [], b, h => by cases h
  | x :: r, b, h => by
    by_cases hx : x = c
    · rcases List.mem_cons.1 h with e | h
      · left; rw [e, hx]
      · rcases mem_pieces c r b h with e | ⟨p, hp, hb⟩
        · exact Or.inl e
        · right; refine ⟨p, ?_, hb⟩; simp [pieces, hx, hp]
    · simp only [pieces, hx, if_false]
      rcases List.mem_cons.1 h with e | h
      · right; exact ⟨_, List.mem_cons_self, by rw [e]; exact List.mem_cons_self⟩
      · rcases mem_pieces c r b h with e | ⟨p, hp, hb⟩
        · exact Or.inl e
        · right
          cases hq : pieces c r with
          | nil => rw [hq] at hp; cases hp
          | cons q qs =>
            rw [hq] at hp
            rcases List.mem_cons.1 hp with e | hp
            · subst e; exact ⟨_, List.mem_cons_self, List.mem_cons_of_mem _ hb⟩
            · exact ⟨p, List.mem_cons_of_mem _ hp, hb⟩

theorem al_lt (c : UInt8) (h : alB c = true) : c.toNat < 128 := by
  simp only [alB, letB, digB, Bool.or_eq_true, Bool.and_eq_true, decide_eq_true_eq] at h
  omega

theorem dom_ascii (l : List UInt8) (h : domB l = true) : ∀ (j : Nat) (b : UInt8), l[j]? = some b → b.toNat < 128 := by
  intro j b hb
  rw [domB_eq] at h
  simp only [domR, Bool.and_eq_true, List.all_eq_true] at h
  rcases mem_pieces 46 l b (List.mem_of_getElem? hb) with e | ⟨p, hp, hbp⟩
  · rw [e]; decide
  · have := h.2 p hp
    simp only [labR, Bool.and_eq_true, List.all_eq_true] at this
    have := this.2 b hbp
    rw [Bool.or_eq_true] at this
    rcases this with h | h
    · exact al_lt b h
    · have : b = 45 := by simpa using h
      rw [this]; decide

theorem domB_len (l : List UInt8) (h : domB l = true) : l.length ≤ 40 := by
  simp only [domB, Bool.and_eq_true, decide_eq_true_eq] at h; exact h.1
/-- one piece more -/
theorem dom_step (c : UInt8) (p : List UInt8 → Bool) (l x y : List UInt8) (f : Bool) (h : cutR c l = (x, y, f)) : (pieces c l).all p = (p x && (!f || (pieces c y).all p)) := by
  cases f with
  | true =>
    have := (cutR_found c l (by rw [h])).2.1
    rw [this, h]; simp
  | false =>
    obtain ⟨e1, e2, _⟩ := cutR_none c l (by rw [h])
    rw [e1] at h
    obtain ⟨rfl, rfl⟩ : l = x ∧ [] = y := by simpa using h
    rw [e2]; simp
theorem cut_len (c : UInt8) (l x y : List UInt8) (f : Bool) (h : cutR c l = (x, y, f)) : x.length ≤ l.length ∧ y.length ≤ l.length ∧ (f = true → y.length < l.length) := by
  cases f with
  | true =>
    have := (cutR_found c l (by rw [h])).1
    rw [h] at this
    have e : l.length = x.length + (y.length + 1) := by rw [this]; simp
    exact ⟨by omega, by omega, fun _ => by omega⟩
  | false =>
    obtain ⟨e1, e2, _⟩ := cutR_none c l (by rw [h])
    rw [e1] at h
    obtain ⟨rfl, rfl⟩ : l = x ∧ [] = y := by simpa using h
    exact ⟨Nat.le_refl _, Nat.zero_le _, fun h => by cases h⟩
def okR (c : UInt8) : Bool := alB c || c == 45
theorem okR_let {c : UInt8} (h : letB c.toNat = true) : okR c = true := by simp [okR, alB, h]
theorem okR_dig {c : UInt8} (h : digB c.toNat = true) : okR c = true := by simp [okR, alB, h]
theorem okR_dash {c : UInt8} (h : ((c.toNat : Int) != 45) = false) : okR c = true := by
  have h : (c.toNat : Int) = 45 := by simpa using h
  have : c = 45 := UInt8.toNat_inj.1 (by show c.toNat = 45; omega)
  simp [okR, this]
theorem okR_no {c : UInt8} (h1 : ¬ letB c.toNat = true) (h2 : ¬ digB c.toNat = true) (h3 : ((c.toNat : Int) != 45) = true) : okR c = false := by
  have h3 : ¬ (c.toNat : Int) = 45 := by simpa using h3
  have : c ≠ 45 := fun e => h3 (by rw [e]; rfl)
  simp [okR, alB, h1, h2, this]
theorem ok_succ {p : UInt8 → Bool} {l : List UInt8} {k : Nat} {c : UInt8} (hn : ∀ j : Nat, j < k → p (l.getD j 0) = true) (hg : l.getD k 0 = c) (h : p c = true) : ∀ j : Nat, j < k + 1 → p (l.getD j 0) = true := by
  intro j hj
  by_cases e : j < k
  · exact hn j e
  · have : j = k := by omega
    rw [this, hg]; exact h
theorem all_of {p : UInt8 → Bool} {l : List UInt8} (h : ∀ j : Nat, j < l.length → p (l.getD j 0) = true) : l.all p = true := by
  rw [List.all_eq_true]
  intro c hc
  obtain ⟨i, hi, e⟩ := List.mem_iff_getElem.1 hc
  have := h i hi
  rw [List.getD_eq_getElem?_getD, List.getElem?_eq_getElem hi] at this
  rw [← e]; exact this
theorem all_no {p : UInt8 → Bool} {l : List UInt8} {k : Nat} (hk : k < l.length) (h : p (l.getD k 0) = false) : l.all p = false := by
  cases e : l.all p with
  | false => rfl
  | true =>
    rw [List.all_eq_true] at e
    have := e (l.getD k 0) (by rw [List.getD_eq_getElem?_getD, List.getElem?_eq_getElem hk]; exact List.getElem_mem hk)
    rw [h] at this; cases this
theorem beq_byte (c : UInt8) (n : Nat) (hn : n < 256) : ((c.toNat : Int) == (n : Int)) = (c == UInt8.ofNat n) := by
  rw [Bool.eq_iff_iff, beq_iff_eq, beq_iff_eq]
  constructor
  · intro h
    exact UInt8.toNat_inj.1 (by rw [UInt8.toNat_ofNat']; omega)
  · intro h
    rw [h, UInt8.toNat_ofNat']; omega
theorem labR_of {l : List UInt8} {a z : UInt8} (h1 : 1 ≤ l.length) (h2 : l.length ≤ 20) (ha : l.getD 0 0 = a) (hz : l.getD (l.length - 1) 0 = z) (hd0 : ((a.toNat : Int) == 45) = false) (hd1 : ((z.toNat : Int) == 45) = false) (h : ∀ j : Nat, j < l.length → okR (l.getD j 0) = true) : labR l = true := by
  have e0 := beq_byte a 45 (by decide)
  have e1 := beq_byte z 45 (by decide)
  have a' : (a == (45 : UInt8)) = false := e0.symm.trans hd0
  have z' : (z == (45 : UInt8)) = false := e1.symm.trans hd1
  have := all_of (p := fun c => alB c || c == 45) h
  simp only [labR, ha, hz, a', z', this, decide_eq_true h1, decide_eq_true h2]; rfl
theorem labR_len {l : List UInt8} (h : ¬ (1 ≤ l.length ∧ l.length ≤ 20)) : labR l = false := by
  cases e : labR l with
  | false => rfl
  | true =>
    simp only [labR, Bool.and_eq_true, decide_eq_true_eq] at e
    exact absurd ⟨e.1.1.1.1, e.1.1.1.2⟩ h
theorem labR_dash {l : List UInt8} {a z : UInt8} (ha : l.getD 0 0 = a) (hz : l.getD (l.length - 1) 0 = z) (h : ¬ (((a.toNat : Int) == 45) = false ∧ ((z.toNat : Int) == 45) = false)) : labR l = false := by
  have e0 := beq_byte a 45 (by decide)
  have e1 := beq_byte z 45 (by decide)
  cases e : labR l with
  | false => rfl
  | true =>
    simp only [labR, Bool.and_eq_true, decide_eq_true_eq, Bool.not_eq_true', ha, hz] at e
    exact absurd ⟨e0.trans e.1.1.2, e1.trans e.1.2⟩ h
theorem labR_ch {l : List UInt8} {k : Nat} {c : UInt8} (hk : k < l.length) (hg : l.getD k 0 = c) (h : okR c = false) : labR l = false := by
  have := all_no (p := fun c => alB c || c == 45) hk (by rw [hg]; exact h)
  simp only [labR, this, Bool.and_false]
end Go.Proofs.YtnfhdbmmoicilaaDoor
