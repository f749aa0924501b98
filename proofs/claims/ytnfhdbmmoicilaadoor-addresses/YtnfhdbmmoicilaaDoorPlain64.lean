/- Letters of six bits, as functions on lists of bytes: as the program reads them (by groups of four), as the document's answer does (all letters in a row, written again and held against the text), and that the two are one. No program is named here. -/
namespace Go.Proofs.YtnfhdbmmoicilaaDoor

def bOf (n : Nat) : UInt8 := UInt8.ofNat n
/-- the letter of a number -/
def letN (k : Nat) : Nat := if k < 26 then k + 65 else if k < 52 then k + 71 else if k < 62 then k - 4 else if k = 62 then 43 else 47
def let6 (k : Nat) : UInt8 := bOf (letN k)
/-- the number of a letter -/
def val (c : UInt8) : Option Nat :=
  if 65 ≤ c.toNat ∧ c.toNat ≤ 90 then some (c.toNat - 65) else if 97 ≤ c.toNat ∧ c.toNat ≤ 122 then some (c.toNat - 97 + 26) else if 48 ≤ c.toNat ∧ c.toNat ≤ 57 then some (c.toNat - 48 + 52) else if c.toNat = 43 then some 62 else if c.toNat = 47 then some 63 else none

theorem bOf_toNat (n : Nat) : (bOf n).toNat = n % 256 := by rw [bOf, UInt8.toNat_ofNat']
theorem bOf_eq (n : Nat) (c : UInt8) (h : n % 256 = c.toNat) : bOf n = c := UInt8.toNat_inj.1 (by rw [bOf_toNat, h])
theorem letN_lt (k : Nat) : letN k < 256 := by
  unfold letN
  by_cases h1 : k < 26
  · rw [if_pos h1]; omega
  rw [if_neg h1]
  by_cases h2 : k < 52
  · rw [if_pos h2]; omega
  rw [if_neg h2]
  by_cases h3 : k < 62
  · rw [if_pos h3]; omega
  rw [if_neg h3]
  by_cases h4 : k = 62
  · rw [if_pos h4]; omega
  · rw [if_neg h4]; omega
theorem let6_toNat (k : Nat) (_ : k < 64) : (let6 k).toNat = letN k := by
  have := letN_lt k
  rw [let6, bOf_toNat]; omega
theorem val_let6 (k : Nat) (h : k < 64) : val (let6 k) = some k := by
  unfold val
  rw [let6_toNat k h]
  unfold letN
  by_cases h1 : k < 26
  · rw [if_pos h1, if_pos (by omega)]; congr 1
  rw [if_neg h1]
  by_cases h2 : k < 52
  · rw [if_pos h2, if_neg (by omega), if_pos (by omega)]; congr 1; omega
  rw [if_neg h2]
  by_cases h3 : k < 62
  · rw [if_pos h3, if_neg (by omega), if_neg (by omega), if_pos (by omega)]; congr 1; omega
  rw [if_neg h3]
  by_cases h4 : k = 62
  · rw [if_pos h4, if_neg (by omega), if_neg (by omega), if_neg (by omega), if_pos rfl, h4]
  · rw [if_neg h4, if_neg (by omega), if_neg (by omega), if_neg (by omega), if_neg (by omega), if_pos rfl]; congr 1; omega
theorem let6_val {c : UInt8} {k : Nat} (h : val c = some k) : k < 64 ∧ let6 k = c := by
  have hk : k < 64 ∧ letN k = c.toNat := by
    unfold val at h
    unfold letN
    split at h
    · have : k = c.toNat - 65 := (Option.some.inj h).symm
      rw [if_pos (by omega)]; omega
    split at h
    · have : k = c.toNat - 97 + 26 := (Option.some.inj h).symm
      rw [if_neg (by omega), if_pos (by omega)]; omega
    split at h
    · have : k = c.toNat - 48 + 52 := (Option.some.inj h).symm
      rw [if_neg (by omega), if_neg (by omega), if_pos (by omega)]; omega
    split at h
    · have : k = 62 := (Option.some.inj h).symm
      rw [if_neg (by omega), if_neg (by omega), if_neg (by omega), if_pos (by omega)]; omega
    split at h
    · have : k = 63 := (Option.some.inj h).symm
      rw [if_neg (by omega), if_neg (by omega), if_neg (by omega), if_neg (by omega)]; omega
    · cases h
  refine ⟨hk.1, UInt8.toNat_inj.1 ?_⟩
  rw [let6_toNat k hk.1, hk.2]
theorem val_eq : val 61 = none := by decide
theorem let6_ne (k : Nat) (h : k < 64) : let6 k ≠ 61 := by
  intro e
  have := val_let6 k h
  rw [e, val_eq] at this; cases this

/-- one group, by how many bytes it stands for -/
def g1 (a b : UInt8) : Option (List UInt8) := match val a, val b with
  | some p, some q => if q % 16 = 0 then some [bOf (p * 4 + q / 16)] else none
  | _, _ => none
def g2 (a b c : UInt8) : Option (List UInt8) := match val a, val b, val c with
  | some p, some q, some r => if r % 4 = 0 then some [bOf (p * 4 + q / 16), bOf (q % 16 * 16 + r / 4)] else none
  | _, _, _ => none
def g3 (a b c d : UInt8) : Option (List UInt8) := match val a, val b, val c, val d with
  | some p, some q, some r, some t => some [bOf (p * 4 + q / 16), bOf (q % 16 * 16 + r / 4), bOf (r % 4 * 64 + t)]
  | _, _, _, _ => none
def grp (a b c d : UInt8) : Option (List UInt8) := if d = 61 then (if c = 61 then g1 a b else g2 a b c) else g3 a b c d

/-- the program's -/
def dec64 : List UInt8 → Option (List UInt8)
  | [] => some []
  | a :: b :: c :: d :: r => match grp a b c d with
    | none => none
    | some g => if g.length < 3 ∧ r ≠ [] then none else match dec64 r with
      | none => none
      | some y => some (g ++ y)
  | _ => none

/-- the document's: bytes in letters -/
def wr64 : List UInt8 → List UInt8
  | [] => []
  | [x] => [let6 (x.toNat / 4), let6 (x.toNat % 4 * 16), 61, 61]
  | [x, y] => [let6 (x.toNat / 4), let6 (x.toNat % 4 * 16 + y.toNat / 16), let6 (y.toNat % 16 * 4), 61]
  | x :: y :: z :: r => let6 (x.toNat / 4) :: let6 (x.toNat % 4 * 16 + y.toNat / 16) :: let6 (y.toNat % 16 * 4 + z.toNat / 64) :: let6 (z.toNat % 64) :: wr64 r

/-- one letter more -/
def step6 (st : List UInt8 × Nat × Nat) (c : UInt8) : List UInt8 × Nat × Nat :=
  match val c with
  | none => st
  | some k => if 8 ≤ st.2.2 + 6 then (st.1 ++ [bOf ((64 * st.2.1 + k) % 65536 / 2 ^ (st.2.2 + 6 - 8))], (64 * st.2.1 + k) % 65536, st.2.2 + 6 - 8) else (st.1, (64 * st.2.1 + k) % 65536, st.2.2 + 6)
def all6 (l : List UInt8) : List UInt8 × Nat × Nat := l.foldl step6 ([], 0, 0)
def ref64 (l : List UInt8) : List UInt8 × Bool := if wr64 (all6 l).1 = l then ((all6 l).1, true) else ([], false)

theorem dec_wr : ∀ x : List UInt8, dec64 (wr64 x) = some x
  | [] => rfl
  | [x] => by
    have hx := x.toNat_lt
    simp only [wr64, dec64, grp, g1, if_true]
    rw [val_let6 _ (by omega), val_let6 _ (by omega)]
    simp only
    rw [if_pos (by omega)]
    simp only [List.length_singleton]
    rw [if_neg (by simp)]
    simp only [List.append_nil]
    rw [bOf_eq _ x (by omega)]
  | [x, y] => by
    have hx := x.toNat_lt
    have hy := y.toNat_lt
    simp only [wr64, dec64, grp, g2, if_true]
    rw [if_neg (let6_ne _ (by omega)), val_let6 _ (by omega), val_let6 _ (by omega), val_let6 _ (by omega)]
    simp only
    rw [if_pos (by omega)]
    simp only [List.length_cons, List.length_nil]
    rw [if_neg (by simp)]
    simp only [List.append_nil]
    rw [bOf_eq _ x (by omega), bOf_eq _ y (by omega)]
  | x :: y :: z :: r => by
    have hx := x.toNat_lt
    have hy := y.toNat_lt
    have hz := z.toNat_lt
    simp only [wr64, dec64, grp, g3]
    rw [if_neg (let6_ne _ (by omega)), val_let6 _ (by omega), val_let6 _ (by omega), val_let6 _ (by omega), val_let6 _ (by omega)]
    simp only [List.length_cons, List.length_nil]
    rw [if_neg (by simp), dec_wr r]
    simp only [List.cons_append, List.nil_append]
    rw [bOf_eq _ x (by omega), bOf_eq _ y (by omega), bOf_eq _ z (by omega)]

theorem g1_wr {a b : UInt8} {g : List UInt8} (h : g1 a b = some g) : wr64 g = [a, b, 61, 61] ∧ g.length = 1 := by
  unfold g1 at h
  split at h
  · rename_i p q hp hq
    split at h
    · obtain ⟨hp1, hp2⟩ := let6_val hp
      obtain ⟨hq1, hq2⟩ := let6_val hq
      have := (Option.some.inj h).symm
      subst this
      refine ⟨?_, rfl⟩
      simp only [wr64]
      rw [bOf_toNat, ← hp2, ← hq2]
      rw [show (p * 4 + q / 16) % 256 / 4 = p by omega, show (p * 4 + q / 16) % 256 % 4 * 16 = q by omega]
    · cases h
  · cases h
theorem g2_wr {a b c : UInt8} {g : List UInt8} (h : g2 a b c = some g) : wr64 g = [a, b, c, 61] ∧ g.length = 2 := by
  unfold g2 at h
  split at h
  · rename_i p q r hp hq hr
    split at h
    · obtain ⟨hp1, hp2⟩ := let6_val hp
      obtain ⟨hq1, hq2⟩ := let6_val hq
      obtain ⟨hr1, hr2⟩ := let6_val hr
      have := (Option.some.inj h).symm
      subst this
      refine ⟨?_, rfl⟩
      simp only [wr64]
      rw [bOf_toNat, bOf_toNat, ← hp2, ← hq2, ← hr2]
      rw [show (p * 4 + q / 16) % 256 / 4 = p by omega, show (p * 4 + q / 16) % 256 % 4 * 16 + (q % 16 * 16 + r / 4) % 256 / 16 = q by omega, show (q % 16 * 16 + r / 4) % 256 % 16 * 4 = r by omega]
    · cases h
  · cases h
theorem g3_wr {a b c d : UInt8} {g : List UInt8} (h : g3 a b c d = some g) : (∀ y, wr64 (g ++ y) = a :: b :: c :: d :: wr64 y) ∧ g.length = 3 := by
  unfold g3 at h
  split at h
  · rename_i p q r t hp hq hr ht
    obtain ⟨hp1, hp2⟩ := let6_val hp
    obtain ⟨hq1, hq2⟩ := let6_val hq
    obtain ⟨hr1, hr2⟩ := let6_val hr
    obtain ⟨ht1, ht2⟩ := let6_val ht
    have := (Option.some.inj h).symm
    subst this
    refine ⟨fun y => ?_, rfl⟩
    simp only [List.cons_append, List.nil_append, wr64]
    rw [bOf_toNat, bOf_toNat, bOf_toNat, ← hp2, ← hq2, ← hr2, ← ht2]
    rw [show (p * 4 + q / 16) % 256 / 4 = p by omega, show (p * 4 + q / 16) % 256 % 4 * 16 + (q % 16 * 16 + r / 4) % 256 / 16 = q by omega, show (q % 16 * 16 + r / 4) % 256 % 16 * 4 + (r % 4 * 64 + t) % 256 / 64 = r by omega, show (r % 4 * 64 + t) % 256 % 64 = t by omega]
  · cases h

theorem wr_dec : ∀ (s x : List UInt8), dec64 s = some x → wr64 x = s
  | [], x, h => by
    have : x = [] := by simpa [dec64] using h.symm
    subst this; rfl
  | [_], x, h => by simp [dec64] at h
  | [_, _], x, h => by simp [dec64] at h
  | [_, _, _], x, h => by simp [dec64] at h
  | a :: b :: c :: d :: r, x, h => by
    rw [dec64] at h
    split at h
    · cases h
    · rename_i g hg
      split at h
      · cases h
      · rename_i hlen
        split at h
        · cases h
        · rename_i y hy
          have hx := (Option.some.inj h).symm
          subst hx
          unfold grp at hg
          by_cases hd : d = 61
          · rw [if_pos hd] at hg
            by_cases hc : c = 61
            · rw [if_pos hc] at hg
              obtain ⟨e1, e2⟩ := g1_wr hg
              have hr : r = [] := by
                cases r with
                | nil => rfl
                | cons _ _ => exact absurd ⟨by omega, by simp⟩ hlen
              subst hr
              have : y = [] := by simpa [dec64] using hy.symm
              subst this
              rw [List.append_nil, e1, hd, hc]
            · rw [if_neg hc] at hg
              obtain ⟨e1, e2⟩ := g2_wr hg
              have hr : r = [] := by
                cases r with
                | nil => rfl
                | cons _ _ => exact absurd ⟨by omega, by simp⟩ hlen
              subst hr
              have : y = [] := by simpa [dec64] using hy.symm
              subst this
              rw [List.append_nil, e1, hd]
          · rw [if_neg hd] at hg
            rw [(g3_wr hg).1 y, wr_dec r y hy]

theorem step_0 (b : List UInt8) (v k : Nat) (h : k < 64) : step6 (b, v, 0) (let6 k) = (b, (64 * v + k) % 65536, 6) := by
  unfold step6; rw [val_let6 k h]; rfl
theorem step_6 (b : List UInt8) (v k : Nat) (h : k < 64) : step6 (b, v, 6) (let6 k) = (b ++ [bOf ((64 * v + k) % 65536 / 16)], (64 * v + k) % 65536, 4) := by
  unfold step6; rw [val_let6 k h]; rfl
theorem step_4 (b : List UInt8) (v k : Nat) (h : k < 64) : step6 (b, v, 4) (let6 k) = (b ++ [bOf ((64 * v + k) % 65536 / 4)], (64 * v + k) % 65536, 2) := by
  unfold step6; rw [val_let6 k h]; rfl
theorem step_2 (b : List UInt8) (v k : Nat) (h : k < 64) : step6 (b, v, 2) (let6 k) = (b ++ [bOf ((64 * v + k) % 65536 / 1)], (64 * v + k) % 65536, 0) := by
  unfold step6; rw [val_let6 k h]; rfl
theorem step_pad (st : List UInt8 × Nat × Nat) : step6 st 61 = st := by
  unfold step6
  rw [val_eq]

theorem all_wr : ∀ (x b : List UInt8) (v : Nat), ((wr64 x).foldl step6 (b, v, 0)).1 = b ++ x
  | [], b, v => by simp [wr64]
  | [x], b, v => by
    have hx := x.toNat_lt
    simp only [wr64, List.foldl_cons, List.foldl_nil]
    rw [step_0 b v (x.toNat / 4) (by omega), step_6 b _ (x.toNat % 4 * 16) (by omega), step_pad, step_pad]
    simp only
    rw [bOf_eq _ x (by omega)]
  | [x, y], b, v => by
    have hx := x.toNat_lt
    have hy := y.toNat_lt
    simp only [wr64, List.foldl_cons, List.foldl_nil]
    rw [step_0 b v (x.toNat / 4) (by omega), step_6 b _ (x.toNat % 4 * 16 + y.toNat / 16) (by omega), step_4 _ _ (y.toNat % 16 * 4) (by omega), step_pad]
    simp only
    rw [bOf_eq _ x (by omega), bOf_eq _ y (by omega)]
    simp
  | x :: y :: z :: r, b, v => by
    have hx := x.toNat_lt
    have hy := y.toNat_lt
    have hz := z.toNat_lt
    simp only [wr64, List.foldl_cons]
    rw [step_0 b v (x.toNat / 4) (by omega), step_6 b _ (x.toNat % 4 * 16 + y.toNat / 16) (by omega), step_4 _ _ (y.toNat % 16 * 4 + z.toNat / 64) (by omega), step_2 _ _ (z.toNat % 64) (by omega)]
    rw [bOf_eq _ x (by omega), bOf_eq _ y (by omega), bOf_eq _ z (by omega)]
    rw [all_wr r]
    simp

/-- what the program answers is what the document's answer is -/
theorem ref64_eq (s : List UInt8) : ref64 s = match dec64 s with | some x => (x, true) | none => ([], false) := by
  unfold ref64
  cases h : dec64 s with
  | some x =>
    have e := wr_dec s x h
    have e2 : (all6 s).1 = x := by
      rw [all6, ← e, all_wr x [] 0]; rfl
    rw [e2, if_pos e]
  | none =>
    rw [if_neg]
    intro e
    have := dec_wr (all6 s).1
    rw [e, h] at this; cases this
end Go.Proofs.YtnfhdbmmoicilaaDoor
