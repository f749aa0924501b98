/- The program's Base64: all groups. -/
import Derived.Test.YtnfhdbmmoicilaaDoorSix4
namespace Go.Proofs.YtnfhdbmmoicilaaDoor
open Go.RowKit

theorem writeString_any (B b : Nat) (bs : List Value) (s : ByteArray) (w : World) (h : Lib.IsBuilderF 51 5 B b bs w) (hlen : bs.length + s.size ≤ 140737488355328) (hBw : B ≤ w.heap.size) :
    Calls Tryd.prog 30 #[.pointer (some ⟨b, 0, none⟩), .string s] w fun e w' => e = .returned (.tuple #[.int .i64 s.size, .nilIface]) ∧ (Lib.BuilderAtF 51 5 B b (.pointer (some ⟨b, 0, none⟩)) (bs ++ Lib.strCells s) w' ∧ Below B w w' ∧ Lib.OthersKept 5 (some b) w w') :=
  Any.Builder_WriteString_k { Tryd.lays159 with } Tryd.Builder_Extra_159 B b bs s w h hlen hBw
theorem builderString_any (B b : Nat) (l : List UInt8) (w : World) (h : Lib.IsBuilderF 51 5 B b (Lib.byteCells l) w) (hBw : B ≤ w.heap.size) :
    Calls Tryd.prog 31 #[.pointer (some ⟨b, 0, none⟩)] w fun e w' => e = .returned (.string ⟨l.toArray⟩) ∧ (Lib.IsBuilderF 51 5 B b (Lib.byteCells l) w' ∧ Below B w w' ∧ Lib.OthersKept 5 (some b) w w') :=
  Any.Builder_String_any_k Tryd.lays169 Tryd.Builder_Extra_169 B b l w h hBw

theorem builder_below {T e : TypeId} {B b : Nat} {p : Value} {bs : List Value} {W W' : World} (h : Lib.BuilderAtF T e B b p bs W) (hb : Below W.heap.size W W') : Lib.BuilderAtF T e B b p bs W' := by
  have hlt := h.lt
  obtain ⟨hB, v, hv, hown, hne⟩ := h
  exact ⟨hB, v, (hb.block b hlt).trans hv, hown.kept (row := none) ⟨hb.os, hb.tape, hb.output, hb.size, fun k hk _ => hb.block k hk⟩ (Classical.em _), hne⟩
theorem isBuilder_below {T e : TypeId} {B b : Nat} {bs : List Value} {W W' : World} (h : Lib.IsBuilderF T e B b bs W) (hb : Below W.heap.size W W') : Lib.IsBuilderF T e B b bs W' :=
  h.elim (fun x => .inl (builder_below x hb)) (fun x => .inr (builder_below x hb))

def DecPost (o : Option (List UInt8)) (w : World) (e : Ending) (w' : World) : Prop :=
  (match o with | some g => e = .returned (.tuple #[.string ⟨g.toArray⟩, .bool true]) | none => e = .returned (.tuple #[.string ⟨#[]⟩, .bool false])) ∧ Below w.heap.size w w'
theorem DecPost.yes {o : Option (List UInt8)} {w : World} {e : Ending} {w' : World} (g : List UInt8) (h : o = some g) (he : e = .returned (.tuple #[.string ⟨g.toArray⟩, .bool true])) (hw : Below w.heap.size w w') : DecPost o w e w' := by subst h; exact ⟨he, hw⟩
theorem DecPost.no {o : Option (List UInt8)} {w : World} {e : Ending} {w' : World} (h : o = none) (he : e = .returned (.tuple #[.string ⟨#[]⟩, .bool false])) (hw : Below w.heap.size w w') : DecPost o w e w' := by subst h; exact ⟨he, hw⟩

def strSize (v : Value) : Nat := match v with | .string t => t.size | _ => 0

/-- where the loop stands: what is left, and what has been read -/
def ReadRel (l : List UInt8) (w : World) (s : Value) (w' : World) : Prop :=
  ∃ (t : ByteArray) (acc : List UInt8), s = .string t ∧ t.size % 4 = 0 ∧ acc.length + t.size ≤ l.length ∧ dec64 l = (dec64 t.data.toList).map (acc ++ ·) ∧ Lib.IsBuilderF 51 5 w.heap.size w.heap.size (Lib.byteCells acc) w' ∧ Below w.heap.size w w' ∧ w.heap.size < w'.heap.size

theorem dec_none_mod : ∀ l : List UInt8, l.length % 4 ≠ 0 → dec64 l = none
  | [], h => absurd rfl h
  | [_], _ => rfl
  | [_, _], _ => rfl
  | [_, _, _], _ => rfl
  | a :: b :: c :: d :: r, h => by
    have := dec_none_mod r (by simp at h; omega)
    rw [dec64]
    split
    · rfl
    · split
      · rfl
      · rw [this]

theorem grp_len {a b c d : UInt8} {g : List UInt8} (h : grp a b c d = some g) : 1 ≤ g.length ∧ g.length ≤ 3 := by
  unfold grp at h
  split at h
  · split at h
    · have := (g1_wr h).2; omega
    · have := (g2_wr h).2; omega
  · have := (g3_wr h).2; omega

set_option maxHeartbeats 400000 in
set_option maxRecDepth 100000 in
theorem sixRead_any (s : ByteArray) (w : World) (hs : s.size ≤ 140737488355328) :
    Calls Tryd.prog 15 #[.string s] w (DecPost (dec64 s.data.toList) w) := by
  obtain ⟨O, hO⟩ : ∃ O, dec64 s.data.toList = O := ⟨_, rfl⟩
  rw [hO]
  have HO := Lib.hid hO
  clear hO
  cases hm : (((s.size : Int) % 4) != 0) with
  | true =>
    have HN : Hid (O = none) := by
      show _ = _
      rw [← HO.out]
      refine dec_none_mod _ ?_
      have : ¬ (s.size : Int) % 4 = 0 := by simpa using hm
      rw [size_of_toList]; omega
    go_enter Tryd.func15, Tryd.ntmps15
    go_wp2
    go_ret2
    exact DecPost.no HN.out rfl (Below.refl _ _)
  | false =>
    have hm4 : (s.size : Int) % 4 = 0 := by simpa using hm
    have HM : Hid (s.size % 4 = 0) := by show s.size % 4 = 0; omega
    clear hm4
    go_enter Tryd.func15, Tryd.ntmps15
    go_wp2
    go_loopw [0] (fun t w' => ReadRel s.data.toList w t w') (fun t _ => strSize t)
    case atStart => exact ⟨s, [], rfl, HM.out, by rw [size_of_toList]; simp, by simp, Lib.IsBuilderF.of (Lib.fresh_isBuilder 51 5 w), (Below.refl _ _).alloc (Nat.le_refl _) _, by simp⟩
    case round =>
      obtain ⟨t, acc, rfl, ht4, hlen, hdec, hB, hbel, hsz⟩ := hrel
      rw [size_of_toList] at hlen
      rw [HO.out] at hdec
      have HD := Lib.hid hdec
      have HB := Lib.hid hB
      clear hdec hB
      by_cases h0 : t.size = 0
      · have HE : Hid (O = some acc) := by
          show _ = _
          rw [HD.out]
          have : t.data.toList = [] := by
            rw [← List.length_eq_zero_iff, size_of_toList]; exact h0
          rw [this]; simp [dec64]
        have hbB := Nat.le_of_lt hsz
        go_wp2_with fail
        refine (builderString_any _ _ acc _ HB.out hbB).mono ?_
        rintro e w1 ⟨rfl, _, hb1, _⟩
        go_wp2_with fail
        go_ret2
        exact DecPost.yes acc HE.out rfl (hbel.trans hb1)
      · have h4 : 4 ≤ t.size := by omega
        obtain ⟨a, b, c, d, r, hl⟩ : ∃ a b c d r, t.data.toList = a :: b :: c :: d :: r := by
          have hlen4 : 4 ≤ t.data.toList.length := by rw [size_of_toList]; exact h4
          match h : t.data.toList, hlen4 with
          | a :: b :: c :: d :: r, _ => exact ⟨a, b, c, d, r, rfl⟩
        have he0 : Hid ((t.extract 0 4).data.toList = [a, b, c, d]) := by
          show _ = _
          rw [Lib.extract_data, hl]; rfl
        have her : Hid ((t.extract 4 t.size).data.toList = r) := by
          show _ = _
          rw [Lib.extract_to_end, hl]; rfl
        have hrs : r.length + 4 = t.size := by
          rw [← size_of_toList t, hl]; rfl
        have HD2 : Hid (O = (match grp a b c d with | none => none | some g => if g.length < 3 ∧ r ≠ [] then none else match dec64 r with | none => none | some y => some (g ++ y) : Option (List UInt8)).map (acc ++ ·)) := by
          show _ = _
          rw [HD.out, hl]; rfl
        clear hl HD
        obtain ⟨gr, hgr⟩ : ∃ gr, grp a b c d = gr := ⟨_, rfl⟩
        have HG := Lib.hid hgr
        clear hgr
        have h4i : (4 : Int) ≤ (t.size : Int) := by omega
        go_wp2_with fail
        refine (readGroup_any (t.extract 0 4) a b c d _ he0.out).mono ?_
        rw [HG.out]
        rintro e w1 ⟨he, hb1⟩
        cases gr with
        | none =>
          simp only at he
          subst he
          have HN : Hid (O = none) := by show _ = _; rw [HD2.out, HG.out]; rfl
          go_wp2_with fail
          go_ret2
          exact DecPost.no HN.out rfl (hbel.trans (hb1.mono (Nat.le_of_lt hsz)))
        | some g =>
          simp only at he
          subst he
          have hgl := grp_len HG.out
          have hgs : (⟨g.toArray⟩ : ByteArray).size = g.length := by simp [ByteArray.size]
          by_cases hbad : g.length < 3 ∧ r ≠ []
          · have HN : Hid (O = none) := by
              show _ = _
              rw [HD2.out, HG.out]
              simp only
              rw [if_pos hbad]; rfl
            have hg3 : ((g.length : Int) < 3) := by omega
            have hr0 : (0 : Int) < (t.size : Int) - 4 := by
              have : 1 ≤ r.length := by
                cases r with
                | nil => exact absurd rfl hbad.2
                | cons _ _ => simp
              omega
            go_wp2_with fail
            go_ret2
            exact DecPost.no HN.out rfl (hbel.trans (hb1.mono (Nat.le_of_lt hsz)))
          · have HN : Hid (O = (dec64 r).map ((acc ++ g) ++ ·)) := by
              show _ = _
              rw [HD2.out, HG.out]
              simp only
              rw [if_neg hbad]
              cases dec64 r with
              | none => rfl
              | some y => simp
            have hcase : (3 : Int) ≤ (g.length : Int) ∨ ((g.length : Int) < 3 ∧ ¬ 0 < t.size - 4) := by
              by_cases h3 : 3 ≤ g.length
              · left; omega
              · right
                refine ⟨by omega, ?_⟩
                have : r = [] := by
                  cases r with
                  | nil => rfl
                  | cons x y => exact absurd ⟨by omega, by simp⟩ hbad
                rw [this] at hrs
                simp at hrs; omega
            have HBW := Lib.hid (isBuilder_below HB.out hb1)
            have hw1 : wr.heap.size ≤ w1.heap.size := hb1.size
            have hl1 : Hid ((Lib.byteCells acc).length + (⟨g.toArray⟩ : ByteArray).size ≤ 140737488355328) := by
              show _ ≤ _
              rw [Lib.byteCells_length, hgs]; omega
            have hB1 : w.heap.size ≤ w1.heap.size := by omega
            clear hbad HB
            rcases hcase with h3 | ⟨h3, hz⟩
            all_goals
              go_wp2_with fail
              refine (writeString_any _ _ (Lib.byteCells acc) ⟨g.toArray⟩ _ HBW.out hl1.out hB1).mono ?_
              rintro e w2 ⟨rfl, hb2, hbe2, _⟩
              go_wp2_with fail
              refine ⟨⟨t.extract 4 t.size, acc ++ g, rfl, ?_, ?_, ?_, ?_, ?_, ?_⟩, ?_⟩
              · rw [← size_of_toList, her.out]; omega
              · rw [← size_of_toList (t.extract 4 t.size), her.out, size_of_toList]; simp; omega
              · rw [HO.out, her.out, HN.out]
              · refine Or.inr ?_
                have : Lib.byteCells (acc ++ g) = Lib.byteCells acc ++ Lib.strCells ⟨g.toArray⟩ := by simp [Lib.byteCells, Lib.strCells]
                rw [this]; exact hb2
              · exact (hbel.trans (hb1.mono (Nat.le_of_lt hsz))).trans hbe2
              · have := hbe2.size; omega
              · show (t.extract 4 t.size).size < t.size
                rw [← size_of_toList, her.out]; omega

set_option maxHeartbeats 400000 in
theorem base64_any (s : ByteArray) (w : World) (hs : s.size ≤ 140737488355328) :
    Calls Tryd.prog 6 #[.string s] w (DecPost (dec64 s.data.toList) w) := by
  obtain ⟨O, hO⟩ : ∃ O, dec64 s.data.toList = O := ⟨_, rfl⟩
  rw [hO]
  have HO := Lib.hid hO
  clear hO
  go_enter Tryd.func6, Tryd.ntmps6
  go_wp2_with fail
  refine (sixRead_any s _ hs).mono ?_
  rw [HO.out]
  rintro e w1 ⟨he, hb⟩
  cases O with
  | none =>
    simp only at he
    subst he
    go_wp2_with fail
    go_ret2
    exact DecPost.no rfl rfl hb
  | some g =>
    simp only at he
    subst he
    go_wp2_with fail
    go_ret2
    exact DecPost.yes g rfl rfl hb
end Go.Proofs.YtnfhdbmmoicilaaDoor
