/- The program's: what stands ahead of the @; a domain. -/
import Derived.Test.YtnfhdbmmoicilaaDoorAddr
import Derived.Test.YtnfhdbmmoicilaaDoorRefDom
namespace Go.Proofs.YtnfhdbmmoicilaaDoor
open Go.RowKit

set_option maxHeartbeats 400000 in
theorem isLocal_any (s : ByteArray) (m : Int) (w : World) (hs : s.size ≤ maxLen) (hm : w.cell? ⟨0, 0, none⟩ = some (.int .i64 m)) :
    Calls Tryd.prog 25 #[.string s] w fun e w' => e = .returned (.bool (locB s.data.toList)) ∧ w' = w := by
  have hM := hs
  unfold maxLen at hs
  have HU : Hid (∀ b, locB s.data.toList = b → Ending.returned (.bool b) = .returned (.bool (locB s.data.toList))) := fun b h => by rw [h]
  by_cases hn : 1 ≤ s.size ∧ s.size ≤ 20
  · have hb1 : decide ((s.size : Int) < 1) = false := by simp; omega
    have hb2 : decide (20 < (s.size : Int)) = false := by simp; omega
    have h32 : s.size < 4294967281 := by omega
    have HL : Hid (locB s.data.toList = (!Lib.hasPrefix s.data.toList [46] && !Lib.hasSuffix s.data.toList [46] && !Lib.contains s.data.toList [46, 46] && madeB s.data.toList [45, 95, 43, 46])) := by
      show _ = _
      simp only [locB, size_of_toList, decide_eq_true hn.1, decide_eq_true hn.2, Bool.true_and]
    clear hn
    cases hP : Lib.hasPrefix s.data.toList [46] with
    | true =>
      go_enter Tryd.func25, Tryd.ntmps25
      go_wp2_with (go_at_call 38; refine (Tryd.strings_HasPrefix _ _ _).mono ?_; rintro e w' ⟨rfl, rfl⟩)
      go_ret
      exact ⟨HU.out _ (by rw [HL.out, hP]; rfl), rfl⟩
    | false =>
      cases hS : Lib.hasSuffix s.data.toList [46] with
      | true =>
        go_enter Tryd.func25, Tryd.ntmps25
        go_wp2_with (first | (go_at_call 38; refine (Tryd.strings_HasPrefix _ _ _).mono ?_; rintro e w' ⟨rfl, rfl⟩) | (go_at_call 39; refine (Tryd.strings_HasSuffix _ _ _ hM).mono ?_; rintro e w' ⟨rfl, rfl⟩))
        go_ret
        exact ⟨HU.out _ (by rw [HL.out, hP, hS]; rfl), rfl⟩
      | false =>
        cases hC : Lib.contains s.data.toList [46, 46] with
        | true =>
          go_enter Tryd.func25, Tryd.ntmps25
          go_wp2_with (first | (go_at_call 38; refine (Tryd.strings_HasPrefix _ _ _).mono ?_; rintro e w' ⟨rfl, rfl⟩) | (go_at_call 39; refine (Tryd.strings_HasSuffix _ _ _ hM).mono ?_; rintro e w' ⟨rfl, rfl⟩) | (go_at_call 40; refine (Tryd.strings_Contains _ _ m _ h32 hm).mono ?_; rintro e w' ⟨rfl, rfl⟩))
          go_ret
          exact ⟨HU.out _ (by rw [HL.out, hP, hS, hC]; rfl), rfl⟩
        | false =>
          go_enter Tryd.func25, Tryd.ntmps25
          go_wp2_with (first | (go_at_call 38; refine (Tryd.strings_HasPrefix _ _ _).mono ?_; rintro e w' ⟨rfl, rfl⟩) | (go_at_call 39; refine (Tryd.strings_HasSuffix _ _ _ hM).mono ?_; rintro e w' ⟨rfl, rfl⟩) | (go_at_call 40; refine (Tryd.strings_Contains _ _ m _ h32 hm).mono ?_; rintro e w' ⟨rfl, rfl⟩) | (go_at_call 41; refine (isMadeOf_any _ _ _ hM).mono ?_; rintro e w' ⟨rfl, rfl⟩))
          go_ret
          exact ⟨HU.out _ (by rw [HL.out, hP, hS, hC]; rfl), rfl⟩
  · have HF : Hid (locB s.data.toList = false) := by
      show _ = _
      cases e : locB s.data.toList with
      | false => rfl
      | true =>
        simp only [locB, Bool.and_eq_true, decide_eq_true_eq, size_of_toList] at e
        exact absurd ⟨e.1.1.1.1.1, e.1.1.1.1.2⟩ hn
    have hb : (decide ((s.size : Int) < 1) || decide (20 < (s.size : Int))) = true := by simp; omega
    clear hn
    go_enter Tryd.func25, Tryd.ntmps25
    go_wp2_with fail
    all_goals (go_ret; exact ⟨HU.out _ HF.out, rfl⟩)

def SplitPost (l : List UInt8) (w : World) (e : Ending) (w' : World) : Prop :=
  ∃ ps : List ByteArray, e = .returned (.slice (some ⟨w.heap.size, 0, none⟩) ps.length ps.length) ∧ ps.map (·.data.toList) = pieces 46 l ∧ ps.length ≤ 41 ∧ (∀ p ∈ ps, p.size ≤ 40) ∧ Below w.heap.size w w' ∧
    ∀ k (hk : k < ps.length), w'.cell? ⟨w.heap.size, k, none⟩ = some (.string ps[k])

theorem pieces_len (c : UInt8) : ∀ l : List UInt8, (pieces c l).length ≤ l.length + 1 ∧ ∀ p ∈ pieces c l, p.length ≤ l.length
  | [] => by simp [pieces]
  | b :: r => by
    have ih := pieces_len c r
    by_cases hb : b = c
    · simp only [pieces, hb, if_true]
      refine ⟨by simp; omega, ?_⟩
      intro p hp
      rcases List.mem_cons.1 hp with e | hp
      · subst e; simp
      · have := ih.2 p hp; simp; omega
    · simp only [pieces, hb, if_false]
      cases hq : pieces c r with
      | nil => simp
      | cons q qs =>
        rw [hq] at ih
        refine ⟨by simp at ih ⊢; omega, ?_⟩
        intro p hp
        rcases List.mem_cons.1 hp with e | hp
        · subst e; have := ih.2 q List.mem_cons_self; simp; omega
        · have := ih.2 p (List.mem_cons_of_mem _ hp); simp; omega

theorem split_any (s : ByteArray) (m : Int) (w : World) (hs : s.size ≤ 40) (hm : w.cell? ⟨0, 0, none⟩ = some (.int .i64 m)) :
    Calls Tryd.prog 42 #[.string s, .string ⟨#[46]⟩] w (SplitPost s.data.toList w) := by
  refine (Tryd.strings_Split s ⟨#[46]⟩ m w (by omega) hm (by decide)).mono ?_
  rintro e w' ⟨rfl, rfl⟩
  have hlen := Lib.splitB_all ⟨#[46]⟩ (by decide) 0 _ s rfl
  have hd := Lib.splitB_data ⟨#[46]⟩ 0 (Lib.countB s ⟨#[46]⟩) s
  have hq : (Lib.splitB ⟨#[46]⟩ 0 (Lib.countB s ⟨#[46]⟩) s).map (·.data.toList) = pieces 46 s.data.toList := hd.trans (split_eq s.data.toList)
  have hl := pieces_len 46 s.data.toList
  generalize Lib.splitB ⟨#[46]⟩ 0 (Lib.countB s ⟨#[46]⟩) s = ps at *
  refine ⟨ps, by rw [hlen], hq, ?_, ?_, (Below.refl _ _).alloc (Nat.le_refl _) _, ?_⟩
  · have := congrArg List.length hq
    rw [List.length_map] at this
    have h2 := hl.1
    rw [size_of_toList] at h2
    omega
  · intro p hp
    have := hl.2 p.data.toList (by rw [← hq]; exact List.mem_map_of_mem hp)
    rw [size_of_toList, size_of_toList] at this
    omega
  · intro k hk
    have : (w.alloc (.cells (ps.map Value.string).toArray 9)).cell? ⟨w.heap.size, k, none⟩ = (ps.map Value.string).toArray[k]? := World.cell?_alloc_mark _ _ _ _ _
    rw [this]
    simp [List.getElem?_eq_getElem hk]

def DomBPost (l : List UInt8) (w : World) (e : Ending) (w' : World) : Prop := e = .returned (.bool (domB l)) ∧ Below w.heap.size w w'
theorem DomBPost.mk {l : List UInt8} {w : World} {e : Ending} {w' : World} (b : Bool) (he : e = .returned (.bool b)) (hb : domB l = b) (hw : Below w.heap.size w w') : DomBPost l w e w' := ⟨by rw [he, hb], hw⟩

set_option maxHeartbeats 400000 in
theorem isDomain_any (s : ByteArray) (m : Int) (w : World) (hs : s.size ≤ maxLen) (hm : w.cell? ⟨0, 0, none⟩ = some (.int .i64 m)) :
    Calls Tryd.prog 26 #[.string s] w (DomBPost s.data.toList w) := by
  unfold maxLen at hs
  by_cases h40 : 40 < s.size
  · go_enter Tryd.func26, Tryd.ntmps26
    go_wp2_with fail
    go_ret
    exact DomBPost.mk false rfl (by simp [domB]; intro h; omega) (Below.refl _ _)
  · have hb40 : decide (40 < (s.size : Int)) = false := by simp; omega
    have h40' : s.size ≤ 40 := by omega
    go_enter Tryd.func26, Tryd.ntmps26
    go_wp2_with fail
    refine (split_any s m _ h40' hm).mono ?_
    rintro e w1 ⟨ps, rfl, hq, hpl, hps, hb, hc⟩
    have HQ : Hid (domB s.data.toList = (ps.map (·.data.toList)).all labB) := by
      show _ = _
      rw [hq, domB, size_of_toList, decide_eq_true h40', Bool.true_and]
    have HP := Lib.hid hps
    have HC := Lib.hid hc
    clear hq hps hc hm
    go_wp2_with fail
    go_loop [11] (fun i => ∃ k : Nat, k ≤ ps.length ∧ i = .int .i64 k ∧ Hid (∀ j (hj : j < ps.length), j < k → labB ps[j].data.toList = true)) (fun i => ps.length - (intOf i).toNat)
    case atStart => exact ⟨0, Nat.zero_le _, rfl, fun j hj hk => by omega⟩
    case round =>
      obtain ⟨k, hk, rfl, HN⟩ := hrel
      by_cases hlt : k < ps.length
      · have hck : w1.cell? ⟨w.heap.size, k, none⟩ = some (.string ps[k]) := HC.out k hlt
        have hpk : ps[k].size ≤ maxLen := by have := HP.out ps[k] (List.getElem_mem hlt); unfold maxLen; omega
        cases hL : labB ps[k].data.toList with
        | true =>
          go_wp2_with (go_at_call 43; refine (isLabel_any _ _ hpk).mono ?_; rintro e w' ⟨rfl, rfl⟩)
          exact ⟨⟨k + 1, by omega, by go_num, fun j hj hjk => by
            by_cases e : j < k
            · exact HN.out j hj e
            · have : j = k := by omega
              subst this; exact hL⟩, by simp [intOf]; omega⟩
        | false =>
          go_wp2_with (go_at_call 43; refine (isLabel_any _ _ hpk).mono ?_; rintro e w' ⟨rfl, rfl⟩)
          go_ret
          refine DomBPost.mk false rfl ?_ hb
          rw [HQ.out]
          cases e : (ps.map (·.data.toList)).all labB with
          | false => rfl
          | true =>
            rw [List.all_eq_true] at e
            have := e ps[k].data.toList (List.mem_map_of_mem (List.getElem_mem hlt))
            rw [hL] at this; cases this
      · go_wp2
        go_ret
        refine DomBPost.mk true rfl ?_ hb
        rw [HQ.out, List.all_eq_true]
        intro l hl
        obtain ⟨p, hp, rfl⟩ := List.mem_map.1 hl
        obtain ⟨j, hj, rfl⟩ := List.mem_iff_getElem.1 hp
        exact HN.out j hj (by omega)
end Go.Proofs.YtnfhdbmmoicilaaDoor
