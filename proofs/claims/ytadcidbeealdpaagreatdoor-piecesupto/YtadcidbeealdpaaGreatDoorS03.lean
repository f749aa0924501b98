import Derived.Test.YtadcidbeealdpaaGreatDoorS01
import Derived.Test.YtadcidbeealdpaaGreatDoorS02

/- The program's: what an address is made of, labels, domains. -/
namespace Go.Proofs.YtadcidbeealdpaaGreatDoor
open Go.RowKit

theorem indexByte_any (m : ByteArray) (c : UInt8) (w : World) :
    Calls Tryz.prog 133 #[.string m, .int .u8 (c.toNat : Int)] w fun e w' => e = .returned (.int .i64 (Lib.indexByte m.data.toList c)) ∧ w' = w := by
  have := Tryz.strings_IndexByte m (c.toNat : Int) w
  rwa [Int.toNat_natCast, show c.toNat.toUInt8 = c from UInt8.ofNat_toNat] at this

def madeC (m : List UInt8) (c : UInt8) : Bool := alB c || !decide (Lib.indexByte m c < 0)

set_option maxHeartbeats 400000 in
theorem isMadeOf_any (s m : ByteArray) (w : World) (hs : s.size ≤ maxLen) :
    Calls Tryz.prog 132 #[.string s, .string m] w fun e w' => e = .returned (.bool (madeB s.data.toList m.data.toList)) ∧ w' = w := by
  unfold maxLen at hs
  go_enter Tryz.func132, Tryz.ntmps132
  go_wp2
  go_loop [8] (fun i => ∃ k : Nat, k ≤ s.size ∧ i = .int .i64 k ∧ Hid (∀ j : Nat, j < k → madeC m.data.toList (s.data.toList.getD j 0) = true)) (fun i => s.size - (intOf i).toNat)
  case atStart => exact ⟨0, Nat.zero_le _, rfl, fun j hj => by omega⟩
  case round =>
    obtain ⟨k, hk, rfl, HN⟩ := hrel
    by_cases hlt : k < s.size
    · have hg : Hid (s.data.toList.getD k 0 = s[k]) := getD_of s k hlt
      cases hA : (letB ↑s[k].toNat || digB ↑s[k].toNat) with
      | true =>
        have HO : Hid (madeC m.data.toList s[k] = true) := by
          show _ = _
          simp only [madeC, alB, hA, Bool.true_or]
        go_wp2_with (go_at_call 178; refine (isLetterOrDigit_any _ _).mono ?_; rintro e w' ⟨rfl, rfl⟩)
        exact ⟨⟨k + 1, by omega, by go_num, ok_succ HN.out hg.out HO.out⟩, by simp [intOf]; omega⟩
      | false =>
        cases hI : decide (Lib.indexByte m.data.toList s[k] < 0) with
        | true =>
          have HO : Hid (madeC m.data.toList s[k] = false) := by
            show _ = _
            simp only [madeC, alB, hA, hI]; rfl
          go_wp2_with (first | (go_at_call 178; refine (isLetterOrDigit_any _ _).mono ?_; rintro e w' ⟨rfl, rfl⟩) | (go_at_call 133; refine (indexByte_any _ _ _).mono ?_; rintro e w' ⟨rfl, rfl⟩))
          go_ret
          exact ⟨ret_bool (all_no (p := madeC m.data.toList) (by rw [size_of_toList]; exact hlt) (by rw [hg.out, HO.out])).symm, rfl⟩
        | false =>
          have HO : Hid (madeC m.data.toList s[k] = true) := by
            show _ = _
            simp only [madeC, alB, hA, hI]; rfl
          go_wp2_with (first | (go_at_call 178; refine (isLetterOrDigit_any _ _).mono ?_; rintro e w' ⟨rfl, rfl⟩) | (go_at_call 133; refine (indexByte_any _ _ _).mono ?_; rintro e w' ⟨rfl, rfl⟩))
          exact ⟨⟨k + 1, by omega, by go_num, ok_succ HN.out hg.out HO.out⟩, by simp [intOf]; omega⟩
    · go_wp2
      go_ret
      exact ⟨ret_bool (all_of (p := madeC m.data.toList) (fun j hj => HN.out j (by rw [size_of_toList] at hj; omega))).symm, rfl⟩

set_option maxHeartbeats 400000 in
theorem isLabel_any (s : ByteArray) (w : World) (hs : s.size ≤ maxLen) :
    Calls Tryz.prog 91 #[.string s] w fun e w' => e = .returned (.bool (labB s.data.toList)) ∧ w' = w := by
  have hM := hs
  unfold maxLen at hs
  have HU : Hid (∀ b, labB s.data.toList = b → Ending.returned (.bool b) = .returned (.bool (labB s.data.toList))) := fun b h => by rw [h]
  by_cases hn : 1 ≤ s.size ∧ s.size ≤ 20
  · have hb1 : decide ((s.size : Int) < 1) = false := by simp; omega
    have hb2 : decide (20 < (s.size : Int)) = false := by simp; omega
    have HL : Hid (labB s.data.toList = (!Lib.hasPrefix s.data.toList [45] && !Lib.hasSuffix s.data.toList [45] && madeB s.data.toList [45])) := by
      show _ = _
      simp only [labB, size_of_toList, decide_eq_true hn.1, decide_eq_true hn.2, Bool.true_and]
    clear hn
    cases hP : Lib.hasPrefix s.data.toList [45] with
    | true =>
      go_enter Tryz.func91, Tryz.ntmps91
      go_wp2_with (go_at_call 130; refine (Tryz.strings_HasPrefix _ _ _).mono ?_; rintro e w' ⟨rfl, rfl⟩)
      go_ret
      exact ⟨HU.out _ (by rw [HL.out, hP]; rfl), rfl⟩
    | false =>
      cases hS : Lib.hasSuffix s.data.toList [45] with
      | true =>
        go_enter Tryz.func91, Tryz.ntmps91
        go_wp2_with (first | (go_at_call 130; refine (Tryz.strings_HasPrefix _ _ _).mono ?_; rintro e w' ⟨rfl, rfl⟩) | (go_at_call 131; refine (Tryz.strings_HasSuffix _ _ _ hM).mono ?_; rintro e w' ⟨rfl, rfl⟩))
        go_ret
        exact ⟨HU.out _ (by rw [HL.out, hP, hS]; rfl), rfl⟩
      | false =>
        go_enter Tryz.func91, Tryz.ntmps91
        go_wp2_with (first | (go_at_call 130; refine (Tryz.strings_HasPrefix _ _ _).mono ?_; rintro e w' ⟨rfl, rfl⟩) | (go_at_call 131; refine (Tryz.strings_HasSuffix _ _ _ hM).mono ?_; rintro e w' ⟨rfl, rfl⟩) | (go_at_call 132; refine (isMadeOf_any _ _ _ hM).mono ?_; rintro e w' ⟨rfl, rfl⟩))
        go_ret
        exact ⟨HU.out _ (by rw [HL.out, hP, hS]; rfl), rfl⟩
  · have HF : Hid (labB s.data.toList = false) := by
      rw [labB_eq]
      exact labR_len (by rw [size_of_toList]; exact hn)
    have hb : (decide ((s.size : Int) < 1) || decide (20 < (s.size : Int))) = true := by simp; omega
    clear hn
    go_enter Tryz.func91, Tryz.ntmps91
    go_wp2_with fail
    all_goals (go_ret; exact ⟨HU.out _ HF.out, rfl⟩)
end Go.Proofs.YtadcidbeealdpaaGreatDoor

/- The program's: what stands ahead of the @; a domain. -/
namespace Go.Proofs.YtadcidbeealdpaaGreatDoor
open Go.RowKit

set_option maxHeartbeats 400000 in
theorem isLocal_any (s : ByteArray) (m : Int) (w : World) (hs : s.size ≤ maxLen) (hm : w.cell? ⟨0, 0, none⟩ = some (.int .i64 m)) :
    Calls Tryz.prog 206 #[.string s] w fun e w' => e = .returned (.bool (locB s.data.toList)) ∧ w' = w := by
  have hM := hs
  unfold maxLen at hs
  have HU : Hid (∀ b, locB s.data.toList = b → Ending.returned (.bool b) = .returned (.bool (locB s.data.toList))) := fun b h => by rw [h]
  by_cases hn : 1 ≤ s.size ∧ s.size ≤ 20
  · have hb1 : decide ((s.size : Int) < 1) = false := by simp; omega
    have hb2 : decide (20 < (s.size : Int)) = false := by simp; omega
    have h32 : s.size < 4294967281 := by omega
    have HL : Hid (locB s.data.toList = (!Lib.hasPrefix s.data.toList [46] && !Lib.hasSuffix s.data.toList [46] && !Lib.contains s.data.toList [46, 46] && madeB s.data.toList [45, 95, 43, 46])) := by
      show _ = _
      simp only [locB, size_of_toList, decide_eq_true hn.1, decide_eq_true hn.2, Bool.true_and]
    clear hn
    cases hP : Lib.hasPrefix s.data.toList [46] with
    | true =>
      go_enter Tryz.func206, Tryz.ntmps206
      go_wp2_with (go_at_call 130; refine (Tryz.strings_HasPrefix _ _ _).mono ?_; rintro e w' ⟨rfl, rfl⟩)
      go_ret
      exact ⟨HU.out _ (by rw [HL.out, hP]; rfl), rfl⟩
    | false =>
      cases hS : Lib.hasSuffix s.data.toList [46] with
      | true =>
        go_enter Tryz.func206, Tryz.ntmps206
        go_wp2_with (first | (go_at_call 130; refine (Tryz.strings_HasPrefix _ _ _).mono ?_; rintro e w' ⟨rfl, rfl⟩) | (go_at_call 131; refine (Tryz.strings_HasSuffix _ _ _ hM).mono ?_; rintro e w' ⟨rfl, rfl⟩))
        go_ret
        exact ⟨HU.out _ (by rw [HL.out, hP, hS]; rfl), rfl⟩
      | false =>
        cases hC : Lib.contains s.data.toList [46, 46] with
        | true =>
          go_enter Tryz.func206, Tryz.ntmps206
          go_wp2_with (first | (go_at_call 130; refine (Tryz.strings_HasPrefix _ _ _).mono ?_; rintro e w' ⟨rfl, rfl⟩) | (go_at_call 131; refine (Tryz.strings_HasSuffix _ _ _ hM).mono ?_; rintro e w' ⟨rfl, rfl⟩) | (go_at_call 227; refine (Tryz.strings_Contains _ _ m _ h32 hm).mono ?_; rintro e w' ⟨rfl, rfl⟩))
          go_ret
          exact ⟨HU.out _ (by rw [HL.out, hP, hS, hC]; rfl), rfl⟩
        | false =>
          go_enter Tryz.func206, Tryz.ntmps206
          go_wp2_with (first | (go_at_call 130; refine (Tryz.strings_HasPrefix _ _ _).mono ?_; rintro e w' ⟨rfl, rfl⟩) | (go_at_call 131; refine (Tryz.strings_HasSuffix _ _ _ hM).mono ?_; rintro e w' ⟨rfl, rfl⟩) | (go_at_call 227; refine (Tryz.strings_Contains _ _ m _ h32 hm).mono ?_; rintro e w' ⟨rfl, rfl⟩) | (go_at_call 132; refine (isMadeOf_any _ _ _ hM).mono ?_; rintro e w' ⟨rfl, rfl⟩))
          go_ret
          exact ⟨HU.out _ (by rw [HL.out, hP, hS, hC]; rfl), rfl⟩
  · have HF : Hid (locB s.data.toList = false) := by
      show _ = _
      cases e : locB s.data.toList with
      | false => rfl
      | true =>
        simp only [locB, Bool.and_eq_true, decide_eq_true_eq, size_of_toList] at e
        exact absurd ⟨e.1.1.1.1.1, e.1.1.1.1.2⟩ hn
    have hb : (decide ((s.size : Int) < 1) || decide (20 < (s.size : Int))) = true := by simp; omega
    clear hn
    go_enter Tryz.func206, Tryz.ntmps206
    go_wp2_with fail
    all_goals (go_ret; exact ⟨HU.out _ HF.out, rfl⟩)

def SplitPost (l : List UInt8) (w : World) (e : Ending) (w' : World) : Prop :=
  ∃ ps : List ByteArray, e = .returned (.slice (some ⟨w.heap.size, 0, none⟩) ps.length ps.length) ∧ ps.map (·.data.toList) = pieces 46 l ∧ ps.length ≤ 41 ∧ (∀ p ∈ ps, p.size ≤ 40) ∧ Below w.heap.size w w' ∧
    ∀ k (hk : k < ps.length), w'.cell? ⟨w.heap.size, k, none⟩ = some (.string ps[k])

theorem pieces_len (c : UInt8) : ∀ l : List UInt8, (pieces c l).length ≤ l.length + 1 ∧ ∀ p ∈ pieces c l, p.length ≤ l.length
  | [] => by simp [pieces]
  | b :: r => by
    have ih := pieces_len c r
    by_cases hb : b = c
    · simp only [pieces, hb, if_true]
      refine ⟨by simp; omega, ?_⟩
      intro p hp
      rcases List.mem_cons.1 hp with e | hp
      · subst e; simp
      · have := ih.2 p hp; simp; omega
    · simp only [pieces, hb, if_false]
      cases hq : pieces c r with
      | nil => simp
      | cons q qs =>
        rw [hq] at ih
        refine ⟨by simp at ih ⊢; omega, ?_⟩
        intro p hp
        rcases List.mem_cons.1 hp with e | hp
        · subst e; have := ih.2 q List.mem_cons_self; simp; omega
        · have := ih.2 p (List.mem_cons_of_mem _ hp); simp; omega

theorem split_any (s : ByteArray) (m : Int) (w : World) (hs : s.size ≤ 40) (hm : w.cell? ⟨0, 0, none⟩ = some (.int .i64 m)) :
    Calls Tryz.prog 90 #[.string s, .string ⟨#[46]⟩] w (SplitPost s.data.toList w) := by
  refine (Tryz.strings_Split s ⟨#[46]⟩ m w (by omega) hm (by decide)).mono ?_
  rintro e w' ⟨rfl, rfl⟩
  have hlen := Lib.splitB_all ⟨#[46]⟩ (by decide) 0 _ s rfl
  have hd := Lib.splitB_data ⟨#[46]⟩ 0 (Lib.countB s ⟨#[46]⟩) s
  have hq : (Lib.splitB ⟨#[46]⟩ 0 (Lib.countB s ⟨#[46]⟩) s).map (·.data.toList) = pieces 46 s.data.toList := hd.trans (split_eq s.data.toList)
  have hl := pieces_len 46 s.data.toList
  generalize Lib.splitB ⟨#[46]⟩ 0 (Lib.countB s ⟨#[46]⟩) s = ps at *
  refine ⟨ps, by rw [hlen], hq, ?_, ?_, (Below.refl _ _).alloc (Nat.le_refl _) _, ?_⟩
  · have := congrArg List.length hq
    rw [List.length_map] at this
    have h2 := hl.1
    rw [size_of_toList] at h2
    omega
  · intro p hp
    have := hl.2 p.data.toList (by rw [← hq]; exact List.mem_map_of_mem hp)
    rw [size_of_toList, size_of_toList] at this
    omega
  · intro k hk
    have : (w.alloc (.cells (ps.map Value.string).toArray 9)).cell? ⟨w.heap.size, k, none⟩ = (ps.map Value.string).toArray[k]? := World.cell?_alloc_mark _ _ _ _ _
    rw [this]
    simp [List.getElem?_eq_getElem hk]

def DomBPost (l : List UInt8) (w : World) (e : Ending) (w' : World) : Prop := e = .returned (.bool (domB l)) ∧ Below w.heap.size w w'
theorem DomBPost.mk {l : List UInt8} {w : World} {e : Ending} {w' : World} (b : Bool) (he : e = .returned (.bool b)) (hb : domB l = b) (hw : Below w.heap.size w w') : DomBPost l w e w' := ⟨by rw [he, hb], hw⟩

set_option maxHeartbeats 400000 in
theorem isDomain_any (s : ByteArray) (m : Int) (w : World) (hs : s.size ≤ maxLen) (hm : w.cell? ⟨0, 0, none⟩ = some (.int .i64 m)) :
    Calls Tryz.prog 49 #[.string s] w (DomBPost s.data.toList w) := by
  unfold maxLen at hs
  by_cases h40 : 40 < s.size
  · go_enter Tryz.func49, Tryz.ntmps49
    go_wp2_with fail
    go_ret
    exact DomBPost.mk false rfl (by simp [domB]; intro h; omega) (Below.refl _ _)
  · have hb40 : decide (40 < (s.size : Int)) = false := by simp; omega
    have h40' : s.size ≤ 40 := by omega
    go_enter Tryz.func49, Tryz.ntmps49
    go_wp2_with fail
    refine (split_any s m _ h40' hm).mono ?_
    rintro e w1 ⟨ps, rfl, hq, hpl, hps, hb, hc⟩
    have HQ : Hid (domB s.data.toList = (ps.map (·.data.toList)).all labB) := by
      show _ = _
      rw [hq, domB, size_of_toList, decide_eq_true h40', Bool.true_and]
    have HP := Lib.hid hps
    have HC := Lib.hid hc
    clear hq hps hc hm
    go_wp2_with fail
    go_loop [11] (fun i => ∃ k : Nat, k ≤ ps.length ∧ i = .int .i64 k ∧ Hid (∀ j (hj : j < ps.length), j < k → labB ps[j].data.toList = true)) (fun i => ps.length - (intOf i).toNat)
    case atStart => exact ⟨0, Nat.zero_le _, rfl, fun j hj hk => by omega⟩
    case round =>
      obtain ⟨k, hk, rfl, HN⟩ := hrel
      by_cases hlt : k < ps.length
      · have hck : w1.cell? ⟨w.heap.size, k, none⟩ = some (.string ps[k]) := HC.out k hlt
        have hpk : ps[k].size ≤ maxLen := by have := HP.out ps[k] (List.getElem_mem hlt); unfold maxLen; omega
        cases hL : labB ps[k].data.toList with
        | true =>
          go_wp2_with (go_at_call 91; refine (isLabel_any _ _ hpk).mono ?_; rintro e w' ⟨rfl, rfl⟩)
          exact ⟨⟨k + 1, by omega, by go_num, fun j hj hjk => by
            by_cases e : j < k
            · exact HN.out j hj e
            · have : j = k := by omega
              subst this; exact hL⟩, by simp [intOf]; omega⟩
        | false =>
          go_wp2_with (go_at_call 91; refine (isLabel_any _ _ hpk).mono ?_; rintro e w' ⟨rfl, rfl⟩)
          go_ret
          refine DomBPost.mk false rfl ?_ hb
          rw [HQ.out]
          cases e : (ps.map (·.data.toList)).all labB with
          | false => rfl
          | true =>
            rw [List.all_eq_true] at e
            have := e ps[k].data.toList (List.mem_map_of_mem (List.getElem_mem hlt))
            rw [hL] at this; cases this
      · go_wp2
        go_ret
        refine DomBPost.mk true rfl ?_ hb
        rw [HQ.out, List.all_eq_true]
        intro l hl
        obtain ⟨p, hp, rfl⟩ := List.mem_map.1 hl
        obtain ⟨j, hj, rfl⟩ := List.mem_iff_getElem.1 hp
        exact HN.out j hj (by omega)
end Go.Proofs.YtadcidbeealdpaaGreatDoor

/- The program's Address. -/
namespace Go.Proofs.YtadcidbeealdpaaGreatDoor
open Go.RowKit

set_option maxHeartbeats 400000 in
theorem sliteCut_any (s : ByteArray) (c : UInt8) (w : World) (hs : s.size ≤ maxLen) :
    Calls Tryz.prog 119 #[.string s, .string ⟨#[c]⟩] w (CutPost c s.data.toList w) := by
  unfold maxLen at hs
  have hc := cutR_lib c s.data.toList
  by_cases h : 0 ≤ Lib.indexByte s.data.toList c
  · rw [if_pos h] at hc
    obtain ⟨i, hi⟩ := Int.eq_ofNat_of_zero_le h
    have hx := (Lib.indexByte_some hi).1
    have hlt : i < s.size := by
      have := (List.getElem?_eq_some_iff.1 hx).1
      rw [size_of_toList] at this; exact this
    have HI := Lib.hid hi
    rw [hi, Int.toNat_natCast] at hc
    have HC := Lib.hid hc
    clear hc hi h hx
    have c1 : (0 : Int) ≤ ↑i := by omega
    have c2 : (↑i : Int) ≤ ↑s.size := by omega
    have c3 : (0 : Int) ≤ ↑i + 1 := by omega
    have c4 : (↑i + 1 : Int) ≤ ↑s.size := by omega
    go_enter Tryz.func119, Tryz.ntmps119
    go_wp2_with (go_at_call 160; refine (Tryz.stringslite_Index_one _ _ _).mono ?_; rintro e w' ⟨rfl, rfl⟩; rw [HI.out])
    go_region
    go_wp2
    go_ret3
    refine CutPost.mk _ _ _ rfl ?_ 1 rfl
    rw [HC.out, Lib.extract_data, Lib.extract_to_end]
    rfl
  · have hge := Lib.indexByte_ge s.data.toList c
    have hi : Lib.indexByte s.data.toList c = -1 := by omega
    rw [if_neg h] at hc
    have HI := Lib.hid hi
    have HC := Lib.hid hc
    clear hc hi h hge
    go_enter Tryz.func119, Tryz.ntmps119
    go_wp2_with (go_at_call 160; refine (Tryz.stringslite_Index_one _ _ _).mono ?_; rintro e w' ⟨rfl, rfl⟩; rw [HI.out])
    go_ret3
    exact CutPost.mk _ _ _ rfl HC.out 0 rfl

set_option maxHeartbeats 400000 in
theorem stringsCut_any (s : ByteArray) (c : UInt8) (w : World) (hs : s.size ≤ maxLen) :
    Calls Tryz.prog 83 #[.string s, .string ⟨#[c]⟩] w (CutPost c s.data.toList w) := by
  go_enter Tryz.func83, Tryz.ntmps83
  go_wp2_with fail
  refine (sliteCut_any s c _ hs).mono ?_
  rintro e w' ⟨x, y, f, rfl, hc, n, rfl⟩
  have HC := Lib.hid hc
  clear hc
  go_wp2_with fail
  go_ret3
  exact CutPost.mk _ _ _ rfl HC.out n rfl

set_option maxHeartbeats 400000 in
theorem clone_any (s : ByteArray) (w : World) (hlim : s.size ≤ 140737488355328) :
    Calls Tryz.prog 30 #[.string s] w fun e w' => e = .returned (.string s) ∧ Below w.heap.size w w' := by
  go_enter Tryz.func30, Tryz.ntmps30
  go_wp2_with fail
  refine (Tryz.stringslite_Clone s _ (by omega)).mono ?_
  rintro e w' ⟨rfl, hb⟩
  go_wp2_with fail
  go_ret
  exact ⟨rfl, hb⟩

set_option maxHeartbeats 400000 in
theorem smallLetters_any (s : ByteArray) (w : World) (hlim : s.size ≤ 40) (hascii : ∀ (j : Nat) (b : UInt8), s.data.toList[j]? = some b → b.toNat < 128) :
    Calls Tryz.prog 207 #[.string s] w fun e w' => e = .returned (.string ⟨(Lib.toLowerA s.data.toList).toArray⟩) ∧ Below w.heap.size w w' := by
  have HA := Lib.hid hascii
  clear hascii
  go_enter Tryz.func207, Tryz.ntmps207
  go_wp2_with fail
  refine (Tryz.strings_ToLower_ascii s _ (by omega) HA.out).mono ?_
  rintro e w1 ⟨rfl, hb⟩
  go_wp2_with fail
  refine (clone_any _ _ ?_).mono ?_
  · show (Lib.toLowerA s.data.toList).toArray.size ≤ _
    simp [Lib.toLowerA]; omega
  rintro e w2 ⟨rfl, hb2⟩
  go_wp2_with fail
  go_ret
  exact ⟨rfl, hb.trans (hb2.mono hb.size)⟩

def addrR (l : List UInt8) : List UInt8 × List UInt8 × Bool :=
  if locB (cutR 64 l).1 && domB (cutR 64 l).2.1 then ((cutR 64 l).1, Lib.toLowerA (cutR 64 l).2.1, true) else ([], [], false)
def AddrPost (l : List UInt8) (w : World) (e : Ending) (w' : World) : Prop :=
  ∃ (x y : ByteArray) (f : Bool), e = .returned (.tuple #[.string x, .string y, .bool f]) ∧ addrR l = (x.data.toList, y.data.toList, f) ∧ Below w.heap.size w w'
theorem AddrPost.mk {l : List UInt8} {w : World} {e : Ending} {w' : World} (x y : ByteArray) (f : Bool) (he : e = .returned (.tuple #[.string x, .string y, .bool f])) (hc : addrR l = (x.data.toList, y.data.toList, f)) (hw : Below w.heap.size w w') : AddrPost l w e w' :=
  ⟨x, y, f, he, hc, hw⟩

theorem below_drewN (n : Nat) (w : World) (B : Nat) : Below B w (w.drewN n) := by
  induction n with
  | zero => exact Below.refl _ _
  | succ n ih => exact ih.trans ((Below.refl _ _).drew)

set_option maxHeartbeats 400000 in
theorem read_any (s : ByteArray) (m : Int) (w : World) (hs : s.size ≤ 140737488355328) (hm : w.cell? ⟨0, 0, none⟩ = some (.int .i64 m)) :
    Calls Tryz.prog 169 #[.string s] w (AddrPost s.data.toList w) := by
  have hM : s.size ≤ maxLen := by unfold maxLen; omega
  go_enter Tryz.func169, Tryz.ntmps169
  go_wp2_with fail
  refine (stringsCut_any s 64 _ hM).mono ?_
  rintro e w' ⟨x, y, f, rfl, hc, n, rfl⟩
  have hl := cut_len 64 _ _ _ _ hc
  rw [size_of_toList, size_of_toList, size_of_toList] at hl
  have hx : x.size ≤ 140737488355328 := by omega
  have hy : y.size ≤ 140737488355328 := by omega
  have hxM : x.size ≤ maxLen := by unfold maxLen; omega
  have hyM : y.size ≤ maxLen := by unfold maxLen; omega
  have HR : Hid (addrR s.data.toList = if locB x.data.toList && domB y.data.toList then (x.data.toList, Lib.toLowerA y.data.toList, true) else ([], [], false)) := by
    show _ = _
    rw [addrR, hc]
  clear hl hc
  have hm1 : (w.drewN n).cell? ⟨0, 0, none⟩ = some (.int .i64 m) := by simpa using hm
  cases hL : locB x.data.toList with
  | false =>
    go_wp2_with (go_at_call 206; refine (isLocal_any _ m _ hxM hm1).mono ?_; rintro e w' ⟨rfl, rfl⟩)
    go_ret3
    exact AddrPost.mk _ _ _ rfl (by rw [HR.out, hL]; rfl) (below_drewN _ _ _)
  | true =>
    cases hD : domB y.data.toList with
    | false =>
      go_wp2_with (first | (go_at_call 206; refine (isLocal_any _ m _ hxM hm1).mono ?_; rintro e w' ⟨rfl, rfl⟩) | fail)
      refine (isDomain_any y m _ hyM hm1).mono ?_
      rintro e w1 ⟨rfl, hb⟩
      rw [hD]
      go_wp2_with fail
      go_ret3
      exact AddrPost.mk _ _ _ rfl (by rw [HR.out, hL, hD]; rfl) ((below_drewN _ _ _).trans (by simpa using hb))
    | true =>
      have hy40 : y.size ≤ 40 := by have := domB_len _ hD; rwa [size_of_toList] at this
      have HA := Lib.hid (dom_ascii _ hD)
      go_wp2_with (first | (go_at_call 206; refine (isLocal_any _ m _ hxM hm1).mono ?_; rintro e w' ⟨rfl, rfl⟩) | fail)
      refine (isDomain_any y m _ hyM hm1).mono ?_
      rintro e w1 ⟨rfl, hb⟩
      rw [hD]
      go_wp2_with fail
      refine (clone_any x _ hx).mono ?_
      rintro e w2 ⟨rfl, hb2⟩
      go_wp2_with fail
      refine (smallLetters_any y _ hy40 HA.out).mono ?_
      rintro e w3 ⟨rfl, hb3⟩
      go_wp2_with fail
      go_ret3
      have hb' : Below w.heap.size w w1 := (below_drewN _ _ _).trans (by simpa using hb)
      exact AddrPost.mk _ _ _ rfl (by rw [HR.out, hL, hD]; rfl) (hb'.trans ((hb2.trans (hb3.mono hb2.size)).mono hb'.size))
end Go.Proofs.YtadcidbeealdpaaGreatDoor

/- The document's answer: Address. -/
namespace Go.Proofs.YtadcidbeealdpaaGreatDoor
open Go.RowKit

theorem addrR_of {l x y : List UInt8} {f : Bool} (h : cutR 64 l = (x, y, f)) : addrR l = if locR x && domR y then (x, Lib.toLowerA y, true) else ([], [], false) := by
  rw [addrR, h, ← locB_eq, ← domB_eq]
theorem dom_of_no {l x y : List UInt8} (h : cutR 64 l = (x, y, false)) : domR y = false := by
  have := (cutR_none 64 l (by rw [h])).1
  rw [this] at h
  obtain ⟨_, rfl⟩ : l = x ∧ [] = y := by simpa using h
  rfl
theorem locR_len {l : List UInt8} (h : ¬ (1 ≤ l.length ∧ l.length ≤ 20)) : locR l = false := by
  cases e : locR l with
  | false => rfl
  | true =>
    simp only [locR, Bool.and_eq_true, decide_eq_true_eq] at e
    exact absurd ⟨e.1.1.1.1, e.1.1.1.2⟩ h
theorem locR_dot {l : List UInt8} {a z : UInt8} (ha : l.getD 0 0 = a) (hz : l.getD (l.length - 1) 0 = z) (h : ¬ (((a.toNat : Int) == 46) = false ∧ ((z.toNat : Int) == 46) = false)) : locR l = false := by
  have e0 := beq_byte a 46 (by decide)
  have e1 := beq_byte z 46 (by decide)
  cases e : locR l with
  | false => rfl
  | true =>
    simp only [locR, Bool.and_eq_true, decide_eq_true_eq, Bool.not_eq_true', ha, hz] at e
    exact absurd ⟨e0.trans e.1.1.2, e1.trans e.1.2⟩ h
theorem locR_ch {l : List UInt8} {k : Nat} (hk : k < l.length) (h : chR l k = false) : locR l = false := by
  have : (List.range l.length).all (chR l) = false := by
    cases e : (List.range l.length).all (chR l) with
    | false => rfl
    | true =>
      rw [List.all_eq_true] at e
      have := e k (List.mem_range.2 hk)
      rw [h] at this; cases this
  simp only [locR, this, Bool.and_false]
theorem locR_of {l : List UInt8} {a z : UInt8} (h1 : 1 ≤ l.length) (h2 : l.length ≤ 20) (ha : l.getD 0 0 = a) (hz : l.getD (l.length - 1) 0 = z) (hd0 : ((a.toNat : Int) == 46) = false) (hd1 : ((z.toNat : Int) == 46) = false) (h : ∀ j : Nat, j < l.length → chR l j = true) : locR l = true := by
  have e0 := beq_byte a 46 (by decide)
  have e1 := beq_byte z 46 (by decide)
  have a' : (a == (46 : UInt8)) = false := e0.symm.trans hd0
  have z' : (z == (46 : UInt8)) = false := e1.symm.trans hd1
  have : (List.range l.length).all (chR l) = true := by
    rw [List.all_eq_true]; intro j hj; exact h j (List.mem_range.1 hj)
  simp only [locR, ha, hz, a', z', this, decide_eq_true h1, decide_eq_true h2]; rfl
theorem ch_succ {l : List UInt8} {k : Nat} (hn : ∀ j : Nat, j < k → chR l j = true) (h : chR l k = true) : ∀ j : Nat, j < k + 1 → chR l j = true := by
  intro j hj
  by_cases e : j < k
  · exact hn j e
  · have : j = k := by omega
    rw [this]; exact h
theorem ne_byte (c : UInt8) (n : Nat) (hn : n < 256) : ((c.toNat : Int) != (n : Int)) = !(c == UInt8.ofNat n) := by
  rw [← beq_byte c n hn]; rfl
/-- a byte of a local part, as the walk asks of it -/
theorem chR_eq {l : List UInt8} {k : Nat} {c p : UInt8} (hc : l.getD k 0 = c) (hp : l.getD (k - 1) 0 = p) : chR l k = !(!letB c.toNat && !digB c.toNat && ((c.toNat : Int) != 45) && ((c.toNat : Int) != 95) && ((c.toNat : Int) != 43) && (((c.toNat : Int) != 46) || ((p.toNat : Int) == 46))) := by
  have e1 := ne_byte c 45 (by decide)
  have e2 := ne_byte c 95 (by decide)
  have e3 := ne_byte c 43 (by decide)
  have e4 := ne_byte c 46 (by decide)
  have e5 := beq_byte p 46 (by decide)
  simp only [chR, hc, hp, alB]
  rw [show ((45 : Nat) : Int) = 45 from rfl] at e1
  rw [show ((95 : Nat) : Int) = 95 from rfl] at e2
  rw [show ((43 : Nat) : Int) = 43 from rfl] at e3
  rw [show ((46 : Nat) : Int) = 46 from rfl] at e4 e5
  rw [e1, e2, e3, e4, e5]
  show _ = !(!letB ↑c.toNat && !digB ↑c.toNat && !c == 45 && !c == 95 && !c == 43 && (!c == 46 || p == 46))
  generalize letB ↑c.toNat = a
  generalize digB ↑c.toNat = b
  generalize (c == 45) = q1
  generalize (c == 95) = q2
  generalize (c == 43) = q3
  generalize (c == 46) = q4
  generalize (p == 46) = q5
  revert a b q1 q2 q3 q4 q5
  decide

end Go.Proofs.YtadcidbeealdpaaGreatDoor

/- Rows in memory that a slice reads; settings as data. -/
namespace Go.Proofs.YtadcidbeealdpaaGreatDoor
open Go.RowKit

/-- a slice of n elements of sz cells each, which hold cs -/
def RowAt (w : World) (v : Value) (n sz : Nat) (cs : List Value) : Prop :=
  cs.length = n * sz ∧ ((n = 0 ∧ ∃ a cap, v = .slice a 0 cap) ∨ ∃ b off cap, v = .slice (some ⟨b, off, none⟩) n cap ∧ n ≤ cap ∧ ∀ j : Nat, j < n * sz → w.cell? ⟨b, off + j, none⟩ = cs[j]?)

theorem block_lt {w : World} {b o : Nat} {v : Value} (h : w.cell? ⟨b, o, none⟩ = some v) : b < w.heap.size := by
  rcases Nat.lt_or_ge b w.heap.size with h' | h'
  · exact h'
  · simp [World.cell?, Array.getElem?_eq_none h'] at h

theorem RowAt.below {w w' : World} {v : Value} {n sz : Nat} {cs : List Value} (h : RowAt w v n sz cs) (hb : Below w.heap.size w w') : RowAt w' v n sz cs := by
  obtain ⟨hl, h | ⟨b, off, cap, hv, hcp, hc⟩⟩ := h
  · exact ⟨hl, .inl h⟩
  · refine ⟨hl, .inr ⟨b, off, cap, hv, hcp, fun j hj => ?_⟩⟩
    have h1 := hc j hj
    have hj' : j < cs.length := by omega
    rw [List.getElem?_eq_getElem hj'] at h1 ⊢
    rw [← h1]
    exact hb.cell (p := ⟨b, off + j, none⟩) (block_lt h1)

/-- the slice's shape: its address and how many it holds -/
theorem RowAt.shape {w : World} {v : Value} {n sz : Nat} {cs : List Value} (h : RowAt w v n sz cs) : ∃ a cap, v = .slice a n cap ∧ ∀ (k i : Nat), k < n → i < sz → ∃ b off, a = some ⟨b, off, none⟩ ∧ b < w.heap.size ∧ w.cell? ⟨b, off + (k * sz + i), none⟩ = cs[k * sz + i]? := by
  obtain ⟨hl, ⟨rfl, a, cap, rfl⟩ | ⟨b, off, cap, rfl, _, hc⟩⟩ := h
  · exact ⟨a, cap, rfl, fun k i hk => by omega⟩
  · refine ⟨_, cap, rfl, fun k i hk hi => ?_⟩
    have hj : k * sz + i < n * sz := by
      have : (k + 1) * sz ≤ n * sz := Nat.mul_le_mul_right _ hk
      rw [Nat.add_mul] at this; omega
    refine ⟨b, off, rfl, ?_, hc _ hj⟩
    have h1 := hc _ hj
    rw [List.getElem?_eq_getElem (by omega)] at h1
    exact block_lt h1

theorem RowAt.cap {w : World} {a : Option Addr} {n m cap sz : Nat} {cs : List Value} (h : RowAt w (.slice a n cap) m sz cs) : m ≤ cap := by
  obtain ⟨_, ⟨rfl, _⟩ | ⟨b, off, cap', hv, hcp, _⟩⟩ := h
  · exact Nat.zero_le _
  · injection hv with _ _ e
    omega

theorem RowAt.one {w : World} {v : Value} {n : Nat} {cs : List Value} (h : RowAt w v n 1 cs) : ∃ a cap, v = .slice a n cap ∧ ∀ k : Nat, k < n → ∃ b off, a = some ⟨b, off, none⟩ ∧ b < w.heap.size ∧ w.cell? ⟨b, off + k, none⟩ = cs[k]? := by
  obtain ⟨a, cap, hv, hc⟩ := h.shape
  refine ⟨a, cap, hv, fun k hk => ?_⟩
  have := hc k 0 hk (by decide)
  simpa using this

def within (n a b : Int) : Bool := decide (a ≤ n) && decide (n ≤ b)
theorem ret_of {a b : Bool} (h : b = a) : Ending.returned (.bool a) = .returned (.bool b) := by rw [h]

set_option maxHeartbeats 400000 in
theorem isWithin_any (n a b : Int) (w : World) : Calls Tryz.prog 53 #[.int .i64 n, .int .i64 a, .int .i64 b] w fun e w' => e = .returned (.bool (within n a b)) ∧ w = w' := by
  by_cases h1 : a ≤ n
  · by_cases h2 : n ≤ b
    · go_enter Tryz.func53, Tryz.ntmps53
      go_wp2
      go_ret
      exact ⟨ret_of (by simp [within, h1, h2]), rfl⟩
    · have hd : decide (n ≤ b) = false := by simpa using h2
      go_enter Tryz.func53, Tryz.ntmps53
      go_wp2
      all_goals (go_ret; exact ⟨ret_of (by rw [within, hd, Bool.and_false]), rfl⟩)
  · have hd : decide (a ≤ n) = false := by simpa using h1
    go_enter Tryz.func53, Tryz.ntmps53
    go_wp2
    all_goals (go_ret; exact ⟨ret_of (by rw [within, hd]; rfl), rfl⟩)

/-- a name or a word of a user -/
def textB (l : List UInt8) : Bool := within l.length 1 20 && decide (Lib.indexByte l 0 < 0)

set_option maxHeartbeats 400000 in
theorem isUserText_any (s : ByteArray) (w : World) (hs : s.size ≤ maxLen) : Calls Tryz.prog 93 #[.string s] w fun e w' => e = .returned (.bool (textB s.data.toList)) ∧ w = w' := by
  have hs1 := hs
  unfold maxLen at hs1
  have HT : Hid (textB s.data.toList = (within s.size 1 20 && decide (Lib.indexByte s.data.toList 0 < 0))) := by
    show _ = _
    rw [textB, size_of_toList]
  cases h1 : within (s.size : Int) 1 20 with
  | false =>
    go_enter Tryz.func93, Tryz.ntmps93
    go_wp2_with (go_at_call 53; refine (isWithin_any _ _ _ _).mono ?_; rintro e w' ⟨rfl, rfl⟩)
    go_ret
    exact ⟨ret_of (by rw [HT.out, h1]; rfl), rfl⟩
  | true =>
    cases h2 : decide (Lib.indexByte s.data.toList 0 < 0) with
    | false =>
      go_enter Tryz.func93, Tryz.ntmps93
      go_wp2_with (first | (go_at_call 53; refine (isWithin_any _ _ _ _).mono ?_; rintro e w' ⟨rfl, rfl⟩) | (go_at_call 133; refine (indexByte_any s 0 _).mono ?_; rintro e w' ⟨rfl, rfl⟩))
      go_ret
      exact ⟨ret_of (by rw [HT.out, h1, h2]; rfl), rfl⟩
    | true =>
      go_enter Tryz.func93, Tryz.ntmps93
      go_wp2_with (first | (go_at_call 53; refine (isWithin_any _ _ _ _).mono ?_; rintro e w' ⟨rfl, rfl⟩) | (go_at_call 133; refine (indexByte_any s 0 _).mono ?_; rintro e w' ⟨rfl, rfl⟩))
      go_ret
      exact ⟨ret_of (by rw [HT.out, h1, h2]; rfl), rfl⟩

/-- all waits may be -/
def waitsB (l : List Int) : Bool := within l.length 1 5 && l.all fun x => within x 1 1000000000
def intCells (l : List Int) : List Value := l.map (Value.int .i64)

set_option maxHeartbeats 400000 in
theorem waitsMayBe_any (v : Value) (l : List Int) (w : World) (h : RowAt w v l.length 1 (intCells l)) (hl : l.length ≤ 140737488351232) :
    Calls Tryz.prog 54 #[v] w fun e w' => e = .returned (.bool (waitsB l)) ∧ w = w' := by
  obtain ⟨a, cap, rfl, hc⟩ := h.one
  have HC := Lib.hid hc
  clear hc h
  cases h1 : within (l.length : Int) 1 5 with
  | false =>
    go_enter Tryz.func54, Tryz.ntmps54
    go_wp2_with (go_at_call 53; refine (isWithin_any _ _ _ _).mono ?_; rintro e w' ⟨rfl, rfl⟩)
    go_ret
    exact ⟨ret_of (by rw [waitsB, h1]; rfl), rfl⟩
  | true =>
    go_enter Tryz.func54, Tryz.ntmps54
    go_wp2_with (go_at_call 53; refine (isWithin_any _ _ _ _).mono ?_; rintro e w' ⟨rfl, rfl⟩)
    go_loop [11] (fun i => ∃ k : Nat, k ≤ l.length ∧ i = .int .i64 k ∧ Hid (∀ j : Nat, j < k → within (l.getD j 0) 1 1000000000 = true)) (fun i => l.length - (intOf i).toNat)
    case atStart => exact ⟨0, Nat.zero_le _, rfl, fun j hj => by omega⟩
    case round =>
      obtain ⟨k, hk, rfl, HN⟩ := hrel
      by_cases hlt : k < l.length
      · obtain ⟨b, off, rfl, hbl, hck⟩ := HC.out k hlt
        obtain ⟨x, hx⟩ : ∃ x, l.getD k 0 = x := ⟨_, rfl⟩
        have hck' : w.cell? ⟨b, off + k, none⟩ = some (.int .i64 x) := by
          rw [hck, intCells, List.getElem?_map, List.getElem?_eq_getElem hlt, ← hx, List.getD_eq_getElem?_getD, List.getElem?_eq_getElem hlt]; rfl
        have HX := Lib.hid hx
        clear hck hx HC
        cases hw : within x 1 1000000000 with
        | true =>
          go_wp2_with (go_at_call 53; refine (isWithin_any _ _ _ _).mono ?_; rintro e w' ⟨rfl, rfl⟩)
          refine ⟨⟨k + 1, by omega, by go_num, fun j hj => ?_⟩, by simp [intOf]; omega⟩
          by_cases e : j < k
          · exact HN.out j e
          · rw [show j = k by omega, HX.out, hw]
        | false =>
          go_wp2_with (go_at_call 53; refine (isWithin_any _ _ _ _).mono ?_; rintro e w' ⟨rfl, rfl⟩)
          go_ret
          refine ⟨ret_of ?_, rfl⟩
          rw [waitsB, h1, Bool.true_and]
          cases e : l.all (fun x => within x 1 1000000000) with
          | false => rfl
          | true =>
            rw [List.all_eq_true] at e
            have := e x (by rw [← HX.out, List.getD_eq_getElem?_getD, List.getElem?_eq_getElem hlt]; exact List.getElem_mem hlt)
            rw [hw] at this; cases this
      · go_wp2
        go_ret
        refine ⟨ret_of ?_, rfl⟩
        rw [waitsB, h1, Bool.true_and, List.all_eq_true]
        intro x hx
        obtain ⟨j, hj, rfl⟩ := List.mem_iff_getElem.1 hx
        have := HN.out j (by omega)
        rwa [List.getD_eq_getElem?_getD, List.getElem?_eq_getElem hj] at this
end Go.Proofs.YtadcidbeealdpaaGreatDoor
