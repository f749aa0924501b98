import Derived.Test.YtadcidbeealdpaaGreatDoorS04
import Derived.Deep.QuietTactic
import Derived.BigQuiet
import Derived.Deep.RegionWith

/- The program's settings: users. -/
namespace Go.Proofs.YtadcidbeealdpaaGreatDoor
open Go.RowKit

theorem userText_same (s : ByteArray) (w : World) (hs : s.size ≤ maxLen) : Calls Tryz.prog 93 #[.string s] w fun e w' => e = .returned (.bool (textB s.data.toList)) ∧ w' = w :=
  (isUserText_any s w hs).mono fun _ _ ⟨a, b⟩ => ⟨a, b.symm⟩

/-- the k-th user may stand behind those ahead -/
def userOk (l : List (ByteArray × ByteArray)) (k : Nat) : Bool := textB (l.getD k (ByteArray.empty, ByteArray.empty)).1.data.toList && textB (l.getD k (ByteArray.empty, ByteArray.empty)).2.data.toList && !nameIn (l.take k) (l.getD k (ByteArray.empty, ByteArray.empty)).1
def usersB (l : List (ByteArray × ByteArray)) : Bool := decide (l.length ≤ 5) && (List.range l.length).all (userOk l)

theorem take_users (l : List (ByteArray × ByteArray)) (k : Nat) (h : k ≤ l.length) : userCells (l.take k) = (userCells l).take (k * 2) := by
  induction l generalizing k with
  | nil => simp [userCells]
  | cons x r ih =>
    cases k with
    | zero => simp [userCells]
    | succ k =>
      have := ih k (by simpa using h)
      rw [show (k + 1) * 2 = k * 2 + 1 + 1 by omega]
      simp [userCells] at this ⊢
      exact this
theorem userCells_len (l : List (ByteArray × ByteArray)) : (userCells l).length = l.length * 2 := by
  induction l with
  | nil => rfl
  | cons x r ih => simp [userCells] at ih ⊢; omega

theorem rowAt_take {w : World} {b off : Nat} {l : List (ByteArray × ByteArray)} (hc : ∀ j : Nat, j < l.length * 2 → w.cell? ⟨b, off + j, none⟩ = (userCells l)[j]?) (k : Nat) (hk : k ≤ l.length) (cap' : Nat) (hcp : k ≤ cap') : RowAt w (.slice (some ⟨b, off, none⟩) k cap') (l.take k).length 2 (userCells (l.take k)) := by
  have hlen : (l.take k).length = k := by rw [List.length_take, Nat.min_eq_left hk]
  refine ⟨userCells_len _, .inr ⟨b, off, cap', by rw [hlen], by rw [hlen]; exact hcp, fun j hj => ?_⟩⟩
  rw [hlen] at hj
  rw [hc j (by omega), take_users l k hk, List.getElem?_take_of_lt hj]

set_option maxHeartbeats 1000000 in
theorem usersMayBe_any (v : Value) (l : List (ByteArray × ByteArray)) (w : World) (h : RowAt w v l.length 2 (userCells l)) (hl : l.length ≤ 140737488351232) (hz : ∀ x ∈ l, x.1.size ≤ maxLen ∧ x.2.size ≤ maxLen) :
    Calls Tryz.prog 52 #[v] w (BPost (usersB l) w) := by
  have HR := Lib.hid h
  obtain ⟨a, cap, rfl, hc⟩ := h.shape
  have HC := Lib.hid hc
  have HZ := Lib.hid hz
  clear hc h hz
  by_cases h5 : 5 < l.length
  · go_enter Tryz.func52, Tryz.ntmps52
    go_wp2
    go_ret
    exact BPost.mk false rfl (by simp [usersB]; intro h; omega) (Below.refl _ _)
  · have hb5 : decide (5 < (l.length : Int)) = false := by simp; omega
    have HD : Hid (usersB l = (List.range l.length).all (userOk l)) := by
      show _ = _
      rw [usersB, decide_eq_true (by omega), Bool.true_and]
    go_enter Tryz.func52, Tryz.ntmps52
    go_wp2
    go_loopw [10] (fun i w' => ∃ k : Nat, k ≤ l.length ∧ i = .int .i64 k ∧ Hid (∀ (j : Nat), j < k → userOk l j = true) ∧ Below w.heap.size w w') (fun i _ => l.length - (intOf i).toNat)
    case atStart => exact ⟨0, Nat.zero_le _, rfl, (fun j hjk => by omega), Below.refl _ _⟩
    case round =>
      obtain ⟨k, hk, rfl, HN, hbel⟩ := hrel
      have HB := Lib.hid hbel
      by_cases hlt : k < l.length
      · obtain ⟨b, off, rfl, hbl, hck⟩ := HC.out k 0 hlt (by decide)
        obtain ⟨b', off', e', _, hck1⟩ := HC.out k 1 hlt (by decide)
        obtain ⟨rfl, rfl⟩ : b' = b ∧ off' = off := by
          have := (Option.some.inj e').symm
          simp at this; exact this
        obtain ⟨x, hx⟩ : ∃ x, l[k] = x := ⟨_, rfl⟩
        have hc0 : wr.cell? ⟨b', off' + k * 2, none⟩ = some (.string x.1) := by
          rw [hbel.cell (p := ⟨b', off' + k * 2, none⟩) hbl]
          rw [Nat.add_zero] at hck
          rw [hck, user_at l k hlt, hx]
        have hc1 : wr.cell? ⟨b', off' + k * 2 + 1, none⟩ = some (.string x.2) := by
          rw [hbel.cell (p := ⟨b', off' + k * 2 + 1, none⟩) hbl]
          rw [← Nat.add_assoc] at hck1
          rw [hck1, user_at1 l k hlt, hx]
        have hxz := HZ.out l[k] (List.getElem_mem hlt)
        rw [hx] at hxz
        obtain ⟨z1, z2⟩ := hxz
        have HRow : Hid (∀ (w' : World), Below w.heap.size w w' → RowAt w' (.slice (some ⟨b', off', none⟩) k cap) (l.take k).length 2 (userCells (l.take k))) := by
          show ∀ _, _
          intro w' hb'
          refine rowAt_take (fun j hj => ?_) k hk cap (by have := HR.out.cap; omega)
          obtain ⟨hlr, ⟨h0, _⟩ | ⟨b2, o2, c2, hv2, _, hc2⟩⟩ := HR.out.below hb'
          · omega
          · injection hv2 with hv2
            injection hv2 with hv2
            injection hv2 with e1 e2
            subst e1 e2
            exact hc2 j hj
        have HOK : Hid (userOk l k = (textB x.1.data.toList && textB x.2.data.toList && !nameIn (l.take k) x.1)) := by
          show _ = _
          have : l.getD k (ByteArray.empty, ByteArray.empty) = x := by rw [List.getD_eq_getElem?_getD, List.getElem?_eq_getElem hlt, ← hx]; rfl
          rw [userOk, this]
        have Hfin : Hid (userOk l k = false → usersB l = false) := by
          show _ → _
          intro hf
          rw [HD.out]
          cases e : (List.range l.length).all (userOk l) with
          | false => rfl
          | true =>
            rw [List.all_eq_true] at e
            have := e k (List.mem_range.2 hlt)
            rw [hf] at this; cases this
        have hkl : (k : Int) ≤ (cap : Int) := by have := HR.out.cap; omega
        have HB2 : ∀ o, Below w.heap.size w (wr.alloc o).drew := fun o => (HB.out.alloc HB.out.size o).drew
        have hsz2 : ∀ o, w.heap.size ≤ (wr.alloc o).drew.heap.size := fun o => (HB2 o).size
        clear hck hck1 HC hbel hx e' HR HZ
        cases t1 : textB x.1.data.toList with
        | false =>
          have HF := Lib.hid (Hfin.out (by rw [HOK.out, t1]; rfl))
          go_wp2_with fail
          go_quiet ((go_at_call 93; exact Calls.quiet_of_same (userText_same _ _ z1)))
          go_wp2_with fail
          go_ret
          exact BPost.mk false rfl HF.out ((HB.out.alloc HB.out.size _).trans (below_drewN _ _ _))
        | true =>
          cases t2 : textB x.2.data.toList with
          | false =>
            have HF := Lib.hid (Hfin.out (by rw [HOK.out, t1, t2]; rfl))
            go_wp2_with fail
            go_quiet ((go_at_call 93; exact Calls.quiet_of_same (userText_same _ _ (by first | exact z1 | exact z2))))
            go_wp2_with fail
            go_ret
            exact BPost.mk false rfl HF.out ((HB.out.alloc HB.out.size _).trans (below_drewN _ _ _))
          | true =>
            cases t3 : nameIn (l.take k) x.1 with
            | true =>
              have HF := Lib.hid (Hfin.out (by rw [HOK.out, t1, t2, t3]; rfl))
              go_wp2_with fail
              go_region_with (first
                | (go_at_call 93; refine (userText_same _ _ ?_).mono ?_; (first | exact z1 | exact z2); rintro e w' ⟨rfl, rfl⟩)
                | (go_at_call 94; refine (hasName_any _ (l.take k) _ _ ?_ ?_).mono ?_; (exact HRow.out _ (HB2 _)); (rw [List.length_take]; omega); rintro e w1 ⟨rfl, hb1⟩; have HB3 := Lib.hid ((HB2 _).trans (hb1.mono (hsz2 _))); clear hb1))
              all_goals
                go_wp2_with fail
                go_ret
                exact BPost.mk false rfl HF.out HB3.out
            | false =>
              have HF : Hid (userOk l k = true) := by show _ = _; rw [HOK.out, t1, t2, t3]; rfl
              go_wp2_with fail
              go_region_with (first
                | (go_at_call 93; refine (userText_same _ _ ?_).mono ?_; (first | exact z1 | exact z2); rintro e w' ⟨rfl, rfl⟩)
                | (go_at_call 94; refine (hasName_any _ (l.take k) _ _ ?_ ?_).mono ?_; (exact HRow.out _ (HB2 _)); (rw [List.length_take]; omega); rintro e w1 ⟨rfl, hb1⟩; have HB3 := Lib.hid ((HB2 _).trans (hb1.mono (hsz2 _))); clear hb1))
              all_goals
                go_wp2_with fail
                refine ⟨⟨k + 1, by omega, by go_num, fun j hj => ?_, HB3.out⟩, by simp [intOf]; omega⟩
                by_cases e : j < k
                · exact HN.out j e
                · rw [show j = k by omega, HF.out]
      · clear hbel
        go_wp2
        go_ret
        refine BPost.mk true rfl ?_ HB.out
        rw [HD.out, List.all_eq_true]
        intro j hj
        exact HN.out j (by have := List.mem_range.1 hj; omega)
end Go.Proofs.YtadcidbeealdpaaGreatDoor
