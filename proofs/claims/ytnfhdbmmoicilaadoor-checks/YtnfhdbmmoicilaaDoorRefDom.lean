/- The document's answer: is it a domain? -/
import Derived.Test.YtnfhdbmmoicilaaDoorRefCut
import Derived.Lib.Hide
namespace Go.Proofs.YtnfhdbmmoicilaaDoor
open Go.RowKit

def DomPost (l : List UInt8) (w : World) (e : Ending) (w' : World) : Prop := e = .returned (.bool (domR l)) ∧ ∃ n, w' = w.drewN n
theorem DomPost.mk {l : List UInt8} {w : World} {e : Ending} {w' : World} (b : Bool) (he : e = .returned (.bool b)) (hb : domR l = b) (n : Nat) (hw : w' = w.drewN n) : DomPost l w e w' := ⟨by rw [he, hb], n, hw⟩

def domM (s m : Value) : Nat := match s, m with | .string t, .bool true => t.size + 1 | _, _ => 0

/-- where the loop stands: what is left, and whether there is more -/
def DomRel (l : List UInt8) (w : World) (s m : Value) (w' : World) : Prop :=
  ∃ (t : ByteArray) (more : Bool), s = .string t ∧ m = .bool more ∧ t.size ≤ 40 ∧ (more = true → (pieces 46 l).all labR = (pieces 46 t.data.toList).all labR) ∧ (more = false → (pieces 46 l).all labR = true) ∧ ∃ n, w' = w.drewN n

theorem size_of_toList (s : ByteArray) : s.data.toList.length = s.size := by simp

theorem getD_of (s : ByteArray) (k : Nat) (h : k < s.size) : s.data.toList.getD k 0 = s[k] := by
  rw [List.getD_eq_getElem?_getD, get_of s k h]; rfl

set_option maxHeartbeats 400000 in
theorem refIsDomain_any (s : ByteArray) (w : World) (hs : s.size ≤ maxLen) :
    Calls Tryd.prog 17 #[.string s] w (DomPost s.data.toList w) := by
  unfold maxLen at hs
  by_cases h0 : s.size = 0
  · have e0 : s = ⟨#[]⟩ := by
      obtain ⟨⟨l⟩⟩ := s
      cases l with
      | nil => rfl
      | cons a r => exact absurd h0 (by show ¬ (List.length (a :: r) = 0); simp)
    subst e0
    go_enter Tryd.func17, Tryd.ntmps17
    go_wp2
    go_ret
    exact DomPost.mk false rfl rfl 0 rfl
  · have he : s.toList.isEmpty = false := by
      rw [Lib.toList_data]
      obtain ⟨⟨l⟩⟩ := s
      cases l with
      | nil => exact absurd rfl h0
      | cons a r => rfl
    by_cases h40 : 40 < s.size
    · go_enter Tryd.func17, Tryd.ntmps17
      go_wp2
      go_ret
      exact DomPost.mk false rfl (by simp [domR]; intro _ h; omega) 0 rfl
    · have hb40 : decide (40 < (s.size : Int)) = false := by simp; omega
      have HE : Hid (domR s.data.toList = (pieces 46 s.data.toList).all labR) := by
        show _ = _
        rw [Lib.toList_data] at he
        simp [domR, he]; omega
      go_enter Tryd.func17, Tryd.ntmps17
      go_wp2
      go_loopw [0, 3] (fun t m w' => DomRel s.data.toList w t m w') (fun t m _ => domM t m)
      case atStart => exact ⟨s, true, rfl, rfl, by omega, fun _ => rfl, (fun h => by cases h), 0, rfl⟩
      case round =>
        obtain ⟨t, more, rfl, rfl, ht, h1, h2, n, rfl⟩ := hrel
        cases more with
        | false =>
          have H2 : Hid ((pieces 46 s.data.toList).all labR = true) := h2 rfl
          clear h1 h2
          go_wp2
          go_ret
          exact DomPost.mk true rfl (by rw [HE.out, H2.out]) n rfl
        | true =>
          have H1 : Hid ((pieces 46 s.data.toList).all labR = (pieces 46 t.data.toList).all labR) := h1 rfl
          clear h1 h2
          have h46 : Hid (((46 : UInt8).toNat : Int) = 46) := rfl
          go_wp2_with fail
          refine (cut_any t 46 46 h46 _ (by unfold maxLen; omega)).mono ?_
          rintro e w' ⟨x, y, f, rfl, hc, n', rfl⟩
          have HC := Lib.hid hc
          clear hc h46
          have hsz := cut_len 46 _ _ _ _ HC.out
          have HS : Hid (domR s.data.toList = (labR x.data.toList && (!f || (pieces 46 y.data.toList).all labR))) := by
            show _ = _
            rw [HE.out, H1.out, dom_step 46 labR _ _ _ _ HC.out]
          have hx40 : x.size ≤ 40 := by have := hsz.1; rw [size_of_toList, size_of_toList] at this; omega
          have hy40 : y.size ≤ 40 := by have := hsz.2.1; rw [size_of_toList, size_of_toList] at this; omega
          have HY : Hid (f = true → y.size < t.size) := by
            show _ → _
            intro h
            have := hsz.2.2 h
            rw [size_of_toList, size_of_toList] at this; exact this
          have hno : Hid (labR x.data.toList = false → domR s.data.toList = false) := by
            show _ → _
            intro h
            rw [HS.out, h]; rfl
          clear hsz HC H1
          by_cases hn : 1 ≤ x.size ∧ x.size ≤ 20
          · obtain ⟨hn1, hn2⟩ := hn
            have hg0 : Hid (x.data.toList.getD 0 0 = x[0]) := getD_of x 0 (by omega)
            have hgz : Hid (x.data.toList.getD (x.data.toList.length - 1) 0 = x[x.size - 1]) := by
              show _ = _
              rw [size_of_toList]
              exact getD_of x (x.size - 1) (by omega)
            have hb1 : decide ((x.size : Int) < 1) = false := by simp; omega
            have hb2 : decide (20 < (x.size : Int)) = false := by simp; omega
            by_cases hd : ((x[0].toNat : Int) == 45) = false ∧ ((x[x.size - 1].toNat : Int) == 45) = false
            · obtain ⟨hd0, hd1⟩ := hd
              go_wp2_with fail
              go_loop [6] (fun i => ∃ k : Nat, k ≤ x.size ∧ i = .int .i64 k ∧ Hid (∀ j : Nat, j < k → okR (x.data.toList.getD j 0) = true)) (fun i => x.size - (intOf i).toNat)
              case atStart => exact ⟨0, Nat.zero_le _, rfl, fun j hj => by omega⟩
              case round =>
                obtain ⟨k, hk, rfl, HN⟩ := hrel
                by_cases hlt : k < x.size
                · have hg : Hid (x.data.toList.getD k 0 = x[k]) := getD_of x k hlt
                  go_wp2_with (first | (go_at_call 18; refine (letter_any _ _).mono ?_; rintro e w' ⟨rfl, rfl⟩) | (go_at_call 19; refine (digit_any _ _).mono ?_; rintro e w' ⟨rfl, rfl⟩))
                  · exact ⟨⟨k + 1, by omega, by go_num, ok_succ HN.out hg.out (okR_let ‹_›)⟩, by simp [intOf]; omega⟩
                  · exact ⟨⟨k + 1, by omega, by go_num, ok_succ HN.out hg.out (okR_dig ‹_›)⟩, by simp [intOf]; omega⟩
                  · go_ret
                    exact DomPost.mk false rfl (hno.out (labR_ch (by rw [size_of_toList]; exact hlt) hg.out (okR_no ‹_› ‹_› ‹_›))) _ rfl
                  · exact ⟨⟨k + 1, by omega, by go_num, ok_succ HN.out hg.out (okR_dash ‹_›)⟩, by simp [intOf]; omega⟩
                · have HL : Hid (labR x.data.toList = true) :=
                    labR_of (by rw [size_of_toList]; exact hn1) (by rw [size_of_toList]; exact hn2) hg0.out hgz.out hd0 hd1 (fun j hj => HN.out j (by rw [size_of_toList] at hj; omega))
                  have HT : Hid ((pieces 46 s.data.toList).all labR = (!f || (pieces 46 y.data.toList).all labR)) := by
                    show _ = _
                    rw [← HE.out, HS.out, HL.out]; rfl
                  go_wp2
                  refine ⟨⟨y, f, rfl, rfl, hy40, fun h => by rw [HT.out, h]; rfl, fun h => by rw [HT.out, h]; rfl, _, rfl⟩, ?_⟩
                  have := HY.out
                  cases f with
                  | false => simp [domM]
                  | true => simp [domM]; exact this rfl
            · have HF : Hid (domR s.data.toList = false) := hno.out (labR_dash hg0.out hgz.out hd)
              have HD := Lib.hid hd
              clear hd
              cases e0 : ((x[0].toNat : Int) == 45) with
              | true =>
                go_wp2_with fail
                all_goals (go_ret; exact DomPost.mk false rfl HF.out _ rfl)
              | false =>
                cases e1 : ((x[x.size - 1].toNat : Int) == 45) with
                | true =>
                  go_wp2_with fail
                  all_goals (go_ret; exact DomPost.mk false rfl HF.out _ rfl)
                | false => exact absurd ⟨e0, e1⟩ HD.out
          · have HF : Hid (domR s.data.toList = false) := hno.out (labR_len (by rw [size_of_toList]; exact hn))
            have hb : (decide ((x.size : Int) < 1) || decide (20 < (x.size : Int))) = true := by simp; omega
            clear hn
            go_wp2_with fail
            all_goals (go_ret; exact DomPost.mk false rfl HF.out _ rfl)
end Go.Proofs.YtnfhdbmmoicilaaDoor
