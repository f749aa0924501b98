/- The program's Base64. -/
import Derived.Test.YtnfhdbmmoicilaaDoorSix3
import Derived.Shelf.Strings.BuilderK
namespace Go.Proofs.YtnfhdbmmoicilaaDoor
open Go.RowKit

theorem stood4 (a b c d : UInt8) : stood [a, b, c, d] = if d = 61 then (if c = 61 then 1 else 2) else 3 := by
  have h1 : Lib.hasSuffix [a, b, c, d] [61, 61] = (d == 61 && c == 61) := by
    simp only [Lib.hasSuffix, List.isSuffixOf, List.reverse_cons, List.reverse_nil, List.nil_append, List.cons_append, List.isPrefixOf, Bool.and_true]
    rw [BEq.comm (a := (61 : UInt8)) (b := d), BEq.comm (a := (61 : UInt8)) (b := c)]
  have h2 : Lib.hasSuffix [a, b, c, d] [61] = (d == 61) := by
    simp only [Lib.hasSuffix, List.isSuffixOf, List.reverse_cons, List.reverse_nil, List.nil_append, List.cons_append, List.isPrefixOf, Bool.and_true]
    rw [BEq.comm (a := (61 : UInt8)) (b := d)]
  unfold stood
  rw [h1, h2]
  by_cases hd : d = 61
  · by_cases hc : c = 61 <;> simp [hd, hc]
  · simp [hd]

theorem readGroup_any (s : ByteArray) (a b c d : UInt8) (w : World) (hs : s.data.toList = [a, b, c, d]) :
    Calls Tryd.prog 29 #[.string s] w (GrpPost (grp a b c d) w) := by
  have h4 : s.size = 4 := by rw [← size_of_toList, hs]; rfl
  have e2 : (s.extract 0 2).data.toList = [a, b] := by rw [Lib.extract_data, hs]; rfl
  have e3 : (s.extract 0 3).data.toList = [a, b, c] := by rw [Lib.extract_data, hs]; rfl
  have e4 : (s.extract 0 4).data.toList = [a, b, c, d] := by rw [Lib.extract_data, hs]; rfl
  have hst := stood4 a b c d
  by_cases hd : d = 61
  · rw [if_pos hd] at hst
    by_cases hc : c = 61
    · rw [if_pos hc] at hst
      have hg : grp a b c d = g1 a b := by unfold grp; rw [if_pos hd, if_pos hc]
      rw [hg]
      cases ha : val a with
      | none =>
        have : g1 a b = none := by unfold g1; rw [ha]
        rw [this]
        exact group_no_1 s w h4 (by rw [hs, hst]) (by rw [e2]; simp [ha])
      | some p =>
        cases hb : val b with
        | none =>
          have : g1 a b = none := by unfold g1; rw [ha, hb]
          rw [this]
          exact group_no_1 s w h4 (by rw [hs, hst]) (by rw [e2]; simp [ha, hb])
        | some q =>
          have hp := (let6_val ha).1
          have hq := (let6_val hb).1
          refine group_yes_1 s w h4 (by rw [hs, hst]) (by rw [e2]; simp [ha, hb]) (p * 262144 + q * 4096) ?_ (by omega) _ ?_
          · rw [e2]
            show wsum [a, b] 2 = _
            simp only [wsum]
            show 0 + (val a).getD 0 * 262144 + (val b).getD 0 * 4096 = _
            rw [ha, hb]; simp
          · unfold g1
            rw [ha, hb]
            simp only
            by_cases h16 : q % 16 = 0
            · rw [if_pos h16, if_pos (by omega), show (p * 262144 + q * 4096) / 65536 = p * 4 + q / 16 by omega]
            · rw [if_neg h16, if_neg (by omega)]
    · rw [if_neg hc] at hst
      have hg : grp a b c d = g2 a b c := by unfold grp; rw [if_pos hd, if_neg hc]
      rw [hg]
      cases ha : val a with
      | none =>
        have : g2 a b c = none := by unfold g2; rw [ha]
        rw [this]
        exact group_no_2 s w h4 (by rw [hs, hst]) (by rw [e3]; simp [ha])
      | some p =>
        cases hb : val b with
        | none =>
          have : g2 a b c = none := by unfold g2; rw [ha, hb]
          rw [this]
          exact group_no_2 s w h4 (by rw [hs, hst]) (by rw [e3]; simp [ha, hb])
        | some q =>
          cases hv : val c with
          | none =>
            have : g2 a b c = none := by unfold g2; rw [ha, hb, hv]
            rw [this]
            exact group_no_2 s w h4 (by rw [hs, hst]) (by rw [e3]; simp [ha, hb, hv])
          | some r =>
            have hp := (let6_val ha).1
            have hq := (let6_val hb).1
            have hr := (let6_val hv).1
            refine group_yes_2 s w h4 (by rw [hs, hst]) (by rw [e3]; simp [ha, hb, hv]) (p * 262144 + q * 4096 + r * 64) ?_ (by omega) _ ?_
            · rw [e3]
              show wsum [a, b, c] 3 = _
              simp only [wsum]
              show 0 + (val a).getD 0 * 262144 + (val b).getD 0 * 4096 + (val c).getD 0 * 64 = _
              rw [ha, hb, hv]; simp
            · unfold g2
              rw [ha, hb, hv]
              simp only
              by_cases h16 : r % 4 = 0
              · rw [if_pos h16, if_pos (by omega), show (p * 262144 + q * 4096 + r * 64) / 65536 = p * 4 + q / 16 by omega, bOf_eq ((p * 262144 + q * 4096 + r * 64) / 256) (bOf (q % 16 * 16 + r / 4)) (by rw [bOf_toNat]; omega)]
              · rw [if_neg h16, if_neg (by omega)]
  · rw [if_neg hd] at hst
    have hg : grp a b c d = g3 a b c d := by unfold grp; rw [if_neg hd]
    rw [hg]
    cases ha : val a with
    | none =>
      have : g3 a b c d = none := by unfold g3; rw [ha]
      rw [this]
      exact group_no_3 s w h4 (by rw [hs, hst]) (by rw [e4]; simp [ha])
    | some p =>
      cases hb : val b with
      | none =>
        have : g3 a b c d = none := by unfold g3; rw [ha, hb]
        rw [this]
        exact group_no_3 s w h4 (by rw [hs, hst]) (by rw [e4]; simp [ha, hb])
      | some q =>
        cases hv : val c with
        | none =>
          have : g3 a b c d = none := by unfold g3; rw [ha, hb, hv]
          rw [this]
          exact group_no_3 s w h4 (by rw [hs, hst]) (by rw [e4]; simp [ha, hb, hv])
        | some r =>
          cases hu : val d with
          | none =>
            have : g3 a b c d = none := by unfold g3; rw [ha, hb, hv, hu]
            rw [this]
            exact group_no_3 s w h4 (by rw [hs, hst]) (by rw [e4]; simp [ha, hb, hv, hu])
          | some t =>
            have hp := (let6_val ha).1
            have hq := (let6_val hb).1
            have hr := (let6_val hv).1
            have ht := (let6_val hu).1
            refine group_yes_3 s w h4 (by rw [hs, hst]) (by rw [e4]; simp [ha, hb, hv, hu]) (p * 262144 + q * 4096 + r * 64 + t) ?_ (by omega) _ ?_
            · rw [e4]
              show wsum [a, b, c, d] 4 = _
              simp only [wsum]
              show 0 + (val a).getD 0 * 262144 + (val b).getD 0 * 4096 + (val c).getD 0 * 64 + (val d).getD 0 * 1 = _
              rw [ha, hb, hv, hu]; simp
            · unfold g3
              rw [ha, hb, hv, hu]
              simp only
              rw [show (p * 262144 + q * 4096 + r * 64 + t) / 65536 = p * 4 + q / 16 by omega, bOf_eq ((p * 262144 + q * 4096 + r * 64 + t) / 256) (bOf (q % 16 * 16 + r / 4)) (by rw [bOf_toNat]; omega), bOf_eq (p * 262144 + q * 4096 + r * 64 + t) (bOf (r % 4 * 64 + t)) (by rw [bOf_toNat]; omega)]
end Go.Proofs.YtnfhdbmmoicilaaDoor
