import Derived.Test.YtadcidbeealdpaaGreatDoorS07

/- Is a text among some? The program's recipients. -/
namespace Go.Proofs.YtadcidbeealdpaaGreatDoor
open Go.RowKit

theorem textCells_get (l : List (List UInt8)) (k : Nat) (h : k < l.length) : (textCells l)[k]? = some (.string (bs l[k])) := by simp [textCells, h]
theorem not_mem_take {l : List (List UInt8)} {t : List UInt8} {k : Nat} (hk : k < l.length) (h : t ∉ l.take k) (hn : ¬ t = l[k]) : t ∉ l.take (k + 1) := by
  rw [List.take_succ_eq_append_getElem hk, List.mem_append, List.mem_singleton]
  rintro (h1 | h1)
  · exact h h1
  · exact hn h1

set_option maxHeartbeats 400000 in
set_option maxRecDepth 100000 in
theorem indexStr_any (l : List (List UInt8)) (t : List UInt8) (v : Value) (w : World) (h : RowAt w v l.length 1 (textCells l)) (hl : l.length ≤ 255) :
    Calls Tryz.prog 158 #[v, .string (bs t)] w fun e w' => ∃ r : Int, e = .returned (.int .i64 r) ∧ (-1 ≤ r ∧ r ≤ 255) ∧ (0 ≤ r ↔ t ∈ l) ∧ w = w' := by
  obtain ⟨a, cap, rfl, hc⟩ := h.one
  have HC := Lib.hid hc
  clear hc h
  go_enter Tryz.func158, Tryz.ntmps158
  go_wp2_with fail
  go_loop [8] (fun i => ∃ k : Nat, k ≤ l.length ∧ i = .int .i64 k ∧ Hid (t ∉ l.take k)) (fun i => l.length - (intOf i).toNat)
  case atStart => exact ⟨0, Nat.zero_le _, rfl, Lib.hid (by simp)⟩
  case round =>
    obtain ⟨k, hk, rfl, HN⟩ := hrel
    by_cases hlt : k < l.length
    · have hlti : (k : Int) < (l.length : Int) := by omega
      obtain ⟨b, off, rfl, _, hcell⟩ := HC.out k hlt
      rw [textCells_get l k hlt] at hcell
      by_cases he : t = l[k]
      · have hq : ((bs t).toList == (bs l[k]).toList) = true := by rw [bs_beq]; simpa using he
        have HM : Hid (t ∈ l) := Lib.hid (by rw [he]; exact List.getElem_mem hlt)
        clear he
        go_wp2_with fail
        go_ret
        exact ⟨_, rfl, by omega, ⟨fun _ => HM.out, fun _ => by omega⟩, rfl⟩
      · have hq : ((bs t).toList == (bs l[k]).toList) = false := by rw [bs_beq]; simpa using he
        have HM := Lib.hid (not_mem_take hlt HN.out he)
        clear he
        go_wp2_with fail
        exact ⟨⟨k + 1, by omega, by go_num, HM⟩, by simp [intOf]; omega⟩
    · have hk9 : k = l.length := by omega
      subst hk9
      have HM : Hid (t ∉ l) := Lib.hid (by
        have := HN.out
        rwa [List.take_length] at this)
      go_wp2_with fail
      go_ret
      exact ⟨_, rfl, by omega, ⟨fun h => by omega, fun h => absurd h HM.out⟩, rfl⟩

set_option maxHeartbeats 400000 in
set_option maxRecDepth 100000 in
theorem containsStr_any (l : List (List UInt8)) (t : List UInt8) (v : Value) (w : World) (h : RowAt w v l.length 1 (textCells l)) (hl : l.length ≤ 255) :
    Calls Tryz.prog 117 #[v, .string (bs t)] w fun e w' => e = .returned (.bool (l.contains t)) ∧ w = w' := by
  have hi := indexStr_any l t v w h hl
  obtain ⟨a, cap, rfl, _⟩ := h.one
  clear h
  go_enter Tryz.func117, Tryz.ntmps117
  go_wp2_with fail
  refine hi.mono ?_
  rintro e w1 ⟨r, rfl, hr, hd, rfl⟩
  have HD : Hid (decide (0 ≤ r) = l.contains t) := Lib.hid (by rw [Bool.eq_iff_iff, decide_eq_true_iff, List.contains_iff_mem]; exact hd)
  clear hd hi
  go_wp2_with fail
  go_ret
  exact ⟨ret_bool HD.out, rfl⟩
end Go.Proofs.YtadcidbeealdpaaGreatDoor

/- The program's recipients of a mail that is read. -/
namespace Go.Proofs.YtadcidbeealdpaaGreatDoor
open Go.RowKit

theorem fresh_take (l : List (List UInt8)) (k : Nat) (h : k < l.length) : freshB l k = !((l.take k).contains l[k]) := by
  unfold freshB
  rw [Bool.eq_iff_iff, List.all_eq_true, Bool.not_eq_true', ← Bool.not_eq_true, List.contains_iff_mem]
  have gk : l.getD k [] = l[k] := by rw [List.getD_eq_getElem?_getD, List.getElem?_eq_getElem h]; rfl
  constructor
  · intro hh hm
    obtain ⟨j, hj, e⟩ := List.getElem_of_mem hm
    rw [List.length_take] at hj
    have := hh j (List.mem_range.2 (by omega))
    rw [gk, List.getD_eq_getElem?_getD, List.getElem?_eq_getElem (by omega : j < l.length)] at this
    rw [List.getElem_take] at e
    simp [e] at this
  · intro hn j hj
    have hj := List.mem_range.1 hj
    rw [gk, List.getD_eq_getElem?_getD, List.getElem?_eq_getElem (by omega : j < l.length)]
    simp only [Option.getD_some, Bool.not_eq_true', beq_eq_false_iff_ne, ne_eq]
    intro e
    exact hn (by rw [← e]; exact List.mem_take_iff_getElem.2 ⟨j, by omega, rfl⟩)
theorem RowAt.part {w : World} {a : Option Addr} {n cap : Nat} {l : List (List UInt8)} (h : RowAt w (.slice a n cap) l.length 1 (textCells l)) (k : Nat) (hk : k ≤ l.length) : RowAt w (.slice a k cap) (l.take k).length 1 (textCells (l.take k)) := by
  have hlen : (l.take k).length = k := by rw [List.length_take]; omega
  refine ⟨by simp [textCells], ?_⟩
  rw [hlen]
  rcases h.2 with ⟨h0, a', cap', e⟩ | ⟨b, off, cap', e, hcp, hc⟩
  · have : k = 0 := by omega
    subst this
    exact .inl ⟨rfl, _, _, rfl⟩
  · injection e with e1 e2 e3
    subst e1 e3
    refine .inr ⟨b, off, _, rfl, by omega, fun j hj => ?_⟩
    rw [hc j (by omega)]
    simp [textCells, show j < k by omega]

set_option maxHeartbeats 1000000 in
set_option maxRecDepth 100000 in
theorem recips_any (l : List (List UInt8)) (v : Value) (m : Int) (w : World) (h : RowAt w v l.length 1 (textCells l)) (hl : l.length ≤ 255) (hs : ∀ t ∈ l, t.length ≤ 255) (hm : w.cell? ⟨0, 0, none⟩ = some (.int .i64 m)) :
    Calls Tryz.prog 136 #[v] w fun e w' => e = .returned (.bool (recipB l)) ∧ Below w.heap.size w w' := by
  obtain ⟨a, cap, rfl, hc⟩ := h.one
  have hcap := h.cap
  have HC := Lib.hid hc
  have HH := Lib.hid h
  have HS := Lib.hid hs
  have h0 := block_lt hm
  clear hc h hs
  by_cases h1 : 1 ≤ l.length
  · by_cases h2 : l.length ≤ 10
    · have HE : Hid (recipB l = (List.range l.length).all (toOkB l)) := Lib.hid (by unfold recipB; rw [decide_eq_true h1, decide_eq_true h2]; rfl)
      have hd1 : decide ((l.length : Int) < 1) = false := decide_eq_false (by omega)
      have hd2 : decide (10 < (l.length : Int)) = false := decide_eq_false (by omega)
      go_enter Tryz.func136, Tryz.ntmps136
      go_wp2_with fail
      go_loopw [15] (fun i w' => ∃ k : Nat, k ≤ l.length ∧ i = .int .i64 k ∧ Hid (∀ j, j < k → toOkB l j = true) ∧ Hid (Below w.heap.size w w')) (fun i _ => l.length - (intOf i).toNat)
      case atStart => exact ⟨0, Nat.zero_le _, rfl, Lib.hid (fun j hj => by omega), Lib.hid (Below.refl _ _)⟩
      case round =>
        obtain ⟨k, hk, rfl, HJ, HB⟩ := hrel
        by_cases hlt : k < l.length
        · have hlti : (k : Int) < (l.length : Int) := by omega
          obtain ⟨b, off, rfl, hbw, hcell⟩ := HC.out k hlt
          rw [textCells_get l k hlt] at hcell
          have hcr : wr.cell? ⟨b, off + k, none⟩ = some (.string (bs l[k])) := (HB.out.cell hbw).trans hcell
          have hln := HS.out l[k] (List.getElem_mem hlt)
          have HTO : Hid (toOkB l k = (isKeptB l[k] && !((l.take k).contains l[k]))) := Lib.hid (by
            unfold toOkB
            rw [fresh_take l k hlt, List.getD_eq_getElem?_getD, List.getElem?_eq_getElem hlt]; rfl)
          obtain ⟨t, et⟩ : ∃ t, l[k] = t := ⟨_, rfl⟩
          rw [et] at hcr hln HTO
          have hmr : wr.cell? ⟨0, 0, none⟩ = some (.int .i64 m) := (HB.out.cell h0).trans hm
          have HK := Lib.hid (isKept_any t m wr (by omega) hmr)
          have HCT : Hid (∀ w', Below w.heap.size w w' → Calls Tryz.prog 117 #[.slice (some ⟨b, off, none⟩) k cap, .string (bs t)] w' fun e w'' => e = .returned (.bool ((l.take k).contains t)) ∧ w' = w'') := Lib.hid (fun w' hb' => containsStr_any (l.take k) t _ w' ((HH.out.below hb').part k hk) (by rw [List.length_take]; omega))
          have hk0 : (0 : Int) ≤ (k : Int) := by omega
          have hkc : (k : Int) ≤ (cap : Int) := by omega
          clear et hcell hmr
          cases hI : isKeptB t with
          | false =>
            have HE2 : Hid ((List.range l.length).all (toOkB l) = false) := Lib.hid (all_false hlt (by rw [HTO.out, hI]; rfl))
            rw [hI] at HK
            go_wp2_with fail
            refine HK.out.mono ?_
            rintro e w1 ⟨rfl, hb1⟩
            have HB1 := Lib.hid (HB.out.trans (hb1.mono HB.out.size))
            clear hb1
            go_wp2_with fail
            go_ret
            exact ⟨ret_bool (by rw [HE.out, HE2.out]), HB1.out⟩
          | true =>
            rw [hI] at HK HTO
            cases hQ : (l.take k).contains t with
            | true =>
              have HE2 : Hid ((List.range l.length).all (toOkB l) = false) := Lib.hid (all_false hlt (by rw [HTO.out, hQ]; rfl))
              rw [hQ] at HCT
              go_wp2_with fail
              refine HK.out.mono ?_
              rintro e w1 ⟨rfl, hb1⟩
              have HB1 := Lib.hid (HB.out.trans (hb1.mono HB.out.size))
              clear hb1
              go_wp2_with fail
              refine (HCT.out w1 HB1.out).mono ?_
              rintro e w2 ⟨rfl, rfl⟩
              go_wp2_with fail
              go_ret
              exact ⟨ret_bool (by rw [HE.out, HE2.out]), HB1.out⟩
            | false =>
              rw [hQ] at HCT HTO
              go_wp2_with fail
              refine HK.out.mono ?_
              rintro e w1 ⟨rfl, hb1⟩
              have HB1 := Lib.hid (HB.out.trans (hb1.mono HB.out.size))
              clear hb1
              go_wp2_with fail
              refine (HCT.out w1 HB1.out).mono ?_
              rintro e w2 ⟨rfl, rfl⟩
              go_wp2_with fail
              refine ⟨⟨k + 1, by omega, by go_num, Lib.hid (fun j hj => ?_), HB1⟩, by simp [intOf]; omega⟩
              rcases Nat.lt_or_ge j k with h | h
              · exact HJ.out j h
              · have : j = k := by omega
                subst this
                rw [HTO.out]; rfl
        · have hk9 : k = l.length := by omega
          subst hk9
          have HE2 : Hid ((List.range l.length).all (toOkB l) = true) := Lib.hid (List.all_eq_true.2 (fun j hj => HJ.out j (List.mem_range.1 hj)))
          go_wp2_with fail
          go_ret
          exact ⟨ret_bool (by rw [HE.out, HE2.out]), HB.out⟩
    · have HE : Hid (recipB l = false) := Lib.hid (by unfold recipB; rw [decide_eq_false h2]; simp)
      have hd1 : decide ((l.length : Int) < 1) = false := decide_eq_false (by omega)
      have hd2 : decide (10 < (l.length : Int)) = true := decide_eq_true (by omega)
      go_enter Tryz.func136, Tryz.ntmps136
      go_wp2_with fail
      go_ret
      exact ⟨ret_bool HE.out.symm, Below.refl _ _⟩
  · have HE : Hid (recipB l = false) := Lib.hid (by unfold recipB; rw [decide_eq_false h1]; simp)
    have hd1 : decide ((l.length : Int) < 1) = true := decide_eq_true (by omega)
    go_enter Tryz.func136, Tryz.ntmps136
    go_wp2_with fail
    go_ret
    exact ⟨ret_bool HE.out.symm, Below.refl _ _⟩
end Go.Proofs.YtadcidbeealdpaaGreatDoor

/- May a mail that is read be such? -/
namespace Go.Proofs.YtadcidbeealdpaaGreatDoor
open Go.RowKit

set_option maxHeartbeats 1000000 in
set_option maxRecDepth 100000 in
theorem mailMay_any (mm : PMail) (v : Value) (m : Int) (w : World) (h : RowAt w v mm.tos.length 1 (textCells mm.tos)) (hz : MailSz mm) (hm : w.cell? ⟨0, 0, none⟩ = some (.int .i64 m)) :
    Calls Tryz.prog 98 #[.agg (mailCells mm v)] w fun e w' => e = .returned (.bool (mailMayB mm)) ∧ Below w.heap.size w w' := by
  obtain ⟨id, time, frm, tos, body⟩ := mm
  obtain ⟨z1, z2, z3, z4, z5, z6⟩ := hz
  simp only at h z1 z2 z3 z4 z5 z6
  obtain ⟨a, cap, rfl, _⟩ := h.one
  simp only [mailCells]
  have h0 := block_lt hm
  have HH := Lib.hid h
  have HZ5 := Lib.hid z5
  have HE : Hid (mailMayB ⟨id, time, frm, tos, body⟩ = (decide (time ≤ 1000000000) && (frm.isEmpty || isKeptB frm) && recipB tos && decide (body.length ≤ 1000))) := Lib.hid rfl
  obtain ⟨W0, hW0⟩ : ∃ W0 : World, w.alloc (.cells #[.int .i64 id, .int .i64 time, .string (bs frm), .slice a tos.length cap, .string (bs body)] 54) = W0 := ⟨_, rfl⟩
  have hB0 : Below w.heap.size w W0 := by rw [← hW0]; exact (Below.refl _ _).alloc (Nat.le_refl _) _
  have hs0 : W0.heap.size = w.heap.size + 1 := by rw [← hW0]; simp
  have hx : W0.heap[w.heap.size]? = some (.cells #[.int .i64 id, .int .i64 time, .string (bs frm), .slice a tos.length cap, .string (bs body)] 54 (0, 0)) := by rw [← hW0]; exact heap_alloc_new w _
  have HX : Hid (∀ w', Below (w.heap.size + 1) W0 w' → Below w.heap.size w w' ∧ w'.cell? ⟨w.heap.size, 1, none⟩ = some (.int .i64 time) ∧ w'.cell? ⟨w.heap.size, 2, none⟩ = some (.string (bs frm)) ∧ w'.cell? ⟨w.heap.size, 3, none⟩ = some (.slice a tos.length cap) ∧ w'.cell? ⟨w.heap.size, 4, none⟩ = some (.string (bs body)) ∧ w'.cell? ⟨0, 0, none⟩ = some (.int .i64 m) ∧ RowAt w' (.slice a tos.length cap) tos.length 1 (textCells tos)) := Lib.hid (fun w' hb => by
    have hb' : Below w.heap.size w w' := hB0.trans (hb.mono (by omega))
    have hk : w'.heap[w.heap.size]? = _ := (hb.block w.heap.size (by omega)).trans hx
    exact ⟨hb', by rw [Lib.cell_of_heap hk]; rfl, by rw [Lib.cell_of_heap hk]; rfl, by rw [Lib.cell_of_heap hk]; rfl, by rw [Lib.cell_of_heap hk]; rfl, (hb'.cell h0).trans hm, HH.out.below hb'⟩)
  obtain ⟨b0, x1, x2, x3, x4, hm0, _⟩ := HX.out W0 (Below.refl _ _)
  have sF := bs_size frm
  have sB := bs_size body
  have HW0 := Lib.hid hW0
  have HS0 := Lib.hid hs0
  have HB0 := Lib.hid b0
  clear h z5 hB0 hx hW0 hs0 b0
  have hd : ∀ b : Bool, decide ((time : Int) ≤ 1000000000) = b → b = decide (time ≤ 1000000000) := fun b h => by rw [← h, Bool.eq_iff_iff]; simp; omega
  cases c1 : decide ((time : Int) ≤ 1000000000) with
  | false =>
    have HF : Hid (mailMayB ⟨id, time, frm, tos, body⟩ = false) := Lib.hid (by rw [HE.out, decide_eq_false (show ¬ time ≤ 1000000000 by simp at c1; omega)]; rfl)
    clear hd
    go_enter Tryz.func98, Tryz.ntmps98
    go_wp2_with fail
    rw [HW0.out]
    go_ret
    exact ⟨ret_bool HF.out.symm, HB0.out⟩
  | true =>
    clear hd
    by_cases hE : frm = []
    · have hE1 : (bs frm).toList = [] := by rw [hE, Lib.toList_data]; rfl
      have hE2 : (bs frm).toList.isEmpty = true := by rw [hE1]; rfl
      have hfe : frm.isEmpty = true := by rw [hE]; rfl
      have HFE := Lib.hid hfe
      clear hE hfe
      have HRC := Lib.hid (recips_any tos (.slice a tos.length cap) m W0 (HX.out W0 (by rw [← HS0.out]; exact Below.refl _ _)).2.2.2.2.2.2 (by omega) HZ5.out hm0)
      cases hR : recipB tos with
      | false =>
        have HF : Hid (mailMayB ⟨id, time, frm, tos, body⟩ = false) := Lib.hid (by rw [HE.out, hR]; simp)
        rw [hR] at HRC
        clear hR HE
        go_enter Tryz.func98, Tryz.ntmps98
        go_wp2_with fail
        rw [HW0.out]
        refine HRC.out.mono ?_
        rintro e w2 ⟨rfl, hb2⟩
        have HB2 := Lib.hid (HB0.out.trans (hb2.mono (by rw [HS0.out]; omega)))
        clear hb2
        go_wp2_with fail
        go_ret
        exact ⟨ret_bool HF.out.symm, HB2.out⟩
      | true =>
        have HF : Hid (mailMayB ⟨id, time, frm, tos, body⟩ = decide (body.length ≤ 1000)) := Lib.hid (by rw [HE.out, hR, decide_eq_true (show time ≤ 1000000000 by simp at c1; omega), HFE.out]; simp)
        rw [hR] at HRC
        clear hR HE
        go_enter Tryz.func98, Tryz.ntmps98
        go_wp2_with fail
        rw [HW0.out]
        refine HRC.out.mono ?_
        rintro e w2 ⟨rfl, hb2⟩
        have y4 : w2.cell? ⟨w.heap.size, 4, none⟩ = some (.string (bs body)) := (hb2.cell (by show w.heap.size < _; rw [HS0.out]; omega)).trans x4
        have HB2 := Lib.hid (HB0.out.trans (hb2.mono (by rw [HS0.out]; omega)))
        clear hb2
        go_wp2_with fail
        go_ret
        refine ⟨ret_bool ?_, HB2.out⟩
        rw [HF.out, Bool.eq_iff_iff]
        simp
        omega
    · have hE1 : ¬ (bs frm).toList = [] := by rw [Lib.toList_data, bs_toList]; exact hE
      have hE2 : (bs frm).toList.isEmpty = false := by rw [Lib.toList_data, bs_toList]; simpa using hE
      have hfe : frm.isEmpty = false := by simpa using hE
      have HFE := Lib.hid hfe
      have HIK := Lib.hid (isKept_any frm m W0 (by omega) hm0)
      clear hE hfe
      cases hI : isKeptB frm with
      | false =>
        have HF : Hid (mailMayB ⟨id, time, frm, tos, body⟩ = false) := Lib.hid (by rw [HE.out, hI, HFE.out]; simp)
        rw [hI] at HIK
        clear hI HE
        go_enter Tryz.func98, Tryz.ntmps98
        go_wp2_with fail
        rw [HW0.out]
        refine HIK.out.mono ?_
        rintro e w1 ⟨rfl, hb1⟩
        have HB1 := Lib.hid (HB0.out.trans (hb1.mono (by rw [HS0.out]; omega)))
        clear hb1
        go_wp2_with fail
        go_ret
        exact ⟨ret_bool HF.out.symm, HB1.out⟩
      | true =>
        rw [hI] at HIK
        have HFI := Lib.hid hI
        clear hI
        go_enter Tryz.func98, Tryz.ntmps98
        go_wp2_with fail
        rw [HW0.out]
        refine HIK.out.mono ?_
        rintro e w1 ⟨rfl, hb1⟩
        have HB1 := Lib.hid (HB0.out.trans (hb1.mono (by rw [HS0.out]; omega)))
        obtain ⟨_, y1, y2, y3, y4', hm1, hr1⟩ := HX.out w1 (by rw [← HS0.out]; exact hb1)
        have hs1 : w.heap.size + 1 ≤ w1.heap.size := by have := hb1.size; rw [HS0.out] at this; exact this
        clear hb1 x1 x2 x3 x4 HIK
        have HRC := Lib.hid (recips_any tos (.slice a tos.length cap) m w1 hr1 (by omega) HZ5.out hm1)
        cases hR : recipB tos with
        | false =>
          have HF : Hid (mailMayB ⟨id, time, frm, tos, body⟩ = false) := Lib.hid (by rw [HE.out, hR]; simp)
          rw [hR] at HRC
          clear hR HE
          go_wp2_with fail
          refine HRC.out.mono ?_
          rintro e w2 ⟨rfl, hb2⟩
          have HB2 := Lib.hid (HB1.out.trans (hb2.mono (by omega)))
          clear hb2
          go_wp2_with fail
          go_ret
          exact ⟨ret_bool HF.out.symm, HB2.out⟩
        | true =>
          have HF : Hid (mailMayB ⟨id, time, frm, tos, body⟩ = decide (body.length ≤ 1000)) := Lib.hid (by rw [HE.out, hR, decide_eq_true (show time ≤ 1000000000 by simp at c1; omega), HFE.out, HFI.out]; simp)
          rw [hR] at HRC
          clear hR HE
          go_wp2_with fail
          refine HRC.out.mono ?_
          rintro e w2 ⟨rfl, hb2⟩
          have y4 : w2.cell? ⟨w.heap.size, 4, none⟩ = some (.string (bs body)) := (hb2.cell (by show w.heap.size < _; omega)).trans y4'
          have HB2 := Lib.hid (HB1.out.trans (hb2.mono (by omega)))
          clear hb2
          go_wp2_with fail
          go_ret
          refine ⟨ret_bool ?_, HB2.out⟩
          rw [HF.out, Bool.eq_iff_iff]
          simp
          omega
end Go.Proofs.YtadcidbeealdpaaGreatDoor

/- The program's fields: bytes, numbers and texts read one by one. -/
namespace Go.Proofs.YtadcidbeealdpaaGreatDoor
open Go.RowKit

/-- block b holds fields: what is left, or that something was not there whole -/
def FdIn (w : World) (b : Nat) (o : Option (List UInt8)) : Prop :=
  match o with
  | some l => w.heap[b]? = some (.cells #[.string (bs l), .bool false] 131 (0, 0)) ∧ l.length ≤ maxLen
  | none => ∃ l : List UInt8, w.heap[b]? = some (.cells #[.string (bs l), .bool true] 131 (0, 0))
def outS (o : Option (List UInt8 × List UInt8)) : List UInt8 := (o.map (·.1)).getD []

set_option maxHeartbeats 400000 in
set_option maxRecDepth 100000 in
theorem fdBytes_any (b k : Nat) (o : Option (List UInt8)) (w : World) (h : FdIn w b o) (hk : k ≤ maxLen) :
    Calls Tryz.prog 57 #[.pointer (some ⟨b, 0, none⟩), .int .i64 k] w fun e w' => e = .returned (.string (bs (outS (o.bind (bytesS k))))) ∧ FdIn w' b ((o.bind (bytesS k)).map (·.2)) ∧ Same b w w' := by
  unfold maxLen at hk
  cases o with
  | none =>
    obtain ⟨l, hl⟩ := h
    have c0 : w.cell? ⟨b, 0, none⟩ = some (.string (bs l)) := by rw [Lib.cell_of_heap hl]; rfl
    have c1 : w.cell? ⟨b, 1, none⟩ = some (.bool true) := by rw [Lib.cell_of_heap hl]; rfl
    have f1 : w.frozen? ⟨b, 1, none⟩ = false := Lib.frozen_of_heap hl 1
    have HL := Lib.hid hl
    clear hl
    go_enter Tryz.func57, Tryz.ntmps57
    go_wp2_with fail
    go_ret
    exact ⟨rfl, ⟨l, heap_setCell_same w b 1 _ _ (.bool true) HL.out⟩, (Same.refl b w).setCell _⟩
  | some l =>
    obtain ⟨hl, hlm⟩ := h
    unfold maxLen at hlm
    have c0 : w.cell? ⟨b, 0, none⟩ = some (.string (bs l)) := by rw [Lib.cell_of_heap hl]; rfl
    have c1 : w.cell? ⟨b, 1, none⟩ = some (.bool false) := by rw [Lib.cell_of_heap hl]; rfl
    have f0 : w.frozen? ⟨b, 0, none⟩ = false := Lib.frozen_of_heap hl 0
    have f1 : w.frozen? ⟨b, 1, none⟩ = false := Lib.frozen_of_heap hl 1
    have sz := bs_size l
    have HL := Lib.hid hl
    clear hl
    by_cases hlt : k ≤ l.length
    · have hd : decide ((l.length : Int) < (k : Int)) = false := by simp; omega
      have hd' : decide (l.length < k) = false := by simp; omega
      go_enter Tryz.func57, Tryz.ntmps57
      go_wp2_with fail
      simp only [bs_extract, List.drop_zero, List.take_length]
      have e : (some l).bind (bytesS k) = some (l.take k, l.drop k) := by show bytesS k l = _; unfold bytesS; rw [if_pos hlt]
      go_ret
      rw [e]
      exact ⟨rfl, ⟨heap_setCell_same w b 0 _ _ (.string (bs (l.drop k))) HL.out, by rw [List.length_drop]; unfold maxLen; omega⟩, (Same.refl b w).setCell _⟩
    · have hd : decide ((l.length : Int) < (k : Int)) = true := by simp; omega
      have hd' : decide (l.length < k) = true := by simp; omega
      go_enter Tryz.func57, Tryz.ntmps57
      go_wp2_with fail
      have e : (some l).bind (bytesS k) = none := by show bytesS k l = _; unfold bytesS; rw [if_neg hlt]
      go_ret
      rw [e]
      exact ⟨rfl, ⟨l, heap_setCell_same w b 1 _ _ (.bool true) HL.out⟩, (Same.refl b w).setCell _⟩

theorem or_byte {N x : Nat} (hN : N < 16777216) (hx : x < 256) : bits .or .i64 (wrap64 ((N : Int) * 256)) (x : Int) = ((256 * N + x : Nat) : Int) := by
  rw [w64_in _ (by omega), bits_join .i64 32 (by decide) wraps_i64 8 _ _ (by omega) (by omega) (by omega) (by omega) (by omega) (by omega)]
  omega

set_option maxHeartbeats 400000 in
set_option maxRecDepth 100000 in
theorem fdNumber_any (b k : Nat) (o : Option (List UInt8)) (w : World) (h : FdIn w b o) (hk : k ≤ 4) :
    Calls Tryz.prog 56 #[.pointer (some ⟨b, 0, none⟩), .int .i64 k] w fun e w' => e = .returned (.int .i64 (be (outS (o.bind (bytesS k))))) ∧ FdIn w' b ((o.bind (bytesS k)).map (·.2)) ∧ Same b w w' := by
  have hcall := fdBytes_any b k o w h (by unfold maxLen; omega)
  have hlen : (outS (o.bind (bytesS k))).length ≤ 4 := by
    cases e : o.bind (bytesS k) with
    | none => simp [outS]
    | some x =>
      obtain ⟨l, h1, h2⟩ := bind_some' e
      obtain ⟨y, r⟩ := x
      have := (bytesS_dec h2).2.2.2
      show y.length ≤ 4
      omega
  obtain ⟨t, ht⟩ : ∃ t, outS (o.bind (bytesS k)) = t := ⟨_, rfl⟩
  obtain ⟨r, hr⟩ : ∃ r, (o.bind (bytesS k)).map (·.2) = r := ⟨_, rfl⟩
  rw [ht] at hlen
  rw [ht, hr] at hcall ⊢
  clear ht hr h
  have hz := bs_size t
  go_enter Tryz.func56, Tryz.ntmps56
  go_wp2_with fail
  refine hcall.mono ?_
  rintro e w1 ⟨rfl, h1, h2⟩
  have H1 := Lib.hid h1
  have H2 := Lib.hid h2
  clear hcall h1 h2
  go_wp2_with fail
  go_loop [6, 13] (fun n i => ∃ j N : Nat, j ≤ t.length ∧ i = .int .i64 j ∧ n = .int .i64 N ∧ Hid (N = be (t.take j))) (fun _ i => t.length - (intOf i).toNat)
  case atStart => exact ⟨0, 0, Nat.zero_le _, rfl, rfl, rfl⟩
  case round =>
    obtain ⟨j, N, hj, rfl, rfl, HN⟩ := hrel
    by_cases hlt : j < t.length
    · have hlt' : j < (bs t).size := by omega
      have HB : Hid (N < 16777216) := Lib.hid (by
        rw [HN.out]
        have h1 := be_lt (t.take j)
        have h2 : 256 ^ (t.take j).length ≤ 256 ^ 3 := Nat.pow_le_pow_right (by decide) (by rw [List.length_take]; omega)
        have h3 : 256 ^ 3 = 16777216 := by decide
        omega)
      go_wp2_with fail
      refine ⟨⟨j + 1, be (t.take (j + 1)), by omega, by go_num, ?_, rfl⟩, by simp [intOf]; omega⟩
      refine congrArg (Value.int .i64) ?_
      rw [be_take t j hlt, ← bs_get t j hlt', ← HN.out]
      have hx := ((bs t)[j]).toNat_lt
      rw [w64_in (((bs t)[j]).toNat : Int) (by omega)]
      exact or_byte HB.out hx
    · have hj9 : j = t.length := by omega
      subst hj9
      rw [List.take_length] at HN
      go_wp2_with fail
      go_ret
      exact ⟨congrArg (fun x : Nat => Ending.returned (.int .i64 (x : Int))) HN.out, H1.out, H2.out⟩

/-- a text, of what is left -/
def txO (k : Nat) (o : Option (List UInt8)) : Option (List UInt8 × List UInt8) := o.bind (txS k)
theorem tx_two (k : Nat) (o : Option (List UInt8)) : ((o.bind (bytesS k)).map (·.2)).bind (bytesS (be (outS (o.bind (bytesS k))))) = o.bind (txS k) := by
  cases o with
  | none => rfl
  | some l =>
    show ((bytesS k l).map (·.2)).bind (bytesS (be (outS (bytesS k l)))) = txS k l
    unfold txS numS bytesS
    by_cases h : k ≤ l.length
    · rw [if_pos h, if_pos h]; rfl
    · rw [if_neg h, if_neg h]; rfl
theorem number_two (k : Nat) (o : Option (List UInt8)) : (o.bind (bytesS k)).map (·.2) = (o.bind (numS k)).map (·.2) ∧ be (outS (o.bind (bytesS k))) = ((o.bind (numS k)).map (·.1)).getD 0 := by
  cases o with
  | none => exact ⟨rfl, rfl⟩
  | some l =>
    show (bytesS k l).map (·.2) = (numS k l).map (·.2) ∧ be (outS (bytesS k l)) = ((numS k l).map (·.1)).getD 0
    unfold numS bytesS
    by_cases h : k ≤ l.length
    · rw [if_pos h, if_pos h]; exact ⟨rfl, rfl⟩
    · rw [if_neg h, if_neg h]; exact ⟨rfl, rfl⟩

set_option maxHeartbeats 400000 in
set_option maxRecDepth 100000 in
theorem fdText_any (b k : Nat) (o : Option (List UInt8)) (w : World) (h : FdIn w b o) (hk : k ≤ 4) :
    Calls Tryz.prog 96 #[.pointer (some ⟨b, 0, none⟩), .int .i64 k] w fun e w' => e = .returned (.string (bs (outS (o.bind (txS k))))) ∧ FdIn w' b ((o.bind (txS k)).map (·.2)) ∧ Same b w w' := by
  have hcall := fdNumber_any b k o w h hk
  have hN : be (outS (o.bind (bytesS k))) ≤ maxLen := by
    have hlen : (outS (o.bind (bytesS k))).length ≤ 4 := by
      cases e : o.bind (bytesS k) with
      | none => simp [outS]
      | some x =>
        obtain ⟨l, h1, h2⟩ := bind_some' e
        obtain ⟨y, r⟩ := x
        have := (bytesS_dec h2).2.2.2
        show y.length ≤ 4
        omega
    have := be_four hlen
    unfold maxLen
    omega
  have hcall2 := fun w' h' => fdBytes_any b (be (outS (o.bind (bytesS k)))) ((o.bind (bytesS k)).map (·.2)) w' h' hN
  rw [tx_two] at hcall2
  obtain ⟨N, eN⟩ : ∃ N, be (outS (o.bind (bytesS k))) = N := ⟨_, rfl⟩
  obtain ⟨r, er⟩ : ∃ r, (o.bind (bytesS k)).map (·.2) = r := ⟨_, rfl⟩
  obtain ⟨t, et⟩ : ∃ t, outS (o.bind (txS k)) = t := ⟨_, rfl⟩
  obtain ⟨r', er'⟩ : ∃ r', (o.bind (txS k)).map (·.2) = r' := ⟨_, rfl⟩
  rw [eN, er] at hcall
  rw [eN, er, et, er'] at hcall2
  rw [et, er']
  have HC2 := Lib.hid hcall2
  clear hcall2 hN eN er et er' h
  go_enter Tryz.func96, Tryz.ntmps96
  go_wp2_with fail
  refine hcall.mono ?_
  rintro e w1 ⟨rfl, h1, h2⟩
  have H1 := Lib.hid h1
  have H2 := Lib.hid h2
  clear hcall h1 h2
  go_wp2_with fail
  refine (HC2.out _ H1.out).mono ?_
  rintro e w2 ⟨rfl, h3, h4⟩
  have H3 := Lib.hid h3
  have H4 := Lib.hid (H2.out.trans h4)
  clear h3 h4
  go_wp2_with fail
  go_ret
  exact ⟨rfl, H3.out, H4.out⟩

set_option maxHeartbeats 400000 in
set_option maxRecDepth 100000 in
theorem fdDone_any (b : Nat) (o : Option (List UInt8)) (w : World) (h : FdIn w b o) :
    Calls Tryz.prog 97 #[.pointer (some ⟨b, 0, none⟩)] w fun e w' => e = .returned (.bool (decide (o = some []))) ∧ w = w' := by
  cases o with
  | none =>
    obtain ⟨l, hl⟩ := h
    have c0 : w.cell? ⟨b, 0, none⟩ = some (.string (bs l)) := by rw [Lib.cell_of_heap hl]; rfl
    have c1 : w.cell? ⟨b, 1, none⟩ = some (.bool true) := by rw [Lib.cell_of_heap hl]; rfl
    clear hl
    go_enter Tryz.func97, Tryz.ntmps97
    go_wp2_with fail
    go_ret
    exact ⟨ret_bool (by simp), rfl⟩
  | some l =>
    obtain ⟨hl, _⟩ := h
    have c0 : w.cell? ⟨b, 0, none⟩ = some (.string (bs l)) := by rw [Lib.cell_of_heap hl]; rfl
    have c1 : w.cell? ⟨b, 1, none⟩ = some (.bool false) := by rw [Lib.cell_of_heap hl]; rfl
    clear hl
    go_enter Tryz.func97, Tryz.ntmps97
    go_wp2_with fail
    go_ret
    exact ⟨ret_bool (by rw [Lib.toList_data, bs_toList]; cases l <;> simp), rfl⟩
end Go.Proofs.YtadcidbeealdpaaGreatDoor

/- Plain mathematics: a content that is read field by field, whether or not all are there. -/
namespace Go.Proofs.YtadcidbeealdpaaGreatDoor

def numO (k : Nat) (o : Option (List UInt8)) : Nat × Option (List UInt8) := (be (outS (o.bind (bytesS k))), (o.bind (bytesS k)).map (·.2))
def txtO (k : Nat) (o : Option (List UInt8)) : List UInt8 × Option (List UInt8) := (outS (o.bind (txS k)), (o.bind (txS k)).map (·.2))
def txtsO : Nat → Option (List UInt8) → List (List UInt8) × Option (List UInt8)
  | 0, o => ([], o)
  | n + 1, o => ((txtsO n o).1 ++ [(txtO 1 (txtsO n o).2).1], (txtO 1 (txtsO n o).2).2)
def numsO : Nat → Option (List UInt8) → List Nat × Option (List UInt8)
  | 0, o => ([], o)
  | n + 1, o => ((numsO n o).1 ++ [(numO 1 (numsO n o).2).1], (numO 1 (numsO n o).2).2)
def lift {α : Type} (x : α × Option (List UInt8)) : Option (α × List UInt8) := x.2.map fun r => (x.1, r)

theorem numO_none (k : Nat) : numO k none = (0, none) := rfl
theorem txtO_none (k : Nat) : txtO k none = ([], none) := rfl
theorem txtsO_none : ∀ n, (txtsO n none).2 = none
  | 0 => rfl
  | n + 1 => by rw [txtsO, txtsO_none n]; rfl
theorem numsO_none : ∀ n, (numsO n none).2 = none
  | 0 => rfl
  | n + 1 => by rw [numsO, numsO_none n]; rfl
theorem numS_lift (k : Nat) (l : List UInt8) : numS k l = lift (numO k (some l)) := by
  unfold numO lift numS
  show _ = ((bytesS k l).map (·.2)).map _
  unfold bytesS
  by_cases h : k ≤ l.length
  · rw [if_pos h, if_pos h]; show _ = some (be (outS ((some l).bind fun l => if k ≤ l.length then some (l.take k, l.drop k) else none)), l.drop k)
    rw [sb, if_pos h]; rfl
  · rw [if_neg h, if_neg h]; rfl
theorem txS_lift (k : Nat) (l : List UInt8) : txS k l = lift (txtO k (some l)) := by
  unfold txtO lift
  show _ = ((txS k l).map (·.2)).map fun r => (outS (txS k l), r)
  cases txS k l with
  | none => rfl
  | some x => rfl
theorem txtsO_cons : ∀ (n : Nat) (o : Option (List UInt8)), txtsO (n + 1) o = ((txtO 1 o).1 :: (txtsO n (txtO 1 o).2).1, (txtsO n (txtO 1 o).2).2)
  | 0, o => rfl
  | n + 1, o => by
    rw [txtsO, txtsO_cons n o]
    rw [txtsO]
    rfl
theorem numsO_cons : ∀ (n : Nat) (o : Option (List UInt8)), numsO (n + 1) o = ((numO 1 o).1 :: (numsO n (numO 1 o).2).1, (numsO n (numO 1 o).2).2)
  | 0, o => rfl
  | n + 1, o => by
    rw [numsO, numsO_cons n o]
    rw [numsO]
    rfl
theorem txsS_lift : ∀ (n : Nat) (l : List UInt8), txsS n l = lift (txtsO n (some l))
  | 0, l => rfl
  | n + 1, l => by
    rw [txsS, txS_lift, txtsO_cons]
    cases h : (txtO 1 (some l)).2 with
    | none =>
      have e : lift (txtO 1 (some l)) = none := by unfold lift; rw [h]; rfl
      rw [e]
      unfold lift
      rw [txtsO_none]
      rfl
    | some r =>
      have e : lift (txtO 1 (some l)) = some ((txtO 1 (some l)).1, r) := by unfold lift; rw [h]; rfl
      rw [e, sb, txsS_lift n r]
      unfold lift
      cases (txtsO n (some r)).2 <;> rfl
theorem numsS_lift : ∀ (n : Nat) (l : List UInt8), numsS n l = lift (numsO n (some l))
  | 0, l => rfl
  | n + 1, l => by
    rw [numsS, numS_lift, numsO_cons]
    cases h : (numO 1 (some l)).2 with
    | none =>
      have e : lift (numO 1 (some l)) = none := by unfold lift; rw [h]; rfl
      rw [e]
      unfold lift
      rw [numsO_none]
      rfl
    | some r =>
      have e : lift (numO 1 (some l)) = some ((numO 1 (some l)).1, r) := by unfold lift; rw [h]; rfl
      rw [e, sb, numsS_lift n r]
      unfold lift
      cases (numsO n (some r)).2 <;> rfl

theorem mail_steps (r : List UInt8) {o1 o2 o3 o4 o5 o6 : Option (List UInt8)} {I T N : Nat} {f B : List UInt8} {Ts : List (List UInt8)} (h1 : numO 4 (some r) = (I, o1)) (h2 : numO 4 o1 = (T, o2)) (h3 : txtO 1 o2 = (f, o3)) (h4 : numO 1 o3 = (N, o4)) (h5 : txtsO N o4 = (Ts, o5)) (h6 : txtO 2 o5 = (B, o6)) :
    mailS r = if o6 = some [] then some ⟨I, T, f, Ts, B⟩ else none := by
  have e5n : o4 = none → o6 = none := fun e => by
    subst e
    have := txtsO_none N
    rw [h5] at this
    simp only at this
    subst this
    rw [txtO_none] at h6
    injection h6 with _ h6
    exact h6.symm
  have e3n : o2 = none → o6 = none := fun e => by
    subst e
    rw [txtO_none] at h3
    injection h3 with _ h3
    subst h3
    rw [numO_none] at h4
    injection h4 with _ h4
    exact e5n h4.symm
  unfold mailS
  rw [numS_lift, h1]
  cases o1 with
  | none =>
    rw [numO_none] at h2
    injection h2 with _ h2
    rw [e3n h2.symm]
    rfl
  | some r1 =>
    show ((numS 4 r1).bind _) = _
    rw [numS_lift, h2]
    cases o2 with
    | none => rw [e3n rfl]; rfl
    | some r2 =>
      show ((txS 1 r2).bind _) = _
      rw [txS_lift, h3]
      cases o3 with
      | none =>
        rw [numO_none] at h4
        injection h4 with _ h4
        rw [e5n h4.symm]
        rfl
      | some r3 =>
        show ((numS 1 r3).bind _) = _
        rw [numS_lift, h4]
        cases o4 with
        | none => rw [e5n rfl]; rfl
        | some r4 =>
          show ((txsS N r4).bind _) = _
          rw [txsS_lift, h5]
          cases o5 with
          | none =>
            rw [txtO_none] at h6
            injection h6 with _ h6
            rw [← h6]
            rfl
          | some r5 =>
            show ((txS 2 r5).bind _) = _
            rw [txS_lift, h6]
            cases o6 with
            | none => rfl
            | some r6 =>
              show (if r6 = [] then _ else _) = _
              by_cases h : r6 = []
              · rw [if_pos h, if_pos (by rw [h])]
              · rw [if_neg h, if_neg (by intro e; injection e with e; exact h e)]
theorem list_steps (r : List UInt8) {o1 o2 o3 : Option (List UInt8)} {I N : Nat} {Ps : List Nat} (h1 : numO 4 (some r) = (I, o1)) (h2 : numO 1 o1 = (N, o2)) (h3 : numsO N o2 = (Ps, o3)) :
    listS r = if o3 = some [] then some (I, Ps) else none := by
  have e2n : o2 = none → o3 = none := fun e => by
    subst e
    have := numsO_none N
    rw [h3] at this
    exact this
  unfold listS
  rw [numS_lift, h1]
  cases o1 with
  | none =>
    rw [numO_none] at h2
    injection h2 with _ h2
    rw [e2n h2.symm]
    rfl
  | some r1 =>
    show ((numS 1 r1).bind _) = _
    rw [numS_lift, h2]
    cases o2 with
    | none => rw [e2n rfl]; rfl
    | some r2 =>
      show ((numsS N r2).bind _) = _
      rw [numsS_lift, h3]
      cases o3 with
      | none => rfl
      | some r3 =>
        show (if r3 = [] then _ else _) = _
        by_cases h : r3 = []
        · rw [if_pos h, if_pos (by rw [h])]
        · rw [if_neg h, if_neg (by intro e; injection e with e; exact h e)]
/-! ### sizes -/
theorem numO_lt (k : Nat) (o : Option (List UInt8)) : (numO k o).1 < 256 ^ k := by
  unfold numO
  cases e : o.bind (bytesS k) with
  | none => exact Nat.pow_pos (by decide)
  | some x =>
    obtain ⟨l, _, h2⟩ := bind_some' e
    obtain ⟨y, r⟩ := x
    have := (bytesS_dec h2).2.2.2
    have h := be_lt y
    rw [this] at h
    exact h
theorem txtO_lt (k : Nat) (o : Option (List UInt8)) : (txtO k o).1.length < 256 ^ k := by
  unfold txtO
  cases e : o.bind (txS k) with
  | none => exact Nat.pow_pos (by decide)
  | some x =>
    obtain ⟨l, _, h2⟩ := bind_some' e
    obtain ⟨y, r⟩ := x
    exact (txS_dec h2).2.2.2
theorem txtsO_len : ∀ (n : Nat) (o : Option (List UInt8)), (txtsO n o).1.length = n
  | 0, _ => rfl
  | n + 1, o => by rw [txtsO, List.length_append, txtsO_len n]; rfl
theorem txtsO_lt : ∀ (n : Nat) (o : Option (List UInt8)), ∀ t ∈ (txtsO n o).1, t.length < 256
  | 0, _, t, h => by cases h
  | n + 1, o, t, h => by
    rw [txtsO] at h
    rcases List.mem_append.1 h with h | h
    · exact txtsO_lt n o t h
    · simp only [List.mem_singleton] at h
      subst h
      exact txtO_lt 1 _
theorem numsO_len : ∀ (n : Nat) (o : Option (List UInt8)), (numsO n o).1.length = n
  | 0, _ => rfl
  | n + 1, o => by rw [numsO, List.length_append, numsO_len n]; rfl
theorem numsO_lt : ∀ (n : Nat) (o : Option (List UInt8)), ∀ x ∈ (numsO n o).1, x < 256
  | 0, _, t, h => by cases h
  | n + 1, o, t, h => by
    rw [numsO] at h
    rcases List.mem_append.1 h with h | h
    · exact numsO_lt n o t h
    · simp only [List.mem_singleton] at h
      subst h
      exact numO_lt 1 _
end Go.Proofs.YtadcidbeealdpaaGreatDoor
