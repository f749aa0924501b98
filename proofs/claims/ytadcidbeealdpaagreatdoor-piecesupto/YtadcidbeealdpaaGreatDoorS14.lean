import Derived.Test.YtadcidbeealdpaaGreatDoorS13
import Derived.Deep.RegionLaw
import Derived.Test.YtadcidbeealdpaaGreatDoorS06
import Derived.Maps.RangeRun

/- Those who are gone. -/
namespace Go.Proofs.YtadcidbeealdpaaGreatDoor
open Go.RowKit

set_option maxHeartbeats 1000000 in
set_option maxRecDepth 100000 in
theorem takeGone_any (base pb mb : Nat) (q : Nat → Nat) (vr vp : Value) (S : PStore) (id : Nat) (ps : List Nat) (w : World) (h : BagIn base w pb mb q vr S) (hok : S.Ok) (hp : RowAt w vp ps.length 1 (natCells ps)) (hid : id ≤ 4294967295) (h1 : 1 ≤ ps.length) (hpl : ps.length ≤ 255) (hn : S.items.length ≤ 4294967295) :
    Calls Tryz.prog 62 #[.pointer (some ⟨pb, 0, none⟩), .agg #[.int .i64 id, vp]] w (TakePost base pb mb q vr S (S.takesG id ps) w) := by
  have hle := h.le
  obtain ⟨W0, hW0⟩ : ∃ W0 : World, w.alloc (.cells #[.int .i64 id, vp] 140) = W0 := ⟨_, rfl⟩
  have B0 : Below w.heap.size w W0 := by rw [← hW0]; exact (Below.refl _ _).alloc (Nat.le_refl _) _
  have A0 : BagIn base W0 pb mb q vr S := h.keep B0
  have X0 : W0.heap[w.heap.size]? = some (.cells #[.int .i64 id, vp] 140 (0, 0)) := by rw [← hW0]; exact heap_alloc_new w _
  have e0 : ∀ o : Obj, o = .cells #[.int .i64 id, vp] 140 → (w.alloc o).cell? ⟨w.heap.size, 0, none⟩ = some (.int .i64 id) := fun o ho => by rw [ho, hW0, Lib.cell_of_heap X0]; rfl
  have HM := Lib.hid (mayLeave_any base pb mb q vr vp S id ps W0 A0 hok (hp.below B0) hid h1 hpl hn)
  have HA0 := Lib.hid A0
  have HB0 := Lib.hid B0
  have HW0 := Lib.hid hW0
  have HX0 := Lib.hid X0
  have HP0 := Lib.hid (hp.below B0)
  clear A0 B0 hW0 X0 hp h e0
  go_enter Tryz.func62, Tryz.ntmps62
  go_wp2_with fail
  rw [HW0.out]
  refine HM.out.mono ?_
  rintro e w2 ⟨rfl, hb2⟩
  have x0 := below_some hb2 HX0.out
  have y0 : w2.cell? ⟨w.heap.size, 0, none⟩ = some (.int .i64 id) := by rw [Lib.cell_of_heap x0]; rfl
  have y1 : w2.cell? ⟨w.heap.size, 1, none⟩ = some vp := by rw [Lib.cell_of_heap x0]; rfl
  have A2 := Lib.hid (HA0.out.keep hb2)
  have P2 := Lib.hid (HP0.out.below hb2)
  have B2 := Lib.hid (((HB0.out.mono hle)).trans (hb2.mono HA0.out.le))
  clear x0 hb2
  cases hm : mayLeaveB S id ps with
  | false =>
    have HT : Hid (S.takesG id ps = none) := Lib.hid (by unfold PStore.takesG; rw [hm]; rfl)
    clear hm
    go_wp2_with fail
    go_ret
    exact ⟨.inl ⟨HT.out, rfl, A2.out⟩, B2.out⟩
  | true =>
    have HT : Hid (S.takesG id ps = some (S.outs (id - 1) ps)) := Lib.hid (by unfold PStore.takesG; rw [hm]; rfl)
    rw [mayLeave_live h1, Bool.and_eq_true, decide_eq_true_eq] at hm
    obtain ⟨⟨hi1, hi2⟩, _⟩ := hm
    have HL := Lib.hid (bagLeave_any base pb mb q vr vp S (id - 1) ps w2 A2.out hok P2.out hi2 hpl hn)
    rw [show ((id - 1 : Nat) : Int) + 1 = (id : Int) by omega] at HL
    clear hi1 hi2
    go_wp2_with fail
    refine HL.out.mono ?_
    rintro e w3 ⟨vn, rfl, _, A3, B3⟩
    go_wp2_with fail
    go_ret
    exact ⟨.inr ⟨_, q, HT.out, rfl, A3⟩, B2.out.trans B3⟩
end Go.Proofs.YtadcidbeealdpaaGreatDoor

/- Those who failed. -/
namespace Go.Proofs.YtadcidbeealdpaaGreatDoor
open Go.RowKit

theorem namesE_len (l : List (List UInt8)) (hs : ∀ t ∈ l, t.length ≤ 255) : (namesE l).length ≤ 14 + 257 * l.length := by
  unfold namesE
  rw [List.length_append, show notE.length = 14 from rfl]
  have : (l.flatMap fun t => [13, 10] ++ t).length ≤ 257 * l.length := by
    induction l with
    | nil => simp
    | cons x l ih =>
      have h1 := ih fun t ht => hs t (by simp [ht])
      have h2 := hs x (by simp)
      rw [List.flatMap_cons, List.length_append, List.length_append]
      simp only [List.length_cons, List.length_nil]
      omega
  omega
theorem getD_le {tos : List (List UInt8)} (hs : ∀ t ∈ tos, t.length ≤ 255) (i : Nat) : (tos.getD i []).length ≤ 255 := by
  rw [List.getD_eq_getElem?_getD]
  cases h : tos[i]? with
  | none => simp
  | some x => exact hs x (List.mem_of_getElem? h)
/-- the names of those who fail -/
theorem gones_names {S : PStore} {id : Nat} {ps : List Nat} (hr : risingB ps = true) (hm : mayLeaveB S id ps = true) : gonesOf (S.stayOf (id - 1)) ps = ps.map fun i => (S.mailOf (id - 1)).tos.getD i [] := by
  unfold mayLeaveB at hm
  rw [Bool.and_eq_true, List.all_eq_true] at hm
  unfold gonesOf PStore.stayOf
  refine stay_leave _ _ _ hr fun x hx => ?_
  have := hm.2 x hx
  simpa using this
theorem takesF_plain {S : PStore} {T id : Nat} {ps : List Nat} (hr : risingB ps = true) (hm : mayLeaveB S id ps = true) (hT : S.time ≤ T) :
    ((S.mailOf (id - 1)).frm = [] → S.takesF T id ps = some (PStore.outs ⟨S.items, T⟩ (id - 1) ps)) ∧
    ((S.mailOf (id - 1)).frm ≠ [] → S.takesF T id ps = some ((PStore.outs ⟨S.items, T⟩ (id - 1) ps).plus ⟨S.items.length + 1, T, [], [(S.mailOf (id - 1)).frm], namesE (gonesOf (S.stayOf (id - 1)) ps)⟩)) := by
  unfold PStore.takesF
  rw [hm, decide_eq_true hT]
  simp only [Bool.and_true, if_true, PStore.failed]
  constructor
  · intro h
    rw [if_pos h]; rfl
  · intro h
    rw [if_neg h, gones_names hr hm, namesE_body]
    simp [PStore.plus, PStore.outs]

set_option maxHeartbeats 1000000 in
set_option maxRecDepth 100000 in
theorem takeFailed_any (base pb mb : Nat) (q : Nat → Nat) (vr vp : Value) (S : PStore) (T id : Nat) (ps : List Nat) (w : World) (h : BagIn base w pb mb q vr S) (hok : S.Ok) (B : Nat) (hp : w.ownsRow B 3 1 vp ps.length (natCells ps)) (hid : id ≤ 4294967295) (h1 : 1 ≤ ps.length) (hpl : ps.length ≤ 255) (hr : risingB ps = true) (hT : T ≤ 1000000000) (hn : S.items.length < 4294967295) :
    Calls Tryz.prog 64 #[.pointer (some ⟨pb, 0, none⟩), .int .i64 T, .agg #[.int .i64 id, vp]] w (TakePost base pb mb q vr S (S.takesF T id ps) w) := by
  have hle := h.le
  obtain ⟨W0, hW0⟩ : ∃ W0 : World, w.alloc (.cells #[.int .i64 id, vp] 140) = W0 := ⟨_, rfl⟩
  have B0 : Below w.heap.size w W0 := by rw [← hW0]; exact (Below.refl _ _).alloc (Nat.le_refl _) _
  have A0 : BagIn base W0 pb mb q vr S := h.keep B0
  have X0 : W0.heap[w.heap.size]? = some (.cells #[.int .i64 id, vp] 140 (0, 0)) := by rw [← hW0]; exact heap_alloc_new w _
  have O0 := ownsRow_keeps hp fun g cur e _ => below_some B0 e
  have HM := Lib.hid (mayLeave_any base pb mb q vr vp S id ps W0 A0 hok (row_of_own' O0) hid h1 hpl (by omega))
  have HA0 := Lib.hid A0
  have HB0 := Lib.hid B0
  have HW0 := Lib.hid hW0
  have HX0 := Lib.hid X0
  have HO0 := Lib.hid O0
  have hpbs : pb < w.heap.size := h.pblt
  clear A0 B0 hW0 X0 hp h O0
  go_enter Tryz.func64, Tryz.ntmps64
  go_wp2_with fail
  rw [HW0.out]
  refine HM.out.mono ?_
  rintro e w2 ⟨rfl, hb2⟩
  have x0 := below_some hb2 HX0.out
  have y0 : w2.cell? ⟨w.heap.size, 0, none⟩ = some (.int .i64 id) := by rw [Lib.cell_of_heap x0]; rfl
  have y1 : w2.cell? ⟨w.heap.size, 1, none⟩ = some vp := by rw [Lib.cell_of_heap x0]; rfl
  have HX2 := Lib.hid x0
  have A2 := HA0.out.keep hb2
  have c1 : w2.cell? ⟨pb, 1, none⟩ = some (.int .i64 S.time) := by rw [Lib.cell_of_heap A2.bag]; rfl
  have g1 : w2.frozen? ⟨pb, 1, none⟩ = false := Lib.frozen_of_heap A2.bag 1
  have HA2 := Lib.hid A2
  have O2 := Lib.hid (ownsRow_keeps HO0.out fun g cur e _ => below_some hb2 e)
  have B2 := Lib.hid (((HB0.out.mono hle)).trans (hb2.mono HA0.out.le))
  clear x0 hb2 A2
  cases hm : mayLeaveB S id ps with
  | false =>
    have HT : Hid (S.takesF T id ps = none) := Lib.hid (by unfold PStore.takesF; rw [hm]; rfl)
    clear hm
    go_wp2_with fail
    go_ret
    exact ⟨.inl ⟨HT.out, rfl, HA2.out⟩, B2.out⟩
  | true =>
    by_cases hTT : S.time ≤ T
    · have HPL := Lib.hid (takesF_plain hr hm hTT)
      have HGN := Lib.hid (gones_names hr hm)
      rw [mayLeave_live h1, Bool.and_eq_true, decide_eq_true_eq] at hm
      obtain ⟨⟨hi1, hi2⟩, _⟩ := hm
      obtain ⟨K, rfl⟩ : ∃ K, id = K + 1 := ⟨id - 1, by omega⟩
      rw [Nat.add_sub_cancel] at HPL HGN hi2
      have ht2 : ¬ T < S.time := by omega
      clear hTT
      go_wp2_with fail
      obtain ⟨w3, hw3⟩ : ∃ w3 : World, w2.setCell ⟨pb, 1, none⟩ (.int .i64 T) = w3 := ⟨_, rfl⟩
      rw [hw3]
      have S3 : Same pb w2 w3 := by rw [← hw3]; exact (Same.refl _ _).setCell _
      have P3 : w3.heap[pb]? = some (.cells #[vr, .int .i64 T, .int .i64 S.items.length, .map (some mb)] 95 (0, 0)) := by
        rw [← hw3]; exact heap_setCell_same w2 pb 1 _ _ (.int .i64 T) HA2.out.bag
      have A3 : BagIn base w3.drew pb mb q vr ⟨S.items, T⟩ := (HA2.out.timed S3 P3).keep ((Below.refl _ _).drew)
      have X3 : w3.drew.heap[w.heap.size]? = some (.cells #[.int .i64 ((K : Int) + 1), vp] 140 (0, 0)) := same_some S3 HX2.out (by omega)
      have O3 : w3.drew.ownsRow B 3 1 vp ps.length (natCells ps) := ownsRow_keeps O2.out fun g cur e _ => same_some S3 e fun e' => by rw [e', HA2.out.bag] at e; simp at e
      have c3 : w3.drew.cell? ⟨pb, 3, none⟩ = some (.map (some mb)) := by rw [Lib.cell_of_heap A3.bag]; rfl
      have z0 : w3.drew.cell? ⟨w.heap.size, 0, none⟩ = some (.int .i64 ((K : Int) + 1)) := by rw [Lib.cell_of_heap X3]; rfl
      have z1 : w3.drew.cell? ⟨w.heap.size, 1, none⟩ = some vp := by rw [Lib.cell_of_heap X3]; rfl
      have hKn := live_lt hi2
      have hlk : (Instr.lookup 93 (.map (some mb)) (.int .i64 ((K : Int) + 1)) false).run Tryz.prog w3.drew = .ok (.pointer (some ⟨q K, 0, none⟩)) w3.drew :=
        map_look (t := 93) (e := 108) und_int Tryz.underlying93 A3.map (fun i hi => by have := live_lt hi; simp only at this; omega) K (by omega) hi2 false
      obtain ⟨_, v, _, hb, _⟩ := A3.mail K hi2
      have m1 : w3.drew.cell? ⟨q K, 1, none⟩ = some (.string (bs (S.mailOf K).frm)) := by rw [Lib.cell_of_heap hb]; rfl
      have HLV := Lib.hid (bagLeave_any base pb mb q vr vp ⟨S.items, T⟩ K ps w3.drew A3 (hok.time T) (row_of_own' O3) hi2 hpl (by show S.items.length ≤ _; omega))
      have hB3 := Lib.hid (B2.out.trans ((S3.below HA2.out.pbb).drew))
      have HMZ : Hid (MailSz (S.mailOf K)) := Lib.hid (by rw [mailOf_lt hKn]; exact (hok.sz _ (List.getElem_mem hKn)).1)
      have HSL := Lib.hid (stayOf_le hok K)
      clear hw3 S3 P3 A3 X3 O3 hb y0 y1 c1 g1 hi1 hi2
      obtain ⟨F, eF⟩ : ∃ F, (S.mailOf K).frm = F := ⟨_, rfl⟩
      rw [eF] at m1 HPL
      go_region
      all_goals
        go_wp2_with fail
        refine HLV.out.mono ?_
        rintro e w4 ⟨vn, rfl, hvn, A4, B4⟩
        have hA4 := A4.le
        have c4 : w4.drew.cell? ⟨pb, 2, none⟩ = some (.int .i64 (S.items.length : Int)) := by
          show w4.cell? _ = _
          rw [Lib.cell_of_heap A4.bag, outs_len]; rfl
        have c5 : ∀ o : Obj, (w4.alloc o).cell? ⟨pb, 2, none⟩ = some (.int .i64 (S.items.length : Int)) := fun o => by
          have := below_some ((Below.refl _ w4).alloc (Nat.le_refl _) o) A4.bag
          rw [Lib.cell_of_heap this, outs_len]; rfl
        have HVN := Lib.hid hvn
        have HA4 := Lib.hid A4
        have HB4 := Lib.hid (hB3.out.trans B4)
        clear hvn A4 B4
        by_cases hF : F = []
        · have tF : (bs F).toList.isEmpty = true := by rw [Lib.toList_data, hF]; rfl
          have HR := Lib.hid (HPL.out.1 hF)
          clear hF
          go_wp2_with fail
          go_ret
          exact ⟨.inr ⟨_, q, HR.out, rfl, HA4.out⟩, HB4.out⟩
        · have tF : (bs F).toList.isEmpty = false := by
            rw [Lib.toList_data]
            cases F with
            | nil => exact absurd rfl hF
            | cons x l => rfl
          have HR := Lib.hid (HPL.out.2 hF)
          have hwr : IntKind.i64.wrap ((S.items.length : Int) + 1) = (S.items.length : Int) + 1 := by rw [IntKind.wrap_i64]; omega
          obtain ⟨N, eN⟩ : ∃ N, gonesOf (S.stayOf K) ps = N := ⟨_, rfl⟩
          have hNl : N.length ≤ 10 := by rw [← eN]; have := gones_le (S.stayOf K) ps; have := HSL.out; omega
          have hNs : ∀ t ∈ N, t.length ≤ 255 := by
            intro t ht
            rw [← eN, HGN.out, List.mem_map] at ht
            obtain ⟨i, _, rfl⟩ := ht
            exact getD_le HMZ.out.2.2.2.2.1 i
          have hbl := namesE_len N hNs
          have hvn4 : w4.ownsRow w3.drew.heap.size 9 1 vn N.length (textCells N) := by rw [← eN]; exact HVN.out
          have HRB : Hid (∀ W : World, Below w4.heap.size w4 W → Calls Tryz.prog 103 #[vn] W fun e w' => e = .returned (.string (bs (namesE N))) ∧ W = w') := Lib.hid (fun W hW => returnBody_any N vn W (row_of_own' (ownsRow_keeps hvn4 fun g cur e _ => below_some hW e)) (by omega) hNs)
          obtain ⟨W5, hW5⟩ : ∃ W5 : World, (w4.alloc (.cells #[.string (bs F)] 9)).drew = W5 := ⟨_, rfl⟩
          have B5 : Below w4.heap.size w4 W5 := by rw [← hW5]; exact ((Below.refl _ _).alloc (Nat.le_refl _) _).drew
          have X5 : W5.heap[w4.heap.size]? = some (.cells #[.string (bs F)] 9 (0, 0)) := by rw [← hW5]; exact heap_alloc_new w4 _
          have O5 : W5.ownsRow w4.heap.size 9 1 (.slice (some ⟨w4.heap.size, 0, none⟩) 1 1) 1 (textCells [F]) :=
            ⟨rfl, .inr ⟨w4.heap.size, 1, _, rfl, Nat.le_refl _, X5, Nat.le_refl _, by unfold maxLen; omega, rfl, rfl⟩⟩
          have HAD := Lib.hid (bagAdd_any base pb mb q vr (PStore.outs ⟨S.items, T⟩ K ps) ⟨S.items.length + 1, T, [], [F], namesE N⟩ (.slice (some ⟨w4.heap.size, 0, none⟩) 1 1) W5 (HA4.out.keep B5) w4.heap.size O5
            ⟨by show S.items.length + 1 ≤ _; omega, by show T ≤ _; omega, by simp, by simp, fun t ht => by simp at ht; subst ht; rw [← eF]; exact HMZ.out.2.2.1, by show (namesE N).length ≤ _; omega⟩ (by rw [outs_len]) (by simp) (by rw [outs_len]; exact hn))
          have HB5 := Lib.hid (HB4.out.trans (B5.mono hA4))
          have HW5 := Lib.hid hW5
          have HF := Lib.hid hF
          rw [eN] at HR
          clear hF eF B5 X5 O5 hvn4 hW5 eN
          go_wp2_with fail
          go_region_law (first
            | (go_simp; go_at_call 103; refine (HRB.out _ (by first | exact (Below.refl _ _).drew | exact ((Below.refl _ _).alloc (Nat.le_refl _) _).drew | exact ((Below.refl _ _).drew).alloc (Nat.le_refl _) _)).mono ?_; rintro e w5 ⟨rfl, rfl⟩)
            | (go_simp; go_at_call 99; rw [HW5.out]; refine HAD.out.mono ?_; rintro e w6 ⟨rfl, q', A6, B6⟩; have HA6 := Lib.hid A6; have HB6 := Lib.hid B6; clear A6 B6))
          all_goals
            go_wp2_with fail
            go_ret
            exact ⟨.inr ⟨_, _, HR.out, rfl, HA6.out⟩, HB5.out.trans HB6.out⟩
    · have HT : Hid (S.takesF T id ps = none) := Lib.hid (by unfold PStore.takesF; rw [decide_eq_false hTT, Bool.and_false]; rfl)
      have ht2 : T < S.time := by omega
      clear hTT
      go_wp2_with fail
      go_ret
      exact ⟨.inl ⟨HT.out, rfl, HA2.out⟩, B2.out⟩
end Go.Proofs.YtadcidbeealdpaaGreatDoor

/- A record is taken. -/
namespace Go.Proofs.YtadcidbeealdpaaGreatDoor
open Go.RowKit

theorem readMailS_may {l : List UInt8} {m : PMail} (h : readMailS l = some m) : mailMayB m = true := by
  unfold readMailS at h
  split at h
  · cases h
  · split at h
    · rw [Option.bind_eq_some_iff] at h
      obtain ⟨a, _, h⟩ := h
      split at h
      · cases h; assumption
      · cases h
    · cases h
theorem mailMay_tos {m : PMail} (h : mailMayB m = true) : 1 ≤ m.tos.length ∧ m.tos.length ≤ 10 := by
  unfold mailMayB recipB at h
  simp only [Bool.and_eq_true, decide_eq_true_eq] at h
  exact ⟨h.1.2.1.1, h.1.2.1.2⟩
theorem leavingS_rises {l : List UInt8} {x : Nat × List Nat} (h : leavingS l = some x) : risingB x.2 = true := by
  unfold leavingS at h
  rw [Option.bind_eq_some_iff] at h
  obtain ⟨a, _, h⟩ := h
  split at h
  · rename_i hc
    rw [Bool.and_eq_true] at hc
    cases h
    exact hc.2
  · cases h
theorem readFailedS_rises {l : List UInt8} {T id : Nat} {ps : List Nat} (h : readFailedS l = some (T, id, ps)) : risingB ps = true := by
  unfold readFailedS at h
  split at h
  · cases h
  · split at h
    · rw [Option.bind_eq_some_iff] at h
      obtain ⟨a, _, h⟩ := h
      rw [Option.bind_eq_some_iff] at h
      obtain ⟨x, hx, h⟩ := h
      split at h
      · cases h; exact leavingS_rises hx
      · cases h
    · cases h
theorem okM {S S' : PStore} {m : PMail} (hok : S.Ok) (hz : MailSz m) (ht : 1 ≤ m.tos.length ∧ m.tos.length ≤ 10) (h : S.takesM m = some S') : S'.Ok := by
  unfold PStore.takesM at h
  split at h
  · rename_i hc
    rw [Bool.and_eq_true, decide_eq_true_eq] at hc
    cases h
    exact hok.plus hc.1 hz ht.1 ht.2
  · cases h
theorem okG {S S' : PStore} {id : Nat} {ps : List Nat} (hok : S.Ok) (h : S.takesG id ps = some S') : S'.Ok := by
  unfold PStore.takesG at h
  split at h
  · cases h; exact hok.outs _ _
  · cases h
theorem okF {S S' : PStore} {T id : Nat} {ps : List Nat} (hok : S.Ok) (hr : risingB ps = true) (hT : T ≤ 1000000000) (hn : S.items.length < 4294967295) (h : S.takesF T id ps = some S') : S'.Ok := by
  have hc : mayLeaveB S id ps = true ∧ S.time ≤ T := by
    unfold PStore.takesF at h
    split at h
    · rename_i hc
      rwa [Bool.and_eq_true, decide_eq_true_eq] at hc
    · cases h
  obtain ⟨p1, p2⟩ := takesF_plain hr hc.1 hc.2
  have hO : PStore.Ok (PStore.outs ⟨S.items, T⟩ (id - 1) ps) := (hok.time T).outs _ _
  by_cases hF : (S.mailOf (id - 1)).frm = []
  · rw [p1 hF] at h; cases h; exact hO
  · rw [p2 hF] at h
    cases h
    have hlt : id - 1 < S.items.length := by
      have := hc.1
      unfold mayLeaveB at this
      simp only [Bool.and_eq_true, decide_eq_true_eq] at this
      omega
    have hz : MailSz (S.mailOf (id - 1)) := by rw [mailOf_lt hlt]; exact (hok.sz _ (List.getElem_mem hlt)).1
    have hg : (gonesOf (S.stayOf (id - 1)) ps).length ≤ 10 := by have := gones_le (S.stayOf (id - 1)) ps; have := stayOf_le hok (id - 1); omega
    have hs : ∀ t ∈ gonesOf (S.stayOf (id - 1)) ps, t.length ≤ 255 := by
      intro t ht
      rw [gones_names hr hc.1, List.mem_map] at ht
      obtain ⟨i, _, rfl⟩ := ht
      exact getD_le hz.2.2.2.2.1 i
    have hb := namesE_len _ hs
    refine hO.plus (by rw [outs_len]) ⟨by show S.items.length + 1 ≤ _; omega, by show T ≤ _; omega, by simp, by simp, fun t ht => by simp at ht; subst ht; exact hz.2.2.1, by show (namesE _).length ≤ _; omega⟩ (by simp) (by simp)

theorem own_slice {w : World} {base sz n : Nat} {e : TypeId} {v : Value} {xs : List Value} (h : w.ownsRow base e sz v n xs) : ∃ a m c, v = .slice a m c := by
  rcases h.2 with ⟨e, _⟩ | ⟨g, cap, cur, e, _⟩
  · exact ⟨_, _, _, e⟩
  · exact ⟨_, _, _, e⟩
set_option maxHeartbeats 1000000 in
set_option maxRecDepth 100000 in
theorem bagTake_any (base pb mb : Nat) (q : Nat → Nat) (vr : Value) (S : PStore) (l : List UInt8) (n : Int) (w : World) (h : BagIn base w pb mb q vr S) (hok : S.Ok) (hl : l.length ≤ 1048576) (hm : w.cell? ⟨0, 0, none⟩ = some (.int .i64 n)) (hn : S.items.length < 4294967295) :
    Calls Tryz.prog 36 #[.pointer (some ⟨pb, 0, none⟩), .string (bs l)] w fun e w' => TakePost base pb mb q vr S (S.takes l) w e w' ∧ ∀ S', S.takes l = some S' → S'.Ok := by
  have hle := h.le
  have HH := Lib.hid h
  have HW := Lib.hid (takes_ways S l)
  have HM := Lib.hid (readMail_any l n w hl hm)
  clear h hm
  go_enter Tryz.func36, Tryz.ntmps36
  go_wp2_with fail
  refine HM.out.mono ?_
  rintro e w1 ⟨hor, hb1⟩
  have A1 := Lib.hid (HH.out.keep hb1)
  have B1 := Lib.hid hb1
  clear hb1
  rcases hor with ⟨hr, rfl⟩ | ⟨mm, v, hr, rfl, hv, hz⟩
  · rw [hr] at HW
    simp only [mailCells, noMail]
    clear hr
    go_wp2_with fail
    refine (readGone_any l _ hl).mono ?_
    rintro e w3 ⟨hor, hb3⟩
    have A3 := Lib.hid ((A1.out.keep ((Below.refl _ _).alloc (Nat.le_refl _) _)).keep hb3)
    have HB3 := Lib.hid (((B1.out.mono hle).alloc A1.out.le _).trans (hb3.mono (Nat.le_trans A1.out.le (by simp))))
    clear hb3
    rcases hor with ⟨hr, rfl⟩ | ⟨id, ps, v, hr, rfl, hv, hid, hp1, hp2, hp3⟩
    · rw [hr] at HW
      clear hr
      go_wp2_with fail
      refine (readFailed_any l _ hl).mono ?_
      rintro e w5 ⟨hor, hb5⟩
      have A5 := Lib.hid ((A3.out.keep ((Below.refl _ _).alloc (Nat.le_refl _) _)).keep hb5)
      have HB5 := Lib.hid ((HB3.out.alloc A3.out.le _).trans (hb5.mono (Nat.le_trans A3.out.le (by simp))))
      clear hb5
      rcases hor with ⟨hr, rfl⟩ | ⟨T, id, ps, v, hr, rfl, ⟨hv, hid, hp1, hp2, hp3⟩, hT⟩
      · rw [hr] at HW
        have HWF : Hid (S.takes l = none) := Lib.hid HW.out
        clear hr HW
        go_wp2_with fail
        go_ret
        exact ⟨⟨.inl ⟨HWF.out, rfl, A5.out.keep ((Below.refl _ _).alloc (Nat.le_refl _) _)⟩, HB5.out.alloc A5.out.le _⟩, fun S' hS => by rw [HWF.out] at hS; cases hS⟩
      · have hrise := readFailedS_rises hr
        rw [hr] at HW
        have HWF : Hid (S.takes l = S.takesF T id ps) := Lib.hid HW.out
        obtain ⟨av, nv, cv, rfl⟩ := own_slice hv
        obtain ⟨W6, hW6⟩ : ∃ W6 : World, w5.alloc (.cells #[.int .i64 id, .slice av nv cv] 140) = W6 := ⟨_, rfl⟩
        have B6 : Below w5.heap.size w5 W6 := by rw [← hW6]; exact (Below.refl _ _).alloc (Nat.le_refl _) _
        have HT := Lib.hid (takeFailed_any base pb mb q vr _ S T id ps W6 (A5.out.keep B6) hok _ (ownsRow_keeps hv fun g cur e _ => below_some B6 e) hid hp1 hp2 hrise hT hn)
        have HB6 := Lib.hid (HB5.out.trans (B6.mono A5.out.le))
        have HOK : Hid (∀ S', S.takes l = some S' → S'.Ok) := Lib.hid (fun S' hS => okF hok hrise hT hn (by rw [← HWF.out]; exact hS))
        have HW6 := Lib.hid hW6
        clear hr HW B6 hW6 hv hid hp1 hp2 hp3 hrise hT
        go_wp2_with fail
        rw [HW6.out]
        refine HT.out.mono ?_
        rintro e w7 ⟨hor, hb7⟩
        have HB7 := Lib.hid (HB6.out.trans hb7)
        clear hb7
        rcases hor with ⟨h9, rfl, hA⟩ | ⟨S', q', h9, rfl, hA⟩
        · go_wp2_with fail
          go_ret
          exact ⟨⟨.inl ⟨HWF.out.trans h9, rfl, hA⟩, HB7.out⟩, HOK.out⟩
        · go_wp2_with fail
          go_ret
          exact ⟨⟨.inr ⟨S', q', HWF.out.trans h9, rfl, hA⟩, HB7.out⟩, HOK.out⟩
    · rw [hr] at HW
      have HWF : Hid (S.takes l = S.takesG id ps) := Lib.hid HW.out
      obtain ⟨av, nv, cv, rfl⟩ := own_slice hv
      obtain ⟨W4, hW4⟩ : ∃ W4 : World, w3.alloc (.cells #[.int .i64 id, .slice av nv cv] 140) = W4 := ⟨_, rfl⟩
      have B4 : Below w3.heap.size w3 W4 := by rw [← hW4]; exact (Below.refl _ _).alloc (Nat.le_refl _) _
      have HT := Lib.hid (takeGone_any base pb mb q vr _ S id ps W4 (A3.out.keep B4) hok (row_of_own' (ownsRow_keeps hv fun g cur e _ => below_some B4 e)) hid hp1 hp2 (by omega))
      have HB4 := Lib.hid (HB3.out.trans (B4.mono A3.out.le))
      have HOK : Hid (∀ S', S.takes l = some S' → S'.Ok) := Lib.hid (fun S' hS => okG hok (by rw [← HWF.out]; exact hS))
      have HW4 := Lib.hid hW4
      clear hr HW B4 hW4 hv hid hp1 hp2 hp3
      go_wp2_with fail
      rw [HW4.out]
      refine HT.out.mono ?_
      rintro e w7 ⟨hor, hb7⟩
      have HB7 := Lib.hid (HB4.out.trans hb7)
      clear hb7
      rcases hor with ⟨h9, rfl, hA⟩ | ⟨S', q', h9, rfl, hA⟩
      · go_wp2_with fail
        go_ret
        exact ⟨⟨.inl ⟨HWF.out.trans h9, rfl, hA⟩, HB7.out⟩, HOK.out⟩
      · go_wp2_with fail
        go_ret
        exact ⟨⟨.inr ⟨S', q', HWF.out.trans h9, rfl, hA⟩, HB7.out⟩, HOK.out⟩
  · rw [hr] at HW
    have HWF : Hid (S.takes l = S.takesM mm) := Lib.hid HW.out
    have hmay := mailMay_tos (readMailS_may hr)
    obtain ⟨av, nv, cv, rfl⟩ := own_slice hv
    obtain ⟨W2, hW2⟩ : ∃ W2 : World, w1.alloc (.cells #[.int .i64 mm.id, .int .i64 mm.time, .string (bs mm.frm), .slice av nv cv, .string (bs mm.body)] 54) = W2 := ⟨_, rfl⟩
    have B2 : Below w1.heap.size w1 W2 := by rw [← hW2]; exact (Below.refl _ _).alloc (Nat.le_refl _) _
    have HT := Lib.hid (takeMail_any base pb mb q vr S mm _ W2 (A1.out.keep B2) _ (ownsRow_keeps hv fun g cur e _ => below_some B2 e) hz hmay.1 hn)
    have HB2 := Lib.hid ((B1.out.mono hle).trans (B2.mono A1.out.le))
    have HOK : Hid (∀ S', S.takes l = some S' → S'.Ok) := Lib.hid (fun S' hS => okM hok hz hmay (by rw [← HWF.out]; exact hS))
    have HW2 := Lib.hid hW2
    simp only [mailCells]
    clear hr hmay B2 hW2 hv hz HW
    go_wp2_with fail
    rw [HW2.out]
    refine HT.out.mono ?_
    rintro e w7 ⟨hor, hb7⟩
    have HB7 := Lib.hid (HB2.out.trans hb7)
    clear hb7
    rcases hor with ⟨h9, rfl, hA⟩ | ⟨S', q', h9, rfl, hA⟩
    · go_wp2_with fail
      go_ret
      exact ⟨⟨.inl ⟨HWF.out.trans h9, rfl, hA⟩, HB7.out⟩, HOK.out⟩
    · go_wp2_with fail
      go_ret
      exact ⟨⟨.inr ⟨S', q', HWF.out.trans h9, rfl, hA⟩, HB7.out⟩, HOK.out⟩
end Go.Proofs.YtadcidbeealdpaaGreatDoor

/- All mail is made due. -/
namespace Go.Proofs.YtadcidbeealdpaaGreatDoor
open Go.RowKit
open Go.ChangeMaps (setBlock)

section
variable {base pb mb : Nat} {q : Nat → Nat} {vr : Value} {S : PStore} {w w' : World}
theorem BagIn.dued (h : BagIn base w pb mb q vr S) {i : Nat} (hi : i ∈ S.live) (T : Int) : BagIn base (w.setCell ⟨q i, 4, none⟩ (.int .i64 T)) pb mb q vr S := by
  have S1 : Same (q i) w (w.setCell ⟨q i, 4, none⟩ (.int .i64 T)) := (Same.refl _ _).setCell _
  obtain ⟨ai, vi, xi, bi, ci⟩ := h.mail i hi
  refine ⟨same_some S1 h.bag (fun e => ?_), same_some S1 h.map (fun e => ?_), h.pbb, h.mbb, h.one, fun j hj => ?_⟩
  · unfold BmAt at bi; rw [← e, h.bag] at bi; simp at bi
  · have := h.map
    unfold MapIn at this
    unfold BmAt at bi
    rw [e, bi] at this
    simp at this
  · obtain ⟨a, v, x, b, c⟩ := h.mail j hj
    have rows : (w.setCell ⟨q i, 4, none⟩ (.int .i64 T)).ownsRow base 152 2 v (S.stayOf j).length (recCells (S.stayOf j)) := ownsRow_keeps c fun g cur e _ => same_some S1 e fun e' => by
      unfold BmAt at bi
      rw [e', bi] at e
      simp at e
    by_cases e : j = i
    · subst e
      have h1 := heap_setCell_same w (q j) 4 _ _ (.int .i64 T) b
      exact ⟨a, v, (T, x.2), h1, rows⟩
    · exact ⟨a, v, x, same_some S1 b (fun e' => e (h.one j hj i hi e')), rows⟩
end

theorem left_live {q : Nat → Nat} {l : List Nat} {seen : Array Nat} {e : MapEntry} (h : e ∈ (Go.leftOf (ents q l) seen).toList) : ∃ i ∈ l, e = ent q i := by
  unfold Go.leftOf at h
  simp only [Array.toList_filter, List.mem_filter, ents_list] at h
  obtain ⟨i, hi, rfl⟩ := List.mem_map.1 h.1
  exact ⟨i, hi, rfl⟩
theorem born_nodup {q : Nat → Nat} {l : List Nat} (h : l.Nodup) : ((ents q l).toList.map (·.born)).Nodup := by
  rw [ents_list, List.map_map]
  have e : ((fun x : MapEntry => x.born) ∘ ent q) = id := by funext i; rfl
  rw [e, List.map_id]
  exact h
theorem left_less {es : Array MapEntry} {seen : Array Nat} {e : MapEntry} (h : e ∈ (Go.leftOf es seen).toList) : (Go.leftOf es (seen.push e.born)).size < (Go.leftOf es seen).size := by
  unfold Go.leftOf at h ⊢
  have e1 : ∀ p : MapEntry → Bool, (es.filter p).size = (es.toList.filter p).length := fun p => by rw [← Array.toList_filter, Array.length_toList]
  rw [e1, e1]
  rw [Array.toList_filter, List.mem_filter] at h
  refine filter_lt _ _ (fun x hx => ?_) e h.2 ?_ es.toList h.1
  · simp only [Array.contains_push, Bool.not_eq_true', Bool.or_eq_false_iff] at hx ⊢
    exact hx.1
  · simp

theorem iterSeen_at {W : World} {r b c : Nat} {a : Option Nat} {s : Array Nat} (h : W.heap[r]? = some (.mapIter a b s c)) : W.iterSeen r = s := by
  unfold World.iterSeen
  rw [h]

/-- the loop's iterator lies in block r -/
structure DueS (w W : World) (base pb mb : Nat) (q : Nat → Nat) (vr : Value) (S : PStore) (r : Nat) (seen : Array Nat) : Prop where
  bag : BagIn base W pb mb q vr S
  it : W.heap[r]? = some (.mapIter (some mb) S.items.length seen S.items.length)
  touch : Touch [149] w W
  below : Below base w W

theorem same_setIter (W : World) (r : Nat) (o : Obj) : Same r W (setBlock W r o) :=
  ⟨by simp [setBlock], fun k hk => by simp [setBlock, Ne.symm hk], ⟨rfl, rfl, rfl⟩⟩
theorem iter_at {W : World} {r : Nat} (h : r < W.heap.size) (o : Obj) : (setBlock W r o).heap[r]? = some o := by simp [setBlock, h]
theorem touch_new {ts : List TypeId} {a b c : World} {r : Nat} (h : Touch ts a b) (hr : a.heap.size ≤ r) (hs : Same r b c) : Touch ts a c :=
  ⟨by rw [hs.1]; exact h.1, fun k o e n => (hs.2 k (by have := heap_some_lt e; omega)).trans (h.2 k o e n), h.3.trans hs.3⟩
section
variable {w W : World} {base pb mb : Nat} {q : Nat → Nat} {vr : Value} {S : PStore} {r : Nat} {seen : Array Nat}
theorem DueS.step (h : DueS w W base pb mb q vr S r seen) (hr : w.heap.size ≤ r) (hb : base ≤ w.heap.size) (seen' : Array Nat) : DueS w (setBlock W r (.mapIter (some mb) S.items.length seen' S.items.length)) base pb mb q vr S r seen' := by
  have S1 := same_setIter W r (.mapIter (some mb) S.items.length seen' S.items.length)
  refine ⟨⟨same_some S1 h.bag.bag (fun e => ?_), same_some S1 h.bag.map (fun e => ?_), h.bag.pbb, h.bag.mbb, h.bag.one, fun i hi => ?_⟩, iter_at (heap_some_lt h.it) _, touch_new h.touch hr S1, h.below.trans (S1.below (by omega))⟩
  · have := h.bag.bag; rw [e, h.it] at this; simp at this
  · have := h.bag.map; unfold MapIn at this; rw [e, h.it] at this; simp at this
  · obtain ⟨a, v, x, b, c⟩ := h.bag.mail i hi
    refine ⟨a, v, x, same_some S1 b (fun e => ?_), ownsRow_keeps c fun g cur e _ => same_some S1 e fun e' => ?_⟩
    · unfold BmAt at b; rw [e, h.it] at b; simp at b
    · rw [e', h.it] at e; simp at e
theorem DueS.drew (h : DueS w W base pb mb q vr S r seen) : DueS w W.drew base pb mb q vr S r seen :=
  ⟨h.bag.keep ((Below.refl _ _).drew), h.it, h.touch.trans (Touch.below ((Below.refl _ _).drew)), h.below.drew⟩
theorem DueS.put (h : DueS w W base pb mb q vr S r seen) {i : Nat} (hi : i ∈ S.live) (T : Int) : DueS w (W.setCell ⟨q i, 4, none⟩ (.int .i64 T)) base pb mb q vr S r seen := by
  have S1 : Same (q i) W (W.setCell ⟨q i, 4, none⟩ (.int .i64 T)) := (Same.refl _ _).setCell _
  obtain ⟨a, v, x, b, c⟩ := h.bag.mail i hi
  refine ⟨h.bag.dued hi T, same_some S1 h.it (fun e => ?_), h.touch.same b (by simp) S1, h.below.trans (S1.below a)⟩
  unfold BmAt at b
  rw [← e, h.it] at b
  simp at b
end

set_option maxHeartbeats 1000000 in
set_option maxRecDepth 100000 in
theorem makeAllDue_any (base pb mb : Nat) (q : Nat → Nat) (vr : Value) (S : PStore) (w : World) (h : BagIn base w pb mb q vr S) :
    Calls Tryz.prog 37 #[.pointer (some ⟨pb, 0, none⟩)] w fun e w' => e = .returned (.tuple #[]) ∧ BagIn base w' pb mb q vr S ∧ Touch [149] w w' ∧ Below base w w' := by
  have hle := h.le
  have hrg := run_range_map (P := Tryz.prog) w 93 3 108 mb (ents q S.live) S.items.length Tryz.underlying93 h.map
  have c3 : w.cell? ⟨pb, 3, none⟩ = some (.map (some mb)) := by rw [Lib.cell_of_heap h.bag]; rfl
  have D0 : DueS w (w.alloc (.mapIter (some mb) S.items.length #[] S.items.length)) base pb mb q vr S w.heap.size #[] :=
    have hb : Below w.heap.size w (w.alloc (.mapIter (some mb) S.items.length #[] S.items.length)) := (Below.refl _ _).alloc (Nat.le_refl _) _
    ⟨h.keep hb, heap_alloc_new w _, Touch.below hb, hb.mono hle⟩
  have HD0 := Lib.hid D0
  clear h D0
  go_enter Tryz.func37, Tryz.ntmps37
  go_wp2_with fail
  obtain ⟨W0, hW0⟩ : ∃ W0 : World, w.alloc (.mapIter (some mb) S.items.length #[] S.items.length) = W0 := ⟨_, rfl⟩
  rw [hW0] at HD0 ⊢
  clear hW0 hrg c3
  go_loopw [] (fun w' => ∃ seen : Array Nat, Hid (DueS w w' base pb mb q vr S w.heap.size seen)) (fun w' => (Go.leftOf (ents q S.live) (w'.iterSeen w.heap.size)).size)
  case atStart => exact ⟨#[], HD0⟩
  case round =>
    obtain ⟨seen, HD⟩ := hrel
    have hn := run_next_at (P := Tryz.prog) wr 0 w.heap.size mb S.items.length S.items.length seen (ents q S.live) S.items.length HD.out.it HD.out.bag.map (fun x hx => by
      rw [ents_list] at hx
      obtain ⟨i, hi, rfl⟩ := List.mem_map.1 hx
      exact live_lt hi) (Nat.le_refl _)
    rcases hn with ⟨_, hrun⟩ | ⟨e, he, w1, hw1, hrun⟩
    · go_wp2_with fail
      refine bodyPost_end (results_none rfl _ _ _) rfl ?_
      exact ⟨rfl, HD.out.bag, HD.out.touch, HD.out.below⟩
    · obtain ⟨i, hi, rfl⟩ := left_live he
      have hless := Lib.hid (left_less he)
      have D1 : DueS w w1 base pb mb q vr S w.heap.size seen := by
        rcases hw1 with rfl | rfl
        · exact HD.out
        · exact HD.out.drew
      have D2 := D1.step (Nat.le_refl _) hle (seen.push (ent q i).born)
      obtain ⟨W2, hW2⟩ : ∃ W2 : World, setBlock w1 w.heap.size (.mapIter (some mb) S.items.length (seen.push (ent q i).born) S.items.length) = W2 := ⟨_, rfl⟩
      rw [hW2] at hrun D2
      have hent := run_entry_at (P := Tryz.prog) W2 w.heap.size mb S.items.length seen (ents q S.live) S.items.length (ent q i) D2.it D2.bag.map (by rw [ents_list]; exact List.mem_map.2 ⟨i, hi, rfl⟩) (born_nodup (live_nodup S))
      have c1 : W2.cell? ⟨pb, 1, none⟩ = some (.int .i64 S.time) := by rw [Lib.cell_of_heap D2.bag.bag]; rfl
      obtain ⟨_, v, x, b, _⟩ := D2.bag.mail i hi
      have c4 : W2.cell? ⟨q i, 4, none⟩ = some (.int .i64 x.1) := by rw [Lib.cell_of_heap b]; rfl
      have f4 := Lib.frozen_of_heap b 4
      have HD3 := Lib.hid (D2.put hi S.time)
      have HDW := Lib.hid HD.out.it
      have hval : (ent q i).val = .pointer (some ⟨q i, 0, none⟩) := rfl
      have hkey : (ent q i).key = .int .i64 ((i : Int) + 1) := rfl
      rw [hval, hkey] at hrun hent
      clear hval hkey hW2 D1 D2 b hw1 he HD
      go_wp2_with fail
      exact ⟨⟨_, HD3⟩, by rw [iterSeen_at HD3.out.it, iterSeen_at HDW.out]; exact hless.out⟩
end Go.Proofs.YtadcidbeealdpaaGreatDoor
