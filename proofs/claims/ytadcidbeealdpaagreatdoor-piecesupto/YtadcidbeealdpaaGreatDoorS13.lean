import Derived.Test.YtadcidbeealdpaaGreatDoorS12
import Derived.BigQuiet

/- The bag: its block, its map and its mails; what a new mail and those who leave do to it. -/
namespace Go.Proofs.YtadcidbeealdpaaGreatDoor
open Go.RowKit

structure BagIn (base : Nat) (w : World) (pb mb : Nat) (q : Nat → Nat) (vr : Value) (S : PStore) : Prop where
  bag : w.heap[pb]? = some (.cells #[vr, .int .i64 S.time, .int .i64 S.items.length, .map (some mb)] 95 (0, 0))
  map : MapIn w mb q S.live S.items.length
  pbb : base ≤ pb
  mbb : base ≤ mb
  one : ∀ i ∈ S.live, ∀ j ∈ S.live, q i = q j → i = j
  mail : ∀ i ∈ S.live, base ≤ q i ∧ ∃ v x, BmAt w (q i) (S.mailOf i).time (S.mailOf i).frm v (S.mailOf i).body x ∧ w.ownsRow base 152 2 v (S.stayOf i).length (recCells (S.stayOf i))

theorem but_some {p : Nat} {w w' : World} (hb : But p w w') {k : Nat} {o : Obj} (h : w.heap[k]? = some o) (hne : k ≠ p) : w'.heap[k]? = some o := (hb.block k (heap_some_lt h) hne).trans h
theorem same_setBlock {w : World} {b : Nat} {es : Array MapEntry} {c : Nat} (h : w.heap[b]? = some (.map es c)) (o : Obj) : Same b w (ChangeMaps.setBlock w b o) :=
  ⟨by simp [ChangeMaps.setBlock], fun k hk => ChangeMaps.heap_setBlock_other h o hk, ⟨rfl, rfl, rfl⟩⟩

section
variable {base pb mb : Nat} {q : Nat → Nat} {vr : Value} {S : PStore} {w w' : World}
theorem BagIn.pblt (h : BagIn base w pb mb q vr S) : pb < w.heap.size := heap_some_lt h.bag
theorem BagIn.mblt (h : BagIn base w pb mb q vr S) : mb < w.heap.size := heap_some_lt h.map
theorem BagIn.le (h : BagIn base w pb mb q vr S) : base ≤ w.heap.size := by have := h.pblt; have := h.pbb; omega
theorem BagIn.keep (h : BagIn base w pb mb q vr S) (hb : Below w.heap.size w w') : BagIn base w' pb mb q vr S :=
  ⟨below_some hb h.bag, below_some hb h.map, h.pbb, h.mbb, h.one, fun i hi => by
    obtain ⟨a, v, x, b, c⟩ := h.mail i hi
    exact ⟨a, v, x, below_some hb b, ownsRow_keeps c fun g cur e _ => below_some hb e⟩⟩
/-- the bag's own block is written -/
theorem BagIn.timed (h : BagIn base w pb mb q vr S) {T : Nat} {vr' : Value} (hs : Same pb w w') (hp : w'.heap[pb]? = some (.cells #[vr', .int .i64 T, .int .i64 S.items.length, .map (some mb)] 95 (0, 0))) : BagIn base w' pb mb q vr' ⟨S.items, T⟩ :=
  ⟨hp, same_some hs h.map (fun e => by have := h.map; unfold MapIn at this; rw [e, h.bag] at this; simp at this), h.pbb, h.mbb, h.one, fun i hi => by
    obtain ⟨a, v, x, b, c⟩ := h.mail i hi
    refine ⟨a, v, x, same_some hs b (fun e => ?_), ownsRow_keeps c fun g cur e _ => same_some hs e fun e' => ?_⟩
    · unfold BmAt at b; rw [e, h.bag] at b; simp at b
    · rw [e', h.bag] at e; simp at e⟩
/-- one mail more -/
theorem BagIn.added (h : BagIn base w pb mb q vr S) {w1 w2 : World} {m : PMail} {Q : Nat} {v : Value} {x : Int × Int} (h1 : Same pb w w1) (hp1 : w1.heap[pb]? = some (.cells #[vr, .int .i64 m.time, .int .i64 ((S.items.length : Int) + 1), .map (some mb)] 95 (0, 0)))
    (h2 : Below w1.heap.size w1 w2) (hQ : w1.heap.size ≤ Q) (hm : BmAt w2 Q m.time m.frm v m.body x) (hr : w2.ownsRow w1.heap.size 152 2 v m.tos.length (recCells (stay m.tos (List.replicate m.tos.length false)))) (ht : 1 ≤ m.tos.length) :
    BagIn base (ChangeMaps.setBlock w2 mb (.map (ents (fun i => if i = S.items.length then Q else q i) (S.live ++ [S.items.length])) (S.items.length + 1))) pb mb (fun i => if i = S.items.length then Q else q i) vr (S.plus m) := by
  have hmb1 : w1.heap[mb]? = some (.map (ents q S.live) S.items.length) := same_some h1 h.map (fun e => by have := h.map; unfold MapIn at this; rw [e, h.bag] at this; simp at this)
  have hmb2 : w2.heap[mb]? = some (.map (ents q S.live) S.items.length) := below_some h2 hmb1
  have hS := same_setBlock hmb2 (.map (ents (fun i => if i = S.items.length then Q else q i) (S.live ++ [S.items.length])) (S.items.length + 1))
  have hbase : base ≤ w1.heap.size := by rw [h1.1]; exact h.le
  have hpm : pb ≠ mb := fun e => by rw [e, hmb1] at hp1; simp at hp1
  have old : ∀ i ∈ S.live, i ≠ S.items.length := fun i hi e => by have := live_lt hi; omega
  refine ⟨?_, ?_, h.pbb, h.mbb, ?_, ?_⟩
  · rw [plus_len]
    have := same_some hS (below_some h2 hp1) hpm
    simpa [PStore.plus] using this
  · unfold MapIn
    rw [plus_len, plus_live ht]
    exact ChangeMaps.heap_setBlock_same hmb2 _
  · rw [plus_live ht]
    have hq : ∀ i ∈ S.live, q i < Q := fun i hi => by
      obtain ⟨_, v, _, b, _⟩ := h.mail i hi
      have := heap_some_lt b
      rw [h1.1] at hQ
      omega
    intro i hi j hj e
    simp only [List.mem_append, List.mem_singleton] at hi hj
    rcases hi with hi | rfl
    · rcases hj with hj | rfl
      · rw [if_neg (old i hi), if_neg (old j hj)] at e
        exact h.one i hi j hj e
      · rw [if_neg (old i hi), if_pos rfl] at e
        have := hq i hi; omega
    · rcases hj with hj | rfl
      · rw [if_pos rfl, if_neg (old j hj)] at e
        have := hq j hj; omega
      · rfl
  · rw [plus_live ht]
    intro i hi
    simp only [List.mem_append, List.mem_singleton] at hi
    have keepRow : ∀ {n : Nat} {v : Value} {xs : List Value} {B : Nat}, base ≤ B → w2.ownsRow B 152 2 v n xs → (ChangeMaps.setBlock w2 mb (.map (ents (fun i => if i = S.items.length then Q else q i) (S.live ++ [S.items.length])) (S.items.length + 1))).ownsRow base 152 2 v n xs := fun hB hr => by
      refine (ownsRow_keeps hr fun g cur e _ => same_some hS e fun e' => ?_).mono hB
      rw [e', hmb2] at e; simp at e
    rcases hi with hi | rfl
    · have hlt := live_lt hi
      obtain ⟨a, v, x, b, c⟩ := h.mail i hi
      simp only [if_neg (old i hi)]
      rw [plus_mailOf hlt, plus_stayOf hlt]
      have b1 : BmAt w1 (q i) (S.mailOf i).time (S.mailOf i).frm v (S.mailOf i).body x := same_some h1 b (fun e => by unfold BmAt at b; rw [e, h.bag] at b; simp at b)
      have b2 : BmAt w2 (q i) (S.mailOf i).time (S.mailOf i).frm v (S.mailOf i).body x := below_some h2 b1
      refine ⟨a, v, x, same_some hS b2 (fun e => by unfold BmAt at b2; rw [e, hmb2] at b2; simp at b2), keepRow (Nat.le_refl _) ?_⟩
      refine ownsRow_keeps c fun g cur e _ => below_some h2 (same_some h1 e fun e' => ?_)
      rw [e', h.bag] at e; simp at e
    · simp only [if_true]
      rw [plus_mailOf_new, plus_stayOf_new]
      have e1 : (stay m.tos (List.replicate m.tos.length false)).length = m.tos.length := by rw [stay_all]; simp
      rw [e1]
      exact ⟨by omega, v, x, same_some hS hm (fun e => by unfold BmAt at hm; rw [e, hmb2] at hm; simp at hm), keepRow hbase hr⟩
/-- somebody leaves, others stay -/
theorem BagIn.left (h : BagIn base w pb mb q vr S) {w1 : World} {K : Nat} {ps : List Nat} {v : Value} {x : Int × Int} (hK : K ∈ S.live) (hb : But (q K) w w1) (hm : BmAt w1 (q K) (S.mailOf K).time (S.mailOf K).frm v (S.mailOf K).body x)
    (hr : w1.ownsRow w.heap.size 152 2 v (staysOf (S.stayOf K) ps).length (recCells (staysOf (S.stayOf K) ps))) (hs : staysOf (S.stayOf K) ps ≠ []) : BagIn base w1 pb mb q vr (S.outs K ps) := by
  obtain ⟨aK, vK, xK, bK, cK⟩ := h.mail K hK
  refine ⟨?_, ?_, h.pbb, h.mbb, ?_, ?_⟩
  · rw [outs_len]
    exact but_some hb h.bag (fun e => by unfold BmAt at bK; rw [← e, h.bag] at bK; simp at bK)
  · unfold MapIn
    rw [outs_len, outs_live_some hK hs]
    refine but_some hb h.map (fun e => ?_)
    have := h.map
    unfold MapIn at this
    unfold BmAt at bK
    rw [e, bK] at this
    simp at this
  · rw [outs_live_some hK hs]; exact h.one
  · rw [outs_live_some hK hs]
    intro i hi
    rw [outs_mailOf]
    by_cases e : i = K
    · subst e
      rw [outs_stayOf (live_lt hK)]
      exact ⟨aK, v, x, hm, hr.mono h.le⟩
    · obtain ⟨a, v', x, b, c⟩ := h.mail i hi
      rw [outs_stayOf_ne e]
      refine ⟨a, v', x, but_some hb b (fun e' => e (h.one i hi K hK e')), ownsRow_keeps c fun g cur e1 _ => but_some hb e1 fun e' => ?_⟩
      unfold BmAt at bK
      rw [e', bK] at e1
      simp at e1
/-- nobody stays -/
theorem BagIn.emptied (h : BagIn base w pb mb q vr S) {w1 : World} {K : Nat} {ps : List Nat} (hK : K ∈ S.live) (hb : But (q K) w w1) (hs : staysOf (S.stayOf K) ps = []) : w1.heap[mb]? = some (.map (ents q S.live) S.items.length) ∧
    BagIn base (ChangeMaps.setBlock w1 mb (.map (ents q (S.live.filter fun i => decide (i ≠ K))) S.items.length)) pb mb q vr (S.outs K ps) := by
  obtain ⟨aK, vK, xK, bK, cK⟩ := h.mail K hK
  have hmb1 : w1.heap[mb]? = some (.map (ents q S.live) S.items.length) := but_some hb h.map (fun e => by
    have := h.map
    unfold MapIn at this
    unfold BmAt at bK
    rw [e, bK] at this
    simp at this)
  have hS := same_setBlock hmb1 (.map (ents q (S.live.filter fun i => decide (i ≠ K))) S.items.length)
  have hp1 := but_some hb h.bag (fun e => by unfold BmAt at bK; rw [← e, h.bag] at bK; simp at bK)
  refine ⟨hmb1, ?_, ?_, h.pbb, h.mbb, ?_, ?_⟩
  · rw [outs_len]
    exact same_some hS hp1 (fun e => by rw [e, hmb1] at hp1; simp at hp1)
  · unfold MapIn
    rw [outs_len, outs_live_none hK hs]
    exact ChangeMaps.heap_setBlock_same hmb1 _
  · rw [outs_live_none hK hs]
    exact fun i hi j hj e => h.one i (List.mem_filter.1 hi).1 j (List.mem_filter.1 hj).1 e
  · rw [outs_live_none hK hs]
    intro i hi
    obtain ⟨hi, hne⟩ := List.mem_filter.1 hi
    have e : i ≠ K := by simpa using hne
    rw [outs_mailOf, outs_stayOf_ne e]
    obtain ⟨a, v', x, b, c⟩ := h.mail i hi
    have b1 : BmAt w1 (q i) (S.mailOf i).time (S.mailOf i).frm v' (S.mailOf i).body x := but_some hb b (fun e' => e (h.one i hi K hK e'))
    refine ⟨a, v', x, same_some hS b1 (fun e' => by unfold BmAt at b1; rw [e', hmb1] at b1; simp at b1), ownsRow_keeps c fun g cur e1 _ => ?_⟩
    have e2 := but_some hb e1 (fun e' => by unfold BmAt at bK; rw [e', bK] at e1; simp at e1)
    exact same_some hS e2 (fun e' => by rw [e', hmb1] at e2; simp at e2)
end
end Go.Proofs.YtadcidbeealdpaaGreatDoor

/- Are all places among those who are still there? -/
namespace Go.Proofs.YtadcidbeealdpaaGreatDoor
open Go.RowKit

set_option maxHeartbeats 1000000 in
theorem has1_any (P : Nat) (T : List UInt8) (pc place : Nat) (w : World) (hc : w.cell? ⟨pc, 0, none⟩ = some (.int .i64 place)) :
    Calls Tryz.prog 181 #[.agg #[.int .i64 P, .string (bs T)], .pointer (some ⟨pc, 0, none⟩)] w fun e w' => e = .returned (.bool (decide (P = place))) ∧ Below w.heap.size w w' := by
  have hc1 : ∀ o : Obj, (w.alloc o).cell? ⟨pc, 0, none⟩ = some (.int .i64 place) := fun o => by
    rw [((Below.refl _ w).alloc (Nat.le_refl _) o).cell (show pc < w.heap.size from block_lt hc)]; exact hc
  go_enter Tryz.func181, Tryz.ntmps181
  go_wp2_with fail
  go_ret
  have e1 : ((P : Int) == (place : Int)) = decide (P = place) := by rw [Bool.eq_iff_iff]; simp only [beq_iff_eq, decide_eq_true_eq]; omega
  exact ⟨by rw [← e1]; rfl, (Below.refl _ w).alloc (Nat.le_refl _) _⟩

theorem any_take_succ {l : List (Nat × List UInt8)} {p : Nat × List UInt8 → Bool} {k : Nat} (h : k < l.length) (h0 : (l.take k).any p = false) (h1 : p l[k] = false) : (l.take (k + 1)).any p = false := by
  rw [List.take_succ_eq_append_getElem h, List.any_append, h0]
  simp [h1]
theorem any_hit {l : List (Nat × List UInt8)} {p : Nat × List UInt8 → Bool} {k : Nat} (h : k < l.length) (h1 : p l[k] = true) : l.any p = true := List.any_eq_true.2 ⟨_, List.getElem_mem h, h1⟩

set_option maxHeartbeats 1000000 in
set_option maxRecDepth 100000 in
theorem indexFunc_any (base : Nat) (l : List (Nat × List UInt8)) (v : Value) (pc place : Nat) (w : World) (hv : w.ownsRow base 152 2 v l.length (recCells l)) (hc : w.cell? ⟨pc, 0, none⟩ = some (.int .i64 place)) (hl : l.length ≤ 255) :
    Calls Tryz.prog 213 #[v, .func (.func 181) #[] #[.pointer (some ⟨pc, 0, none⟩)]] w fun e w' => ∃ r : Int, e = .returned (.int .i64 r) ∧ (-1 ≤ r ∧ r ≤ 255) ∧ decide (0 ≤ r) = l.any (fun x => decide (x.1 = place)) ∧ Below w.heap.size w w' := by
  have HV := Lib.hid hv
  have HC := Lib.hid hc
  obtain ⟨av, cv, rfl⟩ : ∃ a c, v = .slice a l.length c := by
    rcases hv.2 with ⟨e, h0⟩ | ⟨g, cap, cur, e, _⟩
    · exact ⟨_, _, by rw [h0]; exact e⟩
    · exact ⟨_, _, e⟩
  obtain ⟨s, hs⟩ : ∃ s, w.heap.size = s := ⟨_, rfl⟩
  have HSS := Lib.hid hs
  clear hv hs hc
  go_enter Tryz.func213, Tryz.ntmps213
  go_wp2_with fail
  go_loopw [5, 8] (fun _ i w' => ∃ k : Nat, k ≤ l.length ∧ i = .int .i64 k ∧ Hid ((l.take k).any (fun x => decide (x.1 = place)) = false) ∧ Hid (Below s w w')) (fun _ i _ => l.length - (intOf i).toNat)
  case atStart => exact ⟨0, Nat.zero_le _, rfl, Lib.hid rfl, Lib.hid (by rw [← HSS.out]; exact Below.refl _ _)⟩
  case round =>
    obtain ⟨k, hk, rfl, HN, HB⟩ := hrel
    by_cases hlt : k < l.length
    · have hlti : (k : Int) < (l.length : Int) := by omega
      obtain ⟨g, rfl, c0, c1⟩ : ∃ g, av = some ⟨g, 0, none⟩ ∧ w.cell? ⟨g, k * 2, none⟩ = some (.int .i64 (l[k].1 : Int)) ∧ w.cell? ⟨g, k * 2 + 1, none⟩ = some (.string (bs l[k].2)) := by
        rcases HV.out.2 with ⟨_, h0⟩ | ⟨g, cp, cur, e, _, hg, _, _, _, htk⟩
        · omega
        · injection e with e1 _ _
          refine ⟨g, e1, ?_, ?_⟩
          · rw [Lib.cell_of_heap hg, ← Array.getElem?_toList, ← List.getElem?_take_of_lt (show k * 2 < l.length * 2 by omega), htk]; exact (recCells_at l k hlt).1
          · rw [Lib.cell_of_heap hg, ← Array.getElem?_toList, ← List.getElem?_take_of_lt (show k * 2 + 1 < l.length * 2 by omega), htk]; exact (recCells_at l k hlt).2
      have d0 : wr.cell? ⟨g, k * 2, none⟩ = some (.int .i64 (l[k].1 : Int)) := (HB.out.cell (by show g < s; rw [← HSS.out]; exact block_lt c0)).trans c0
      have d1 : wr.cell? ⟨g, k * 2 + 1, none⟩ = some (.string (bs l[k].2)) := (HB.out.cell (by show g < s; rw [← HSS.out]; exact block_lt c1)).trans c1
      have dc : wr.cell? ⟨pc, 0, none⟩ = some (.int .i64 place) := (HB.out.cell (by show pc < s; rw [← HSS.out]; exact block_lt HC.out)).trans HC.out
      have HX : Hid (∀ b : Bool, decide (l[k].1 = place) = b → (b = true → l.any (fun x => decide (x.1 = place)) = true) ∧ (b = false → (l.take (k + 1)).any (fun x => decide (x.1 = place)) = false)) := Lib.hid (fun b hb => ⟨fun e => any_hit hlt (by rw [hb, e]), fun e => any_take_succ hlt HN.out (by rw [hb, e])⟩)
      obtain ⟨x, ex⟩ : ∃ x, l[k] = x := ⟨_, rfl⟩
      rw [ex] at d0 d1 HX
      obtain ⟨P, T⟩ := x
      simp only at d0 d1
      have hcall := Lib.hid (has1_any P T pc place wr dc)
      have hsr : s ≤ wr.heap.size := by have := HB.out.size; have := HSS.out; omega
      clear ex c0 c1 dc HN
      cases hq : decide (P = place) with
      | true =>
        have HA := Lib.hid ((HX.out true hq).1 rfl)
        rw [hq] at hcall
        clear HX hq
        go_wp2_with (first | (go_at_call 181; refine hcall.out.mono ?_; rintro e w2 ⟨rfl, hb2⟩) | fail)
        go_ret
        exact ⟨_, rfl, by omega, by rw [HA.out]; simp, by rw [HSS.out]; exact HB.out.trans (hb2.mono hsr)⟩
      | false =>
        have HA := Lib.hid ((HX.out false hq).2 rfl)
        rw [hq] at hcall
        clear HX hq
        go_wp2_with (first | (go_at_call 181; refine hcall.out.mono ?_; rintro e w2 ⟨rfl, hb2⟩) | fail)
        exact ⟨⟨k + 1, by omega, by go_num, HA, Lib.hid (HB.out.trans (hb2.mono hsr))⟩, by simp [intOf]; omega⟩
    · have hk9 : k = l.length := by omega
      subst hk9
      rw [List.take_length] at HN
      go_wp2_with fail
      go_ret
      exact ⟨_, rfl, by omega, by rw [HN.out]; rfl, by rw [HSS.out]; exact HB.out⟩

set_option maxHeartbeats 1000000 in
theorem containsFunc_any (base : Nat) (l : List (Nat × List UInt8)) (v : Value) (pc place : Nat) (w : World) (hv : w.ownsRow base 152 2 v l.length (recCells l)) (hc : w.cell? ⟨pc, 0, none⟩ = some (.int .i64 place)) (hl : l.length ≤ 255) :
    Calls Tryz.prog 180 #[v, .func (.func 181) #[] #[.pointer (some ⟨pc, 0, none⟩)]] w fun e w' => e = .returned (.bool (l.any (fun x => decide (x.1 = place)))) ∧ Below w.heap.size w w' := by
  have hi := indexFunc_any base l v pc place w hv hc hl
  clear hv hc
  go_enter Tryz.func180, Tryz.ntmps180
  go_wp2_with fail
  refine hi.mono ?_
  rintro e w' ⟨r, rfl, hr, hd, hb⟩
  have HD := Lib.hid hd
  clear hd hi
  go_wp2_with fail
  go_ret
  exact ⟨by rw [← HD.out]; rfl, hb⟩

set_option maxHeartbeats 1000000 in
set_option maxRecDepth 100000 in
theorem hasAll_any (base q time : Nat) (frm body : List UInt8) (v vp : Value) (l : List (Nat × List UInt8)) (ps : List Nat) (x : Int × Int) (w : World) (h : BmAt w q time frm v body x) (hv : w.ownsRow base 152 2 v l.length (recCells l)) (hp : RowAt w vp ps.length 1 (natCells ps)) (hl : l.length ≤ 255) (hpl : ps.length ≤ 255) :
    Calls Tryz.prog 139 #[.pointer (some ⟨q, 0, none⟩), vp] w fun e w' => e = .returned (.bool (ps.all fun x => l.any fun r => decide (r.1 = x))) ∧ Below w.heap.size w w' := by
  obtain ⟨a, cap, rfl, hc⟩ := hp.one
  have HV := Lib.hid hv
  have HC := Lib.hid hc
  have HH := Lib.hid h
  obtain ⟨av, cv, rfl⟩ : ∃ a c, v = .slice a l.length c := by
    rcases hv.2 with ⟨e, h0⟩ | ⟨g, cap, cur, e, _⟩
    · exact ⟨_, _, by rw [h0]; exact e⟩
    · exact ⟨_, _, e⟩
  obtain ⟨s, hs⟩ : ∃ s, w.heap.size = s := ⟨_, rfl⟩
  have HSS := Lib.hid hs
  have hqs : q < s := by rw [← hs]; exact heap_lt h
  clear hv hs hc h hp
  go_enter Tryz.func139, Tryz.ntmps139
  go_wp2_with fail
  go_loopw [6, 9] (fun _ i w' => ∃ k : Nat, k ≤ ps.length ∧ i = .int .i64 k ∧ Hid ((ps.take k).all (fun x => l.any fun r => decide (r.1 = x)) = true) ∧ Hid (Below s w w')) (fun _ i _ => ps.length - (intOf i).toNat)
  case atStart => exact ⟨0, Nat.zero_le _, rfl, Lib.hid rfl, Lib.hid (by rw [← HSS.out]; exact Below.refl _ _)⟩
  case round =>
    obtain ⟨k, hk, rfl, HN, HB⟩ := hrel
    by_cases hlt : k < ps.length
    · have hlti : (k : Int) < (ps.length : Int) := by omega
      obtain ⟨b, off, rfl, hbw, hcell⟩ := HC.out k hlt
      rw [natCells_get ps k hlt] at hcell
      have d0 : wr.cell? ⟨b, off + k, none⟩ = some (.int .i64 (ps[k] : Int)) := (HB.out.cell (by show b < s; rw [← HSS.out]; exact hbw)).trans hcell
      have HX : Hid (∀ c : Bool, l.any (fun r => decide (r.1 = ps[k])) = c → (c = true → (ps.take (k + 1)).all (fun x => l.any fun r => decide (r.1 = x)) = true) ∧ (c = false → ps.all (fun x => l.any fun r => decide (r.1 = x)) = false)) := Lib.hid (fun c hc => ⟨fun e => by
          rw [List.take_succ_eq_append_getElem hlt, List.all_append, HN.out]
          simp only [List.all_cons, List.all_nil, Bool.and_true, Bool.true_and]
          rw [hc, e], fun e => by
          rw [List.all_eq_false]
          exact ⟨ps[k], List.getElem_mem hlt, by rw [hc, e]; simp⟩⟩)
      obtain ⟨P, eP⟩ : ∃ P, ps[k] = P := ⟨_, rfl⟩
      rw [eP] at d0 HX
      obtain ⟨W1, hW1⟩ : ∃ W1 : World, wr.alloc (.cells #[.int .i64 P] 3) = W1 := ⟨_, rfl⟩
      have hB1 : Below wr.heap.size wr W1 := by rw [← hW1]; exact (Below.refl _ _).alloc (Nat.le_refl _) _
      have hX1 : W1.heap[wr.heap.size]? = some (.cells #[.int .i64 P] 3 (0, 0)) := by rw [← hW1]; exact heap_alloc_new wr _
      have p0 : W1.cell? ⟨wr.heap.size, 0, none⟩ = some (.int .i64 P) := by rw [Lib.cell_of_heap hX1]; rfl
      have hsr : s ≤ wr.heap.size := by have := HB.out.size; have := HSS.out; omega
      have BW : Hid (Below s w W1) := Lib.hid (HB.out.trans (hB1.mono hsr))
      have k2 : ∀ o : Obj, (wr.alloc o).cell? ⟨q, 2, none⟩ = some (.slice av l.length cv) := fun o => by
        have := below_some (w := wr) ((Below.refl _ wr).alloc (Nat.le_refl _) o) (show wr.heap[q]? = some _ from (HB.out.block q hqs).trans HH.out)
        rw [Lib.cell_of_heap this]; rfl
      have hcall := Lib.hid (containsFunc_any base l _ wr.heap.size P W1 (ownsRow_keeps HV.out fun g cur e _ => below_some (by rw [HSS.out]; exact BW.out) e) p0 hl)
      have hs1 : s ≤ W1.heap.size := by have := hB1.size; omega
      have HW1 := Lib.hid hW1
      clear hW1 hB1 hX1 p0 eP hcell HN
      cases hq : l.any (fun r => decide (r.1 = P)) with
      | true =>
        have HA := Lib.hid ((HX.out true hq).1 rfl)
        rw [hq] at hcall
        clear HX hq
        go_wp2_with fail
        rw [HW1.out]
        refine hcall.out.mono ?_
        rintro e w2 ⟨rfl, hb2⟩
        go_wp2_with fail
        exact ⟨⟨k + 1, by omega, by go_num, HA, Lib.hid (BW.out.trans (hb2.mono hs1))⟩, by simp [intOf]; omega⟩
      | false =>
        have HA := Lib.hid ((HX.out false hq).2 rfl)
        rw [hq] at hcall
        clear HX hq
        go_wp2_with fail
        rw [HW1.out]
        refine hcall.out.mono ?_
        rintro e w2 ⟨rfl, hb2⟩
        go_wp2_with fail
        go_ret
        exact ⟨by rw [HA.out]; rfl, by rw [HSS.out]; exact BW.out.trans (hb2.mono hs1)⟩
    · have hk9 : k = ps.length := by omega
      subst hk9
      rw [List.take_length] at HN
      go_wp2_with fail
      go_ret
      exact ⟨by rw [HN.out]; rfl, by rw [HSS.out]; exact HB.out⟩
end Go.Proofs.YtadcidbeealdpaaGreatDoor

/- A mail more in the bag. -/
namespace Go.Proofs.YtadcidbeealdpaaGreatDoor
open Go.RowKit

theorem und_int : Tryz.prog.underlying 3 = some (.int .i64) := Tryz.underlying3
theorem zero_pmail (w : World) : (zeroValue 108).run Tryz.prog w = .ok (.pointer none) w := by kernel_rfl

theorem add_run {base pb mb Q : Nat} {q : Nat → Nat} {vr : Value} {S : PStore} {m : PMail} {W0 W1 w2 : World} (h : BagIn base W0 pb mb q vr S) (h1 : Same pb W0 W1) (_hp1 : W1.heap[pb]? = some (.cells #[vr, .int .i64 m.time, .int .i64 ((S.items.length : Int) + 1), .map (some mb)] 95 (0, 0))) (h2 : Below W1.heap.size W1 w2) (hid : m.id = S.items.length + 1) (hn : S.items.length < 4294967295) :
    (Instr.mapUpdate 93 (.map (some mb)) (.int .i64 m.id) (.pointer (some ⟨Q, 0, none⟩))).run Tryz.prog w2 = .ok () (ChangeMaps.setBlock w2 mb (.map (ents (fun i => if i = S.items.length then Q else q i) (S.live ++ [S.items.length])) (S.items.length + 1))) := by
  have hmb1 : W1.heap[mb]? = some (.map (ents q S.live) S.items.length) := same_some h1 h.map (fun e => by have := h.map; unfold MapIn at this; rw [e, h.bag] at this; simp at this)
  have hmb2 : MapIn w2 mb q S.live S.items.length := below_some h2 hmb1
  have := map_add (t := 93) (e := 108) und_int Tryz.underlying93 hmb2 (fun i hi => live_lt hi) hn Q (fun i => if i = S.items.length then Q else q i) (fun i hi => if_neg (by have := live_lt hi; omega)) (if_pos rfl)
  rw [hid]
  exact this
theorem added_below {base pb mb : Nat} {q : Nat → Nat} {vr : Value} {S : PStore} {W0 W1 w2 : World} (h : BagIn base W0 pb mb q vr S) (h1 : Same pb W0 W1) (h2 : Below W1.heap.size W1 w2) (o : Obj) : Below base W0 (ChangeMaps.setBlock w2 mb o) := by
  have hmb1 : W1.heap[mb]? = some (.map (ents q S.live) S.items.length) := same_some h1 h.map (fun e => by have := h.map; unfold MapIn at this; rw [e, h.bag] at this; simp at this)
  have hle : base ≤ W1.heap.size := by rw [h1.1]; exact h.le
  exact ((h1.below h.pbb).trans (h2.mono hle)).trans ((same_setBlock (below_some h2 hmb1) o).below h.mbb)

set_option maxHeartbeats 1000000 in
set_option maxRecDepth 100000 in
theorem bagAdd_any (base pb mb : Nat) (q : Nat → Nat) (vr : Value) (S : PStore) (m : PMail) (v : Value) (w : World) (h : BagIn base w pb mb q vr S) (B : Nat) (hv : w.ownsRow B 9 1 v m.tos.length (textCells m.tos)) (hz : MailSz m) (hid : m.id = S.items.length + 1) (ht : 1 ≤ m.tos.length) (hn : S.items.length < 4294967295) :
    Calls Tryz.prog 99 #[.pointer (some ⟨pb, 0, none⟩), .agg (mailCells m v)] w fun e w' => e = .returned (.tuple #[]) ∧ ∃ q', BagIn base w' pb mb q' vr (S.plus m) ∧ Below base w w' := by
  have HH := Lib.hid h
  have HV := Lib.hid hv
  have HZ := Lib.hid hz
  have hpb : ∀ o : Obj, (w.alloc o).heap[pb]? = some (.cells #[vr, .int .i64 S.time, .int .i64 S.items.length, .map (some mb)] 95 (0, 0)) := fun o => below_some ((Below.refl _ w).alloc (Nat.le_refl _) o) h.bag
  have c1 : ∀ o : Obj, (w.alloc o).cell? ⟨pb, 1, none⟩ = some (.int .i64 S.time) := fun o => by rw [Lib.cell_of_heap (hpb o)]; rfl
  have c2 : ∀ o : Obj, (w.alloc o).cell? ⟨pb, 2, none⟩ = some (.int .i64 S.items.length) := fun o => by rw [Lib.cell_of_heap (hpb o)]; rfl
  have c3 : ∀ o : Obj, (w.alloc o).cell? ⟨pb, 3, none⟩ = some (.map (some mb)) := fun o => by rw [Lib.cell_of_heap (hpb o)]; rfl
  have f1 : ∀ o : Obj, (w.alloc o).frozen? ⟨pb, 1, none⟩ = false := fun o => Lib.frozen_of_heap (hpb o) 1
  have f2 : ∀ o : Obj, (w.alloc o).frozen? ⟨pb, 2, none⟩ = false := fun o => Lib.frozen_of_heap (hpb o) 2
  have HPB := Lib.hid hpb
  obtain ⟨s, hs⟩ : ∃ s, w.heap.size = s := ⟨_, rfl⟩
  have hps : pb ≠ s := by have := h.pblt; omega
  have HSS := Lib.hid hs
  unfold mailCells
  have HID := Lib.hid hid
  clear h hv hz hpb hs hid
  go_enter Tryz.func99, Tryz.ntmps99
  go_wp2_with fail
  obtain ⟨W1, hW1⟩ : ∃ W1 : World, (((w.alloc (.cells #[.int .i64 m.id, .int .i64 m.time, .string (bs m.frm), v, .string (bs m.body)] 54)).setCell ⟨pb, 2, none⟩ (.int .i64 m.id)).setCell ⟨pb, 1, none⟩ (.int .i64 m.time)) = W1 := ⟨_, rfl⟩
  rw [hW1]
  obtain ⟨W0, hW0⟩ : ∃ W0 : World, w.alloc (.cells #[.int .i64 m.id, .int .i64 m.time, .string (bs m.frm), v, .string (bs m.body)] 54) = W0 := ⟨_, rfl⟩
  have B0 : Below w.heap.size w W0 := by rw [← hW0]; exact (Below.refl _ _).alloc (Nat.le_refl _) _
  have A0 : BagIn base W0 pb mb q vr S := HH.out.keep B0
  have X0 : W0.heap[w.heap.size]? = some (.cells #[.int .i64 m.id, .int .i64 m.time, .string (bs m.frm), v, .string (bs m.body)] 54 (0, 0)) := by rw [← hW0]; exact heap_alloc_new w _
  have S1 : Same pb W0 W1 := by rw [← hW1, hW0]; exact ((Same.refl pb W0).setCell _).setCell _
  have P1 : W1.heap[pb]? = some (.cells #[vr, .int .i64 m.time, .int .i64 ((S.items.length : Int) + 1), .map (some mb)] 95 (0, 0)) := by
    rw [← hW1, hW0]
    have := heap_setCell_same _ pb 1 _ _ (.int .i64 m.time) (heap_setCell_same W0 pb 2 _ _ (.int .i64 m.id) A0.bag)
    refine Eq.trans this ?_
    rw [HID.out]
    rfl
  have X1 : W1.heap[w.heap.size]? = some (.cells #[.int .i64 m.id, .int .i64 m.time, .string (bs m.frm), v, .string (bs m.body)] 54 (0, 0)) := same_some S1 X0 (by rw [HSS.out]; exact fun e => hps e.symm)
  have d3 : W1.drew.cell? ⟨pb, 3, none⟩ = some (.map (some mb)) := by show W1.cell? _ = _; rw [Lib.cell_of_heap P1]; rfl
  have e0 : W1.drew.cell? ⟨w.heap.size, 0, none⟩ = some (.int .i64 m.id) := by show W1.cell? _ = _; rw [Lib.cell_of_heap X1]; rfl
  have e1 : W1.drew.cell? ⟨w.heap.size, 1, none⟩ = some (.int .i64 m.time) := by show W1.cell? _ = _; rw [Lib.cell_of_heap X1]; rfl
  have e2 : W1.drew.cell? ⟨w.heap.size, 2, none⟩ = some (.string (bs m.frm)) := by show W1.cell? _ = _; rw [Lib.cell_of_heap X1]; rfl
  have e3 : W1.drew.cell? ⟨w.heap.size, 3, none⟩ = some v := by show W1.cell? _ = _; rw [Lib.cell_of_heap X1]; rfl
  have e4 : W1.drew.cell? ⟨w.heap.size, 4, none⟩ = some (.string (bs m.body)) := by show W1.cell? _ = _; rw [Lib.cell_of_heap X1]; rfl
  have hv1 : RowAt W1.drew v m.tos.length 1 (textCells m.tos) := row_of_own' (ownsRow_keeps HV.out fun g cur e _ => same_some (S1.drew) (below_some B0 e) (fun e' => by rw [e', HH.out.bag] at e; simp at e))
  have HNM := Lib.hid (newMail_any m v W1.drew hv1 HZ.out)
  have HW1 := Lib.hid (show W1.drew.heap[pb]? = _ from P1)
  have HS1 := Lib.hid S1.drew
  have HA0 := Lib.hid A0
  have HX1 := Lib.hid (show W1.drew.heap[w.heap.size]? = _ from X1)
  have HLW := Lib.hid (B0.mono HH.out.le)
  clear c1 c2 c3 f1 f2 hW1 hW0 P1 S1 A0 X1 X0 B0 hv1
  go_region_law (first
    | (go_simp; go_at_call 137; refine HNM.out.mono ?_; rintro e w2 ⟨Q, g, rfl, hm, hq, hr, hb⟩; have d3' : w2.cell? ⟨pb, 3, none⟩ = some (.map (some mb)) := (by rw [Lib.cell_of_heap (below_some hb HW1.out)]; rfl); have e0' : w2.cell? ⟨w.heap.size, 0, none⟩ = some (.int .i64 m.id) := (by rw [Lib.cell_of_heap (below_some hb HX1.out)]; rfl); have hmu := add_run (Q := Q) HA0.out HS1.out HW1.out hb HID.out hn; have HR := Lib.hid (HA0.out.added HS1.out HW1.out hb hq hm hr ht); have HL := Lib.hid (added_below HA0.out HS1.out hb); clear hm hq hr hb))
  all_goals
    refine bodyPost_end (results_none rfl _ _ _) rfl ?_
    exact ⟨rfl, _, HR.out, (HLW.out).trans (HL.out _)⟩
end Go.Proofs.YtadcidbeealdpaaGreatDoor

/- May they leave? -/
namespace Go.Proofs.YtadcidbeealdpaaGreatDoor
open Go.RowKit

set_option maxHeartbeats 1000000 in
set_option maxRecDepth 100000 in
theorem mayLeave_any (base pb mb : Nat) (q : Nat → Nat) (vr vp : Value) (S : PStore) (id : Nat) (ps : List Nat) (w : World) (h : BagIn base w pb mb q vr S) (hok : S.Ok) (hp : RowAt w vp ps.length 1 (natCells ps)) (hid : id ≤ 4294967295) (h1 : 1 ≤ ps.length) (hpl : ps.length ≤ 255) (hn : S.items.length ≤ 4294967295) :
    Calls Tryz.prog 101 #[.pointer (some ⟨pb, 0, none⟩), .agg #[.int .i64 id, vp]] w fun e w' => e = .returned (.bool (mayLeaveB S id ps)) ∧ Below w.heap.size w w' := by
  rw [mayLeave_live h1]
  obtain ⟨W0, hW0⟩ : ∃ W0 : World, w.alloc (.cells #[.int .i64 id, vp] 140) = W0 := ⟨_, rfl⟩
  have B0 : Below w.heap.size w W0 := by rw [← hW0]; exact (Below.refl _ _).alloc (Nat.le_refl _) _
  have A0 : BagIn base W0 pb mb q vr S := h.keep B0
  have X0 : W0.heap[w.heap.size]? = some (.cells #[.int .i64 id, vp] 140 (0, 0)) := by rw [← hW0]; exact heap_alloc_new w _
  have c3 : W0.drew.cell? ⟨pb, 3, none⟩ = some (.map (some mb)) := by show W0.cell? _ = _; rw [Lib.cell_of_heap A0.bag]; rfl
  have e0 : W0.drew.cell? ⟨w.heap.size, 0, none⟩ = some (.int .i64 id) := by show W0.cell? _ = _; rw [Lib.cell_of_heap X0]; rfl
  have e1 : W0.drew.cell? ⟨w.heap.size, 1, none⟩ = some vp := by show W0.cell? _ = _; rw [Lib.cell_of_heap X0]; rfl
  have hl32 : ∀ i ∈ S.live, i < 4294967296 := fun i hi => by have := live_lt hi; omega
  have hM : MapIn W0.drew mb q S.live S.items.length := A0.map
  have HW0 := Lib.hid hW0
  have HB0 := Lib.hid B0
  by_cases hm : 1 ≤ id ∧ id - 1 ∈ S.live
  · have hlk : (Instr.lookup 93 (.map (some mb)) (.int .i64 id) true).run Tryz.prog W0.drew = .ok (.tuple #[.pointer (some ⟨q (id - 1), 0, none⟩), .bool true]) W0.drew := by
      have := map_look (t := 93) (e := 108) und_int Tryz.underlying93 hM hl32 (id - 1) (by omega) hm.2 true
      rw [show ((id - 1 : Nat) : Int) + 1 = (id : Int) by omega] at this
      exact this
    rw [decide_eq_true hm, Bool.true_and]
    obtain ⟨_, v, x, hb, hr⟩ := A0.mail (id - 1) hm.2
    have HHA := Lib.hid (hasAll_any base (q (id - 1)) _ _ _ v vp (S.stayOf (id - 1)) ps x W0.drew hb hr (hp.below B0.drew) (by have := stayOf_le hok (id - 1); omega) hpl)
    clear hb hr A0 X0 B0 hM hl32 hp h hW0
    go_enter Tryz.func101, Tryz.ntmps101
    go_wp2_with fail
    rw [HW0.out]
    go_region
    all_goals
      go_wp2_with fail
      refine HHA.out.mono ?_
      rintro e w2 ⟨rfl, hb2⟩
      go_wp2_with fail
      go_ret
      exact ⟨rfl, HB0.out.trans ((show Below W0.heap.size W0 w2 from ⟨hb2.os, hb2.tape, hb2.output, hb2.size, hb2.block⟩).mono HB0.out.size)⟩
  · have hno : id = 0 ∨ id - 1 ∉ S.live := by
      by_cases e : id = 0
      · exact .inl e
      · exact .inr fun h => hm ⟨by omega, h⟩
    have hlk : (Instr.lookup 93 (.map (some mb)) (.int .i64 id) true).run Tryz.prog W0.drew = .ok (.tuple #[.pointer none, .bool false]) W0.drew := by
      by_cases e : id = 0
      · subst e
        exact map_look_zero (t := 93) (e := 108) und_int Tryz.underlying93 (zero_pmail _) hM hl32 true
      · have := map_look_no (t := 93) (e := 108) und_int Tryz.underlying93 (zero_pmail _) hM hl32 (id - 1) (by omega) (hno.resolve_left e) true
        rw [show ((id - 1 : Nat) : Int) + 1 = (id : Int) by omega] at this
        exact this
    rw [decide_eq_false hm, Bool.false_and]
    clear A0 X0 B0 hM hl32 hp h hW0 hno hm
    go_enter Tryz.func101, Tryz.ntmps101
    go_wp2_with fail
    rw [HW0.out]
    go_region
    all_goals
      go_wp2_with fail
      go_ret
      exact ⟨rfl, HB0.out.drew⟩
end Go.Proofs.YtadcidbeealdpaaGreatDoor

/- They leave. -/
namespace Go.Proofs.YtadcidbeealdpaaGreatDoor
open Go.RowKit

theorem but_drew {p : Nat} {w w' : World} (h : But p w.drew w') : But p w w' := ⟨h.size, h.block, h.still⟩
set_option maxHeartbeats 1000000 in
set_option maxRecDepth 100000 in
theorem bagLeave_any (base pb mb : Nat) (q : Nat → Nat) (vr vp : Value) (S : PStore) (K : Nat) (ps : List Nat) (w : World) (h : BagIn base w pb mb q vr S) (hok : S.Ok) (hp : RowAt w vp ps.length 1 (natCells ps)) (hK : K ∈ S.live) (hpl : ps.length ≤ 255) (hn : S.items.length ≤ 4294967295) :
    Calls Tryz.prog 102 #[.pointer (some ⟨pb, 0, none⟩), .agg #[.int .i64 ((K : Int) + 1), vp]] w fun e w' => ∃ vn, e = .returned vn ∧ w'.ownsRow w.heap.size 9 1 vn (gonesOf (S.stayOf K) ps).length (textCells (gonesOf (S.stayOf K) ps)) ∧ BagIn base w' pb mb q vr (S.outs K ps) ∧ Below base w w' := by
  have hle := h.le
  obtain ⟨W0, hW0⟩ : ∃ W0 : World, w.alloc (.cells #[.int .i64 ((K : Int) + 1), vp] 140) = W0 := ⟨_, rfl⟩
  have B0 : Below w.heap.size w W0 := by rw [← hW0]; exact (Below.refl _ _).alloc (Nat.le_refl _) _
  have A0 : BagIn base W0 pb mb q vr S := h.keep B0
  have X0 : W0.heap[w.heap.size]? = some (.cells #[.int .i64 ((K : Int) + 1), vp] 140 (0, 0)) := by rw [← hW0]; exact heap_alloc_new w _
  have c3 : W0.drew.cell? ⟨pb, 3, none⟩ = some (.map (some mb)) := by show W0.cell? _ = _; rw [Lib.cell_of_heap A0.bag]; rfl
  have e0 : W0.drew.cell? ⟨w.heap.size, 0, none⟩ = some (.int .i64 ((K : Int) + 1)) := by show W0.cell? _ = _; rw [Lib.cell_of_heap X0]; rfl
  have e1 : W0.drew.cell? ⟨w.heap.size, 1, none⟩ = some vp := by show W0.cell? _ = _; rw [Lib.cell_of_heap X0]; rfl
  have hl32 : ∀ i ∈ S.live, i < 4294967296 := fun i hi => by have := live_lt hi; omega
  have hM : MapIn W0.drew mb q S.live S.items.length := A0.map
  have hKn := live_lt hK
  have hlk : (Instr.lookup 93 (.map (some mb)) (.int .i64 ((K : Int) + 1)) false).run Tryz.prog W0.drew = .ok (.pointer (some ⟨q K, 0, none⟩)) W0.drew :=
    map_look (t := 93) (e := 108) und_int Tryz.underlying93 hM hl32 K (by omega) hK false
  obtain ⟨hqb, v, x, hb, hr⟩ := A0.mail K hK
  have HLV := Lib.hid (mailLeave_any base (q K) _ _ _ v vp (S.stayOf K) ps x W0.drew hb hqb hr (hp.below B0.drew) (by have := stayOf_le hok K; omega) hpl)
  have HA0 := Lib.hid A0
  have HB0 := Lib.hid B0
  have HW0 := Lib.hid hW0
  have HX0 := Lib.hid X0
  have HHB := Lib.hid hb
  have HL := Lib.hid hl32
  have hne : q K ≠ w.heap.size := fun e => by unfold BmAt at hb; rw [e, X0] at hb; simp at hb
  clear hb hr A0 X0 B0 hM hl32 hp h hW0
  go_enter Tryz.func102, Tryz.ntmps102
  go_wp2_with fail
  rw [HW0.out]
  go_region
  all_goals
    go_wp2_with fail
    refine HLV.out.mono ?_
    rintro e w2 ⟨vn, vs, rfl, hvn, hbm, hvs, hbut⟩
    obtain ⟨gs, cs, es⟩ : ∃ a c, vs = .slice a (staysOf (S.stayOf K) ps).length c := by
      rcases hvs.2 with ⟨e, h0⟩ | ⟨g, cap, cur, e, _⟩
      · exact ⟨_, _, by rw [h0]; exact e⟩
      · exact ⟨_, _, e⟩
    subst es
    have hbut0 : But (q K) W0 w2 := but_drew hbut
    have f2 : w2.cell? ⟨q K, 2, none⟩ = some (.slice gs (staysOf (S.stayOf K) ps).length cs) := by rw [Lib.cell_of_heap hbm]; rfl
    have HB2 : Hid (Below base w w2) := Lib.hid ((HB0.out.mono hle).trans (hbut0.below hqb HA0.out.le))
    by_cases hs : staysOf (S.stayOf K) ps = []
    · obtain ⟨m1, A2⟩ := HA0.out.emptied hK hbut0 hs
      have hlen : (staysOf (S.stayOf K) ps).length = 0 := by rw [hs]; rfl
      have hdel0 : ∀ ty : TypeId, (Builtin.delete_ #[93, 3] ty #[.map (some mb), .int .i64 ((K : Int) + 1)]).run Tryz.prog w2.drew = .ok (.tuple #[]) (ChangeMaps.setBlock w2.drew mb (.map (ents q (S.live.filter fun i => decide (i ≠ K))) S.items.length)) := fun ty =>
        map_drop (t := 93) (e := 108) und_int Tryz.underlying93 (w := w2.drew) (c := S.items.length) m1 HL.out (live_nodup S) K (by omega) hK
      have A3 : Hid (BagIn base (ChangeMaps.setBlock w2.drew mb (.map (ents q (S.live.filter fun i => decide (i ≠ K))) S.items.length)) pb mb q vr (S.outs K ps)) := Lib.hid ⟨A2.bag, A2.map, A2.pbb, A2.mbb, A2.one, A2.mail⟩
      have S3 := same_setBlock (w := w2.drew) m1 (.map (ents q (S.live.filter fun i => decide (i ≠ K))) S.items.length)
      have hvn3 := Lib.hid (ownsRow_keeps (w := w2.drew) hvn.drew fun g cur e _ => same_some S3 e fun e' => by rw [e'] at e; rw [show w2.drew.heap[mb]? = _ from m1] at e; simp at e)
      have HB3 := Lib.hid (HB2.out.drew.trans (S3.below HA0.out.mbb))
      obtain ⟨w3, hw3⟩ : ∃ w3, ChangeMaps.setBlock w2.drew mb (.map (ents q (S.live.filter fun i => decide (i ≠ K))) S.items.length) = w3 := ⟨_, rfl⟩
      rw [hw3] at A3 hvn3 HB3
      have hdel : ∀ ty : TypeId, (Builtin.delete_ #[93, 3] ty #[.map (some mb), .int .i64 ((K : Int) + 1)]).run Tryz.prog w2.drew = .ok (.tuple #[]) w3 := fun ty => by rw [hdel0 ty, hw3]
      have c3' : w2.drew.cell? ⟨pb, 3, none⟩ = some (.map (some mb)) := by
        show w2.cell? _ = _
        rw [Lib.cell_of_heap (but_some hbut0 HA0.out.bag (fun e => by have := HHB.out; unfold BmAt at this; rw [← e, HA0.out.bag] at this; simp at this))]; rfl
      have e0' : w2.drew.cell? ⟨w.heap.size, 0, none⟩ = some (.int .i64 ((K : Int) + 1)) := by
        show w2.cell? _ = _
        rw [Lib.cell_of_heap (but_some hbut0 HX0.out (fun e => hne e.symm))]; rfl
      rw [hlen] at f2
      clear hbut hbut0 hbm hvs hvn A2 m1 S3 HB2 hlen hw3 hdel0
      go_wp2_with fail
      go_region
      all_goals
        go_wp2_with fail
        go_ret
        exact ⟨vn, rfl, hvn3.out.mono (by have := HB0.out.size; exact this), A3.out, HB3.out⟩
    · have A2 := Lib.hid (HA0.out.left hK hbut0 hbm hvs hs)
      have hlen : (((staysOf (S.stayOf K) ps).length : Int) == 0) = false := by
        rw [beq_eq_false_iff_ne]
        intro e
        exact hs (List.eq_nil_of_length_eq_zero (by omega))
      have HVN := Lib.hid hvn
      clear hbut hbut0 hbm hvs hvn
      go_wp2_with fail
      go_ret
      exact ⟨vn, rfl, HVN.out.mono (by have := HB0.out.size; exact this), A2.out, HB2.out⟩
end Go.Proofs.YtadcidbeealdpaaGreatDoor

/- A mail's record is taken. -/
namespace Go.Proofs.YtadcidbeealdpaaGreatDoor
open Go.RowKit

def TakePost (base pb mb : Nat) (q : Nat → Nat) (vr : Value) (S : PStore) (o : Option PStore) (w : World) (e : Ending) (w' : World) : Prop :=
  ((o = none ∧ e = .returned (.bool false) ∧ BagIn base w' pb mb q vr S) ∨ ∃ S' q', o = some S' ∧ e = .returned (.bool true) ∧ BagIn base w' pb mb q' vr S') ∧ Below base w w'
theorem BagIn.drewN {base pb mb : Nat} {q : Nat → Nat} {vr : Value} {S : PStore} {w : World} (h : BagIn base w pb mb q vr S) (n : Nat) : BagIn base (w.drewN n) pb mb q vr S := h.keep (below_drewN n _ _)
set_option maxHeartbeats 1000000 in
set_option maxRecDepth 100000 in
theorem takeMail_any (base pb mb : Nat) (q : Nat → Nat) (vr : Value) (S : PStore) (m : PMail) (v : Value) (w : World) (h : BagIn base w pb mb q vr S) (B : Nat) (hv : w.ownsRow B 9 1 v m.tos.length (textCells m.tos)) (hz : MailSz m) (ht : 1 ≤ m.tos.length) (hn : S.items.length < 4294967295) :
    Calls Tryz.prog 60 #[.pointer (some ⟨pb, 0, none⟩), .agg (mailCells m v)] w (TakePost base pb mb q vr S (S.takesM m) w) := by
  have hle := h.le
  obtain ⟨W0, hW0⟩ : ∃ W0 : World, w.alloc (.cells #[.int .i64 m.id, .int .i64 m.time, .string (bs m.frm), v, .string (bs m.body)] 54) = W0 := ⟨_, rfl⟩
  have B0 : Below w.heap.size w W0 := by rw [← hW0]; exact (Below.refl _ _).alloc (Nat.le_refl _) _
  have A0 : BagIn base W0 pb mb q vr S := h.keep B0
  have X0 : W0.heap[w.heap.size]? = some (.cells #[.int .i64 m.id, .int .i64 m.time, .string (bs m.frm), v, .string (bs m.body)] 54 (0, 0)) := by rw [← hW0]; exact heap_alloc_new w _
  have c1 : W0.cell? ⟨pb, 1, none⟩ = some (.int .i64 S.time) := by rw [Lib.cell_of_heap A0.bag]; rfl
  have c2 : W0.cell? ⟨pb, 2, none⟩ = some (.int .i64 S.items.length) := by rw [Lib.cell_of_heap A0.bag]; rfl
  have e0 : W0.cell? ⟨w.heap.size, 0, none⟩ = some (.int .i64 m.id) := by rw [Lib.cell_of_heap X0]; rfl
  have e1 : W0.cell? ⟨w.heap.size, 1, none⟩ = some (.int .i64 m.time) := by rw [Lib.cell_of_heap X0]; rfl
  have e2 : W0.cell? ⟨w.heap.size, 2, none⟩ = some (.string (bs m.frm)) := by rw [Lib.cell_of_heap X0]; rfl
  have e3 : W0.cell? ⟨w.heap.size, 3, none⟩ = some v := by rw [Lib.cell_of_heap X0]; rfl
  have e4 : W0.cell? ⟨w.heap.size, 4, none⟩ = some (.string (bs m.body)) := by rw [Lib.cell_of_heap X0]; rfl
  have HA0 := Lib.hid A0
  have HB0 := Lib.hid B0
  have HW0 := Lib.hid hW0
  have HV := Lib.hid (ownsRow_keeps hv fun g cur e _ => below_some B0 e)
  have HZ := Lib.hid hz
  unfold mailCells
  clear A0 X0 B0 h hW0 hv
  have hw : IntKind.i64.wrap ((S.items.length : Int) + 1) = (S.items.length : Int) + 1 := by rw [IntKind.wrap_i64]; omega
  by_cases h1 : m.id = S.items.length + 1
  · by_cases h2 : S.time ≤ m.time
    · have HT : Hid (S.takesM m = some (S.plus m)) := Lib.hid (by unfold PStore.takesM PStore.plus; rw [decide_eq_true h1, decide_eq_true h2]; rfl)
      have t1 : ((m.id : Int) != (S.items.length : Int) + 1) = false := by rw [h1]; simp
      have t2 : ¬ m.time < S.time := by omega
      have H1 := Lib.hid h1
      clear h1 h2
      go_enter Tryz.func60, Tryz.ntmps60
      go_wp2_with fail
      rw [HW0.out]
      go_quiet (fail)
      go_wp2_with fail
      refine (bagAdd_any base pb mb q vr S m v _ (HA0.out.drewN _) B (ownsRow_keeps HV.out fun g cur e _ => below_some (below_drewN _ _ _) e) HZ.out H1.out ht hn).mono ?_
      rintro e w2 ⟨rfl, q', A2, B2⟩
      go_wp2_with fail
      go_ret
      exact ⟨.inr ⟨_, q', HT.out, rfl, A2⟩, ((HB0.out.mono hle).trans (below_drewN _ _ _)).trans B2⟩
    · have HT : Hid (S.takesM m = none) := Lib.hid (by unfold PStore.takesM; rw [decide_eq_false h2, Bool.and_false]; rfl)
      have t1 : ((m.id : Int) != (S.items.length : Int) + 1) = false := by rw [h1]; simp
      have t2 : m.time < S.time := by omega
      clear h1 h2
      go_enter Tryz.func60, Tryz.ntmps60
      go_wp2_with fail
      rw [HW0.out]
      go_quiet (fail)
      go_wp2_with fail
      go_ret
      exact ⟨.inl ⟨HT.out, rfl, HA0.out.drewN _⟩, (HB0.out.mono hle).trans (below_drewN _ _ _)⟩
  · have HT : Hid (S.takesM m = none) := Lib.hid (by unfold PStore.takesM; rw [decide_eq_false h1, Bool.false_and]; rfl)
    have t1 : ((m.id : Int) != (S.items.length : Int) + 1) = true := by rw [bne_iff_ne]; omega
    clear h1
    go_enter Tryz.func60, Tryz.ntmps60
    go_wp2_with fail
    rw [HW0.out]
    go_quiet (fail)
    go_wp2_with fail
    go_ret
    exact ⟨.inl ⟨HT.out, rfl, HA0.out.drewN _⟩, (HB0.out.mono hle).trans (below_drewN _ _ _)⟩
end Go.Proofs.YtadcidbeealdpaaGreatDoor
