import Derived.Test.YtgjjjdccbpjnfaaGreatDoorS16
import Derived.Test.YtgjjjdccbpjnfaaGreatDoorS19
import Derived.Maps.OwnSet
import Derived.WalkArith

/- Plain mathematics: which mails still have somebody, and what becomes of them. -/
namespace Go.Proofs.YtgjjjdccbpjnfaaGreatDoor

def PStore.stayOf (S : PStore) (i : Nat) : List (Nat × List UInt8) := stay (S.mailOf i).tos (S.outOf i)
/-- the mails that still have recipients, by their numbers from 0 on -/
def PStore.live (S : PStore) : List Nat := (List.range S.items.length).filter fun i => !(S.stayOf i).isEmpty
def PStore.plus (S : PStore) (m : PMail) : PStore := ⟨S.items ++ [⟨m, List.replicate m.tos.length false⟩], m.time⟩

theorem mailOf_lt {S : PStore} {i : Nat} (h : i < S.items.length) : S.mailOf i = S.items[i].m := by
  unfold PStore.mailOf
  rw [List.getElem?_eq_getElem h]; rfl
theorem outOf_lt {S : PStore} {i : Nat} (h : i < S.items.length) : S.outOf i = S.items[i].out := by
  unfold PStore.outOf
  rw [List.getD_eq_getElem?_getD, List.getElem?_map, List.getElem?_eq_getElem h]; rfl
theorem stayOf_lt {S : PStore} {i : Nat} (h : i < S.items.length) : S.stayOf i = stay S.items[i].m.tos S.items[i].out := by
  unfold PStore.stayOf
  rw [mailOf_lt h, outOf_lt h]
theorem stayOf_ge {S : PStore} {i : Nat} (h : S.items.length ≤ i) : S.stayOf i = [] := by
  unfold PStore.stayOf PStore.outOf
  rw [List.getD_eq_getElem?_getD, List.getElem?_eq_none (by rw [List.length_map]; exact h)]
  rfl
theorem mem_live {S : PStore} {i : Nat} : i ∈ S.live ↔ i < S.items.length ∧ S.stayOf i ≠ [] := by
  unfold PStore.live
  rw [List.mem_filter, List.mem_range]
  simp
theorem live_nodup (S : PStore) : S.live.Nodup := List.Pairwise.filter _ List.nodup_range
theorem live_lt {S : PStore} {i : Nat} (h : i ∈ S.live) : i < S.items.length := (mem_live.1 h).1
theorem live_of {S : PStore} {i : Nat} (h : S.stayOf i ≠ []) : i ∈ S.live := by
  refine mem_live.2 ⟨?_, h⟩
  rcases Nat.lt_or_ge i S.items.length with h' | h'
  · exact h'
  · exact absurd (stayOf_ge h') h

/-! one mail more -/
theorem plus_len (S : PStore) (m : PMail) : (S.plus m).items.length = S.items.length + 1 := by simp [PStore.plus]
theorem plus_mailOf {S : PStore} {m : PMail} {i : Nat} (h : i < S.items.length) : (S.plus m).mailOf i = S.mailOf i := by
  rw [mailOf_lt h, mailOf_lt (by rw [plus_len]; omega)]
  simp only [PStore.plus]
  rw [List.getElem_append_left h]
theorem plus_stayOf {S : PStore} {m : PMail} {i : Nat} (h : i < S.items.length) : (S.plus m).stayOf i = S.stayOf i := by
  rw [stayOf_lt h, stayOf_lt (by rw [plus_len]; omega)]
  simp only [PStore.plus]
  rw [List.getElem_append_left h]
theorem plus_mailOf_new (S : PStore) (m : PMail) : (S.plus m).mailOf S.items.length = m := by
  rw [mailOf_lt (by rw [plus_len]; omega)]
  simp [PStore.plus]
theorem plus_stayOf_new (S : PStore) (m : PMail) : (S.plus m).stayOf S.items.length = stay m.tos (List.replicate m.tos.length false) := by
  rw [stayOf_lt (by rw [plus_len]; omega)]
  simp [PStore.plus]
theorem stay_all_ne {m : PMail} (h : 1 ≤ m.tos.length) : stay m.tos (List.replicate m.tos.length false) ≠ [] := by
  rw [stay_all]
  intro e
  have := congrArg List.length e
  simp only [List.length_map, List.length_range, List.length_nil] at this
  omega
theorem plus_live {S : PStore} {m : PMail} (h : 1 ≤ m.tos.length) : (S.plus m).live = S.live ++ [S.items.length] := by
  unfold PStore.live
  rw [plus_len, List.range_succ, List.filter_append]
  congr 1
  · apply List.filter_congr
    intro i hi
    rw [plus_stayOf (List.mem_range.1 hi)]
  · rw [List.filter_cons, plus_stayOf_new, if_pos]
    · rfl
    · have := stay_all_ne h
      simpa using this

/-! somebody leaves -/
theorem outs_len (S : PStore) (K : Nat) (ps : List Nat) : (S.outs K ps).items.length = S.items.length := by simp [PStore.outs]
theorem outs_mailOf (S : PStore) (K : Nat) (ps : List Nat) (i : Nat) : (S.outs K ps).mailOf i = S.mailOf i := by
  unfold PStore.mailOf PStore.outs
  rw [List.getElem?_modify]
  by_cases h : K = i
  · subst h
    cases S.items[K]? <;> simp
  · simp [h]
theorem outs_stayOf_ne {S : PStore} {K i : Nat} {ps : List Nat} (h : i ≠ K) : (S.outs K ps).stayOf i = S.stayOf i := by
  unfold PStore.stayOf
  rw [outs_mailOf]
  congr 1
  unfold PStore.outOf PStore.outs
  rw [List.getD_eq_getElem?_getD, List.getD_eq_getElem?_getD, List.getElem?_map, List.getElem?_map, List.getElem?_modify]
  simp [Ne.symm h]
theorem outs_stayOf {S : PStore} {K : Nat} {ps : List Nat} (h : K < S.items.length) : (S.outs K ps).stayOf K = staysOf (S.stayOf K) ps := by
  rw [stayOf_lt (by rw [outs_len]; exact h), stayOf_lt h]
  unfold staysOf
  rw [← stay_outSet]
  have e1 : (S.outs K ps).items[K]'(by rw [outs_len]; exact h) = ⟨S.items[K].m, outSet S.items[K].out ps⟩ := by
    simp [PStore.outs]
  rw [e1]
theorem outs_live_some {S : PStore} {K : Nat} {ps : List Nat} (h : K ∈ S.live) (hs : staysOf (S.stayOf K) ps ≠ []) : (S.outs K ps).live = S.live := by
  unfold PStore.live
  rw [outs_len]
  apply List.filter_congr
  intro i hi
  by_cases e : i = K
  · subst e
    have := (mem_live.1 h).2
    rw [outs_stayOf (live_lt h)]
    rw [Bool.eq_iff_iff]
    simp [hs, this]
  · rw [outs_stayOf_ne e]
theorem outs_live_none {S : PStore} {K : Nat} {ps : List Nat} (h : K ∈ S.live) (hs : staysOf (S.stayOf K) ps = []) : (S.outs K ps).live = S.live.filter fun i => decide (i ≠ K) := by
  unfold PStore.live
  rw [outs_len, List.filter_filter]
  apply List.filter_congr
  intro i hi
  by_cases e : i = K
  · subst e
    rw [outs_stayOf (live_lt h), hs]
    simp
  · rw [outs_stayOf_ne e]
    simp [e]
/-- who may leave, in the program's way -/
theorem mayLeave_live {S : PStore} {id : Nat} {ps : List Nat} (hp : 1 ≤ ps.length) : mayLeaveB S id ps = (decide (1 ≤ id ∧ id - 1 ∈ S.live) && ps.all fun x => (S.stayOf (id - 1)).any fun r => decide (r.1 = x)) := by
  unfold mayLeaveB PStore.stayOf
  simp only [stay_has]
  obtain ⟨B, eB⟩ : ∃ B, (ps.all fun x => decide (x < (S.outOf (id - 1)).length) && !((S.outOf (id - 1)).getD x false)) = B := ⟨_, rfl⟩
  rw [eB]
  cases B with
  | false => simp
  | true =>
    rw [Bool.and_true, Bool.and_true, Bool.eq_iff_iff]
    simp only [Bool.and_eq_true, decide_eq_true_eq]
    constructor
    · rintro ⟨h1, h2⟩
      refine ⟨h1, mem_live.2 ⟨by omega, ?_⟩⟩
      obtain ⟨x, hx⟩ : ∃ x, x ∈ ps := by
        cases ps with
        | nil => simp at hp
        | cons x l => exact ⟨x, by simp⟩
      have := List.all_eq_true.1 eB x hx
      rw [← stay_has (S.mailOf (id - 1)).tos] at this
      intro e
      unfold PStore.stayOf at e
      rw [e] at this
      simp at this
    · rintro ⟨h1, h2⟩
      have := live_lt h2
      exact ⟨h1, by omega⟩
/-- the plain invariants of a store -/
structure PStore.Ok (S : PStore) : Prop where
  id : ∀ i (h : i < S.items.length), S.items[i].m.id = i + 1
  sz : ∀ x ∈ S.items, MailSz x.m ∧ 1 ≤ x.m.tos.length ∧ x.m.tos.length ≤ 10 ∧ x.out.length = x.m.tos.length
theorem PStore.Ok.nil (T : Nat) : PStore.Ok ⟨[], T⟩ := ⟨fun i h => by simp at h, fun x h => by simp at h⟩
theorem PStore.Ok.plus {S : PStore} (h : S.Ok) {m : PMail} (hi : m.id = S.items.length + 1) (hz : MailSz m) (h1 : 1 ≤ m.tos.length) (h2 : m.tos.length ≤ 10) : (S.plus m).Ok := by
  refine ⟨fun i hi' => ?_, fun x hx => ?_⟩
  · rw [plus_len] at hi'
    by_cases e : i < S.items.length
    · simp only [PStore.plus]
      rw [List.getElem_append_left e]
      exact h.id i e
    · obtain rfl : i = S.items.length := by omega
      simp [PStore.plus, hi]
  · simp only [PStore.plus, List.mem_append, List.mem_singleton] at hx
    rcases hx with hx | rfl
    · exact h.sz x hx
    · exact ⟨hz, h1, h2, by simp⟩
theorem PStore.Ok.outs {S : PStore} (h : S.Ok) (K : Nat) (ps : List Nat) : (S.outs K ps).Ok := by
  refine ⟨fun i hi => ?_, fun x hx => ?_⟩
  · rw [outs_len] at hi
    have e1 := outs_mailOf S K ps i
    rw [mailOf_lt (by rw [outs_len]; exact hi), mailOf_lt hi] at e1
    rw [e1]
    exact h.id i hi
  · obtain ⟨i, hi, rfl⟩ := List.getElem_of_mem hx
    have hi' : i < S.items.length := by rwa [outs_len] at hi
    obtain ⟨a, b, c, d⟩ := h.sz S.items[i] (List.getElem_mem hi')
    have e1 : ((S.outs K ps).items[i]).m = S.items[i].m := by
      have e1 := outs_mailOf S K ps i
      rwa [mailOf_lt (by rw [outs_len]; exact hi'), mailOf_lt hi'] at e1
    have e2 : ((S.outs K ps).items[i]).out.length = S.items[i].out.length := by
      simp only [PStore.outs, List.getElem_modify]
      split
      · rw [outSet_len]
      · rfl
    rw [e1, e2]
    exact ⟨a, b, c, d⟩
theorem PStore.Ok.time {S : PStore} (h : S.Ok) (T : Nat) : PStore.Ok ⟨S.items, T⟩ := ⟨h.id, h.sz⟩
theorem stayOf_le {S : PStore} (h : S.Ok) (i : Nat) : (S.stayOf i).length ≤ 10 := by
  rcases Nat.lt_or_ge i S.items.length with hi | hi
  · rw [stayOf_lt hi]
    unfold stay
    rw [List.length_map]
    have := leftOf_len S.items[i].out S.items[i].out.length
    have := h.sz S.items[i] (List.getElem_mem hi)
    omega
  · rw [stayOf_ge hi]; simp
end Go.Proofs.YtgjjjdccbpjnfaaGreatDoor

/- A map from numbers (1, 2, and so on) to blocks, laid in the order in which they came: what a look-up, a store of the next number and a delete do. -/
namespace Go.Proofs.YtgjjjdccbpjnfaaGreatDoor
open Go.RowKit

def ent (q : Nat → Nat) (i : Nat) : MapEntry := ⟨.int .i64 ((i : Int) + 1), .pointer (some ⟨q i, 0, none⟩), i⟩
def ents (q : Nat → Nat) (l : List Nat) : Array MapEntry := (l.map (ent q)).toArray
def MapIn (w : World) (b : Nat) (q : Nat → Nat) (l : List Nat) (c : Nat) : Prop := w.heap[b]? = some (.map (ents q l) c)

theorem ent_key (q : Nat → Nat) {i j : Nat} (h : (ent q i).key = .int .i64 ((j : Int) + 1)) : i = j := by
  unfold ent at h
  simp only [Value.int.injEq, true_and] at h
  omega
theorem ents_list (q : Nat → Nat) (l : List Nat) : (ents q l).toList = l.map (ent q) := by simp [ents]
theorem ents_congr {q q' : Nat → Nat} {l : List Nat} (h : ∀ i ∈ l, q i = q' i) : ents q l = ents q' l := by
  unfold ents
  congr 1
  exact List.map_congr_left fun i hi => by unfold ent; rw [h i hi]

section
variable {P : Program} {k e t : TypeId} {w : World} {b c : Nat} {q : Nat → Nat} {l : List Nat}

theorem ent_reads (hk : P.underlying k = some (.int .i64)) (q : Nat → Nat) (l : List Nat) (hl : ∀ i ∈ l, i < 4294967296) : ∀ x ∈ l.map (ent q), ∃ y, keyOf P k x.key = some y := by
  intro x hx
  obtain ⟨i, hi, rfl⟩ := List.mem_map.1 hx
  exact ⟨_, Maps.keyOf_int_mk hk (a := (i : Int) + 1) (WalkArith.wf_i64 (by have := hl i hi; omega))⟩
theorem find_at (hk : P.underlying k = some (.int .i64)) (hl : ∀ i ∈ l, i < 4294967296) (j : Nat) (hj : j < 4294967296) :
    (j ∉ l → (Instr.findKey k (.int .i64 ((j : Int) + 1)) (l.map (ent q))).run P w = .ok none w) ∧
    (j ∈ l → ∃ n, (Instr.findKey k (.int .i64 ((j : Int) + 1)) (l.map (ent q))).run P w = .ok (some (n, .pointer (some ⟨q j, 0, none⟩))) w ∧ l[n]? = some j) := by
  have hkey : keyOf P k (.int .i64 ((j : Int) + 1)) = some (.int .i64 ((j : Int) + 1)) := Maps.keyOf_int_mk hk (WalkArith.wf_i64 (by omega))
  rcases (Maps.int_keyed hk).find w hkey (l.map (ent q)) (ent_reads hk q l hl) with ⟨h1, h2⟩ | ⟨n, x, h1, h2, h3⟩
  · exact ⟨fun _ => h1, fun hm => absurd rfl (h2 (ent q j) (List.mem_map.2 ⟨j, hm, rfl⟩))⟩
  · rw [List.getElem?_map, Option.map_eq_some_iff] at h2
    obtain ⟨i, hi, rfl⟩ := h2
    have e1 := ent_key q h3
    subst e1
    exact ⟨fun hn => absurd (List.mem_of_getElem? hi) hn, fun _ => ⟨n, h1, hi⟩⟩
theorem check_at (hk : P.underlying k = some (.int .i64)) (j : Nat) (hj : j < 4294967296) (em : Bool) : (Instr.checkKey em 10000 k (.int .i64 ((j : Int) + 1))).run P w = .ok () w :=
  (Maps.int_keyed hk).check w em (Maps.keyOf_int_mk hk (WalkArith.wf_i64 (by omega)))

/-- a look-up at a number that is there -/
theorem map_look (hk : P.underlying k = some (.int .i64)) (ht : P.underlying t = some (.map k e)) (h : MapIn w b q l c) (hl : ∀ i ∈ l, i < 4294967296) (j : Nat) (hj : j < 4294967296) (hm : j ∈ l) (ok : Bool) :
    (Instr.lookup t (.map (some b)) (.int .i64 ((j : Int) + 1)) ok).run P w = .ok (if ok then .tuple #[.pointer (some ⟨q j, 0, none⟩), .bool true] else .pointer (some ⟨q j, 0, none⟩)) w := by
  obtain ⟨n, h1, _⟩ := (find_at (w := w) (q := q) hk hl j hj).2 hm
  simp [Instr.lookup, run_underlying ht, MapKept.run_getObj_map h, check_at hk j hj, ents_list, h1, Result.andThen]
/-- a look-up at one that is not -/
theorem map_look_no (hk : P.underlying k = some (.int .i64)) (ht : P.underlying t = some (.map k e)) (hz : (zeroValue e).run P w = .ok (.pointer none) w) (h : MapIn w b q l c) (hl : ∀ i ∈ l, i < 4294967296) (j : Nat) (hj : j < 4294967296) (hm : j ∉ l) (ok : Bool) :
    (Instr.lookup t (.map (some b)) (.int .i64 ((j : Int) + 1)) ok).run P w = .ok (if ok then .tuple #[.pointer none, .bool false] else .pointer none) w := by
  have h1 := (find_at (w := w) (q := q) hk hl j hj).1 hm
  simp [Instr.lookup, run_underlying ht, MapKept.run_getObj_map h, check_at hk j hj, ents_list, h1, hz, Result.andThen]
/-- no number is below 1 -/
theorem map_look_zero (hk : P.underlying k = some (.int .i64)) (ht : P.underlying t = some (.map k e)) (hz : (zeroValue e).run P w = .ok (.pointer none) w) (h : MapIn w b q l c) (hl : ∀ i ∈ l, i < 4294967296) (ok : Bool) :
    (Instr.lookup t (.map (some b)) (.int .i64 0) ok).run P w = .ok (if ok then .tuple #[.pointer none, .bool false] else .pointer none) w := by
  have hkey : keyOf P k (.int .i64 0) = some (.int .i64 0) := Maps.keyOf_int_mk hk (WalkArith.wf_i64 (by omega))
  have h1 : (Instr.findKey k (.int .i64 0) (l.map (ent q))).run P w = .ok none w := by
    rcases (Maps.int_keyed hk).find w hkey (l.map (ent q)) (ent_reads hk q l hl) with ⟨h1, h2⟩ | ⟨n, x, h1, h2, h3⟩
    · exact h1
    · rw [List.getElem?_map, Option.map_eq_some_iff] at h2
      obtain ⟨i, hi, rfl⟩ := h2
      unfold ent at h3
      simp only [Value.int.injEq, true_and] at h3
      omega
  simp [Instr.lookup, run_underlying ht, MapKept.run_getObj_map h, (Maps.int_keyed hk).check w _ hkey, ents_list, h1, hz, Result.andThen]
/-- a store at the next number -/
theorem map_add (hk : P.underlying k = some (.int .i64)) (ht : P.underlying t = some (.map k e)) (h : MapIn w b q l c) (hl : ∀ i ∈ l, i < c) (hc : c < 4294967295) (p : Nat) (q' : Nat → Nat) (hq : ∀ i ∈ l, q' i = q i) (hp : q' c = p) :
    (Instr.mapUpdate t (.map (some b)) (.int .i64 ((c : Int) + 1)) (.pointer (some ⟨p, 0, none⟩))).run P w = .ok () (ChangeMaps.setBlock w b (.map (ents q' (l ++ [c])) (c + 1))) := by
  have h1 := (find_at (w := w) (q := q) hk (fun i hi => by have := hl i hi; omega) c (by omega)).1 (fun hm => by have := hl c hm; omega)
  have e1 : (ents q l).push ⟨.int .i64 ((c : Int) + 1), .pointer (some ⟨p, 0, none⟩), c⟩ = ents q' (l ++ [c]) := by
    rw [ents_congr (fun i hi => (hq i hi).symm)]
    unfold ents
    rw [List.map_append, List.push_toArray]
    simp [ent, hp]
  simp [Instr.mapUpdate, run_underlying ht, MapKept.run_getObj_map h, check_at hk c (by omega), ents_list, h1, MapKept.run_setObj_map _ h, Result.andThen, ChangeMaps.setBlock, e1]
theorem filter_idx {l : List Nat} (hn : l.Nodup) {n j : Nat} (h : l[n]? = some j) : l.eraseIdx n = l.filter fun i => decide (i ≠ j) := by
  induction l generalizing n with
  | nil => simp at h
  | cons x l ih =>
    rw [List.nodup_cons] at hn
    cases n with
    | zero =>
      simp only [List.getElem?_cons_zero, Option.some.injEq] at h
      subst h
      rw [List.eraseIdx_cons_zero, List.filter_cons]
      simp only [ne_eq, not_true_eq_false, decide_false, Bool.false_eq_true, if_false]
      refine (List.filter_eq_self.2 fun i hi => ?_).symm
      have : i ≠ x := fun e => hn.1 (e ▸ hi)
      simpa using this
    | succ n =>
      simp only [List.getElem?_cons_succ] at h
      have hx : x ≠ j := fun e => hn.1 (e ▸ List.mem_of_getElem? h)
      rw [List.eraseIdx_cons_succ, List.filter_cons, if_pos (by simpa using hx), ih hn.2 h]
/-- a delete of a number that is there -/
theorem map_drop {ty : TypeId} (hk : P.underlying k = some (.int .i64)) (ht : P.underlying t = some (.map k e)) (h : MapIn w b q l c) (hl : ∀ i ∈ l, i < 4294967296) (hn : l.Nodup) (j : Nat) (hj : j < 4294967296) (hm : j ∈ l) :
    (Builtin.delete_ #[t, k] ty #[.map (some b), .int .i64 ((j : Int) + 1)]).run P w = .ok (.tuple #[]) (ChangeMaps.setBlock w b (.map (ents q (l.filter fun i => decide (i ≠ j))) c)) := by
  obtain ⟨n, h1, h2⟩ := (find_at (w := w) (q := q) hk hl j hj).2 hm
  have hlen : n < l.length := (List.getElem?_eq_some_iff.1 h2).1
  have e1 : (ents q l).eraseIdxIfInBounds n = ents q (l.filter fun i => decide (i ≠ j)) := by
    rw [← filter_idx hn h2]
    have hs : n < (ents q l).size := by simpa [ents] using hlen
    apply Array.toList_inj.1
    unfold Array.eraseIdxIfInBounds
    rw [dif_pos hs, Array.toList_eraseIdx, ents_list, ents_list, ← ChangeMaps.map_eraseIdx]
  simp [Builtin.delete_, run_underlying ht, MapKept.run_getObj_map h, check_at hk j hj, ents_list, h1, MapKept.run_setObj_map _ h, Result.andThen, ChangeMaps.setBlock, e1]
end
end Go.Proofs.YtgjjjdccbpjnfaaGreatDoor

/- The bag: its block, its map and its mails; what a new mail and those who leave do to it. -/
namespace Go.Proofs.YtgjjjdccbpjnfaaGreatDoor
open Go.RowKit

structure BagIn (base : Nat) (w : World) (pb mb : Nat) (q : Nat → Nat) (vr : Value) (S : PStore) : Prop where
  bag : w.heap[pb]? = some (.cells #[vr, .int .i64 S.time, .int .i64 S.items.length, .map (some mb)] 88 (0, 0))
  map : MapIn w mb q S.live S.items.length
  pbb : base ≤ pb
  mbb : base ≤ mb
  one : ∀ i ∈ S.live, ∀ j ∈ S.live, q i = q j → i = j
  mail : ∀ i ∈ S.live, base ≤ q i ∧ ∃ v x, BmAt w (q i) (S.mailOf i).time (S.mailOf i).frm v (S.mailOf i).body x ∧ w.ownsRow base 140 2 v (S.stayOf i).length (recCells (S.stayOf i))

theorem ownsRow_keeps {w w' : World} {base sz n : Nat} {e : TypeId} {v : Value} {xs : List Value} (h : w.ownsRow base e sz v n xs) (hk : ∀ g cur, w.heap[g]? = some (.cells cur e (0, 0)) → base ≤ g → w'.heap[g]? = some (.cells cur e (0, 0))) : w'.ownsRow base e sz v n xs := by
  obtain ⟨h1, h2⟩ := h
  refine ⟨h1, ?_⟩
  rcases h2 with h2 | ⟨g, cap, cur, e1, e2, e3, r⟩
  · exact .inl h2
  · exact .inr ⟨g, cap, cur, e1, e2, hk g cur e3 e2, r⟩
theorem heap_some_lt {w : World} {k : Nat} {o : Obj} (h : w.heap[k]? = some o) : k < w.heap.size := (Array.getElem?_eq_some_iff.1 h).1
theorem below_some {w w' : World} (hb : Below w.heap.size w w') {k : Nat} {o : Obj} (h : w.heap[k]? = some o) : w'.heap[k]? = some o := (hb.block k (heap_some_lt h)).trans h
theorem same_some {p : Nat} {w w' : World} (hb : Same p w w') {k : Nat} {o : Obj} (h : w.heap[k]? = some o) (hne : k ≠ p) : w'.heap[k]? = some o := (hb.2 k hne).trans h
theorem but_some {p : Nat} {w w' : World} (hb : But p w w') {k : Nat} {o : Obj} (h : w.heap[k]? = some o) (hne : k ≠ p) : w'.heap[k]? = some o := (hb.block k (heap_some_lt h) hne).trans h
theorem same_setBlock {w : World} {b : Nat} {es : Array MapEntry} {c : Nat} (h : w.heap[b]? = some (.map es c)) (o : Obj) : Same b w (ChangeMaps.setBlock w b o) :=
  ⟨by simp [ChangeMaps.setBlock], fun k hk => ChangeMaps.heap_setBlock_other h o hk, ⟨rfl, rfl, rfl⟩⟩

section
variable {base pb mb : Nat} {q : Nat → Nat} {vr : Value} {S : PStore} {w w' : World}
theorem BagIn.pblt (h : BagIn base w pb mb q vr S) : pb < w.heap.size := heap_some_lt h.bag
theorem BagIn.mblt (h : BagIn base w pb mb q vr S) : mb < w.heap.size := heap_some_lt h.map
theorem BagIn.le (h : BagIn base w pb mb q vr S) : base ≤ w.heap.size := by have := h.pblt; have := h.pbb; omega
theorem BagIn.keep (h : BagIn base w pb mb q vr S) (hb : Below w.heap.size w w') : BagIn base w' pb mb q vr S :=
  ⟨below_some hb h.bag, below_some hb h.map, h.pbb, h.mbb, h.one, fun i hi => by
    obtain ⟨a, v, x, b, c⟩ := h.mail i hi
    exact ⟨a, v, x, below_some hb b, ownsRow_keeps c fun g cur e _ => below_some hb e⟩⟩
/-- the bag's own block is written -/
theorem BagIn.timed (h : BagIn base w pb mb q vr S) {T : Nat} {vr' : Value} (hs : Same pb w w') (hp : w'.heap[pb]? = some (.cells #[vr', .int .i64 T, .int .i64 S.items.length, .map (some mb)] 88 (0, 0))) : BagIn base w' pb mb q vr' ⟨S.items, T⟩ :=
  ⟨hp, same_some hs h.map (fun e => by have := h.map; unfold MapIn at this; rw [e, h.bag] at this; simp at this), h.pbb, h.mbb, h.one, fun i hi => by
    obtain ⟨a, v, x, b, c⟩ := h.mail i hi
    refine ⟨a, v, x, same_some hs b (fun e => ?_), ownsRow_keeps c fun g cur e _ => same_some hs e fun e' => ?_⟩
    · unfold BmAt at b; rw [e, h.bag] at b; simp at b
    · rw [e', h.bag] at e; simp at e⟩
/-- one mail more -/
theorem BagIn.added (h : BagIn base w pb mb q vr S) {w1 w2 : World} {m : PMail} {Q : Nat} {v : Value} {x : Int × Int} (h1 : Same pb w w1) (hp1 : w1.heap[pb]? = some (.cells #[vr, .int .i64 m.time, .int .i64 ((S.items.length : Int) + 1), .map (some mb)] 88 (0, 0)))
    (h2 : Below w1.heap.size w1 w2) (hQ : w1.heap.size ≤ Q) (hm : BmAt w2 Q m.time m.frm v m.body x) (hr : w2.ownsRow w1.heap.size 140 2 v m.tos.length (recCells (stay m.tos (List.replicate m.tos.length false)))) (ht : 1 ≤ m.tos.length) :
    BagIn base (ChangeMaps.setBlock w2 mb (.map (ents (fun i => if i = S.items.length then Q else q i) (S.live ++ [S.items.length])) (S.items.length + 1))) pb mb (fun i => if i = S.items.length then Q else q i) vr (S.plus m) := by
  have hmb1 : w1.heap[mb]? = some (.map (ents q S.live) S.items.length) := same_some h1 h.map (fun e => by have := h.map; unfold MapIn at this; rw [e, h.bag] at this; simp at this)
  have hmb2 : w2.heap[mb]? = some (.map (ents q S.live) S.items.length) := below_some h2 hmb1
  have hS := same_setBlock hmb2 (.map (ents (fun i => if i = S.items.length then Q else q i) (S.live ++ [S.items.length])) (S.items.length + 1))
  have hbase : base ≤ w1.heap.size := by rw [h1.1]; exact h.le
  have hpm : pb ≠ mb := fun e => by rw [e, hmb1] at hp1; simp at hp1
  have old : ∀ i ∈ S.live, i ≠ S.items.length := fun i hi e => by have := live_lt hi; omega
  refine ⟨?_, ?_, h.pbb, h.mbb, ?_, ?_⟩
  · rw [plus_len]
    have := same_some hS (below_some h2 hp1) hpm
    simpa [PStore.plus] using this
  · unfold MapIn
    rw [plus_len, plus_live ht]
    exact ChangeMaps.heap_setBlock_same hmb2 _
  · rw [plus_live ht]
    have hq : ∀ i ∈ S.live, q i < Q := fun i hi => by
      obtain ⟨_, v, _, b, _⟩ := h.mail i hi
      have := heap_some_lt b
      rw [h1.1] at hQ
      omega
    intro i hi j hj e
    simp only [List.mem_append, List.mem_singleton] at hi hj
    rcases hi with hi | rfl
    · rcases hj with hj | rfl
      · rw [if_neg (old i hi), if_neg (old j hj)] at e
        exact h.one i hi j hj e
      · rw [if_neg (old i hi), if_pos rfl] at e
        have := hq i hi; omega
    · rcases hj with hj | rfl
      · rw [if_pos rfl, if_neg (old j hj)] at e
        have := hq j hj; omega
      · rfl
  · rw [plus_live ht]
    intro i hi
    simp only [List.mem_append, List.mem_singleton] at hi
    have keepRow : ∀ {n : Nat} {v : Value} {xs : List Value} {B : Nat}, base ≤ B → w2.ownsRow B 140 2 v n xs → (ChangeMaps.setBlock w2 mb (.map (ents (fun i => if i = S.items.length then Q else q i) (S.live ++ [S.items.length])) (S.items.length + 1))).ownsRow base 140 2 v n xs := fun hB hr => by
      refine (ownsRow_keeps hr fun g cur e _ => same_some hS e fun e' => ?_).mono hB
      rw [e', hmb2] at e; simp at e
    rcases hi with hi | rfl
    · have hlt := live_lt hi
      obtain ⟨a, v, x, b, c⟩ := h.mail i hi
      simp only [if_neg (old i hi)]
      rw [plus_mailOf hlt, plus_stayOf hlt]
      have b1 : BmAt w1 (q i) (S.mailOf i).time (S.mailOf i).frm v (S.mailOf i).body x := same_some h1 b (fun e => by unfold BmAt at b; rw [e, h.bag] at b; simp at b)
      have b2 : BmAt w2 (q i) (S.mailOf i).time (S.mailOf i).frm v (S.mailOf i).body x := below_some h2 b1
      refine ⟨a, v, x, same_some hS b2 (fun e => by unfold BmAt at b2; rw [e, hmb2] at b2; simp at b2), keepRow (Nat.le_refl _) ?_⟩
      refine ownsRow_keeps c fun g cur e _ => below_some h2 (same_some h1 e fun e' => ?_)
      rw [e', h.bag] at e; simp at e
    · simp only [if_true]
      rw [plus_mailOf_new, plus_stayOf_new]
      have e1 : (stay m.tos (List.replicate m.tos.length false)).length = m.tos.length := by rw [stay_all]; simp
      rw [e1]
      exact ⟨by omega, v, x, same_some hS hm (fun e => by unfold BmAt at hm; rw [e, hmb2] at hm; simp at hm), keepRow hbase hr⟩
/-- somebody leaves, others stay -/
theorem BagIn.left (h : BagIn base w pb mb q vr S) {w1 : World} {K : Nat} {ps : List Nat} {v : Value} {x : Int × Int} (hK : K ∈ S.live) (hb : But (q K) w w1) (hm : BmAt w1 (q K) (S.mailOf K).time (S.mailOf K).frm v (S.mailOf K).body x)
    (hr : w1.ownsRow w.heap.size 140 2 v (staysOf (S.stayOf K) ps).length (recCells (staysOf (S.stayOf K) ps))) (hs : staysOf (S.stayOf K) ps ≠ []) : BagIn base w1 pb mb q vr (S.outs K ps) := by
  obtain ⟨aK, vK, xK, bK, cK⟩ := h.mail K hK
  refine ⟨?_, ?_, h.pbb, h.mbb, ?_, ?_⟩
  · rw [outs_len]
    exact but_some hb h.bag (fun e => by unfold BmAt at bK; rw [← e, h.bag] at bK; simp at bK)
  · unfold MapIn
    rw [outs_len, outs_live_some hK hs]
    refine but_some hb h.map (fun e => ?_)
    have := h.map
    unfold MapIn at this
    unfold BmAt at bK
    rw [e, bK] at this
    simp at this
  · rw [outs_live_some hK hs]; exact h.one
  · rw [outs_live_some hK hs]
    intro i hi
    rw [outs_mailOf]
    by_cases e : i = K
    · subst e
      rw [outs_stayOf (live_lt hK)]
      exact ⟨aK, v, x, hm, hr.mono h.le⟩
    · obtain ⟨a, v', x, b, c⟩ := h.mail i hi
      rw [outs_stayOf_ne e]
      refine ⟨a, v', x, but_some hb b (fun e' => e (h.one i hi K hK e')), ownsRow_keeps c fun g cur e1 _ => but_some hb e1 fun e' => ?_⟩
      unfold BmAt at bK
      rw [e', bK] at e1
      simp at e1
/-- nobody stays -/
theorem BagIn.emptied (h : BagIn base w pb mb q vr S) {w1 : World} {K : Nat} {ps : List Nat} (hK : K ∈ S.live) (hb : But (q K) w w1) (hs : staysOf (S.stayOf K) ps = []) : w1.heap[mb]? = some (.map (ents q S.live) S.items.length) ∧
    BagIn base (ChangeMaps.setBlock w1 mb (.map (ents q (S.live.filter fun i => decide (i ≠ K))) S.items.length)) pb mb q vr (S.outs K ps) := by
  obtain ⟨aK, vK, xK, bK, cK⟩ := h.mail K hK
  have hmb1 : w1.heap[mb]? = some (.map (ents q S.live) S.items.length) := but_some hb h.map (fun e => by
    have := h.map
    unfold MapIn at this
    unfold BmAt at bK
    rw [e, bK] at this
    simp at this)
  have hS := same_setBlock hmb1 (.map (ents q (S.live.filter fun i => decide (i ≠ K))) S.items.length)
  have hp1 := but_some hb h.bag (fun e => by unfold BmAt at bK; rw [← e, h.bag] at bK; simp at bK)
  refine ⟨hmb1, ?_, ?_, h.pbb, h.mbb, ?_, ?_⟩
  · rw [outs_len]
    exact same_some hS hp1 (fun e => by rw [e, hmb1] at hp1; simp at hp1)
  · unfold MapIn
    rw [outs_len, outs_live_none hK hs]
    exact ChangeMaps.heap_setBlock_same hmb1 _
  · rw [outs_live_none hK hs]
    exact fun i hi j hj e => h.one i (List.mem_filter.1 hi).1 j (List.mem_filter.1 hj).1 e
  · rw [outs_live_none hK hs]
    intro i hi
    obtain ⟨hi, hne⟩ := List.mem_filter.1 hi
    have e : i ≠ K := by simpa using hne
    rw [outs_mailOf, outs_stayOf_ne e]
    obtain ⟨a, v', x, b, c⟩ := h.mail i hi
    have b1 : BmAt w1 (q i) (S.mailOf i).time (S.mailOf i).frm v' (S.mailOf i).body x := but_some hb b (fun e' => e (h.one i hi K hK e'))
    refine ⟨a, v', x, same_some hS b1 (fun e' => by unfold BmAt at b1; rw [e', hmb1] at b1; simp at b1), ownsRow_keeps c fun g cur e1 _ => ?_⟩
    have e2 := but_some hb e1 (fun e' => by unfold BmAt at bK; rw [e', bK] at e1; simp at e1)
    exact same_some hS e2 (fun e' => by rw [e', hmb1] at e2; simp at e2)
end
end Go.Proofs.YtgjjjdccbpjnfaaGreatDoor

/- Are all places among those who are still there? -/
namespace Go.Proofs.YtgjjjdccbpjnfaaGreatDoor
open Go.RowKit

set_option maxHeartbeats 1000000 in
theorem has1_any (P : Nat) (T : List UInt8) (pc place : Nat) (w : World) (hc : w.cell? ⟨pc, 0, none⟩ = some (.int .i64 place)) :
    Calls Tryz.prog 225 #[.agg #[.int .i64 P, .string (bs T)], .pointer (some ⟨pc, 0, none⟩)] w fun e w' => e = .returned (.bool (decide (P = place))) ∧ Below w.heap.size w w' := by
  have hc1 : ∀ o : Obj, (w.alloc o).cell? ⟨pc, 0, none⟩ = some (.int .i64 place) := fun o => by
    rw [((Below.refl _ w).alloc (Nat.le_refl _) o).cell (show pc < w.heap.size from block_lt hc)]; exact hc
  go_enter Tryz.func225, Tryz.ntmps225
  go_wp2_with fail
  go_ret
  have e1 : ((P : Int) == (place : Int)) = decide (P = place) := by rw [Bool.eq_iff_iff]; simp only [beq_iff_eq, decide_eq_true_eq]; omega
  exact ⟨by rw [← e1]; rfl, (Below.refl _ w).alloc (Nat.le_refl _) _⟩

theorem any_take_succ {l : List (Nat × List UInt8)} {p : Nat × List UInt8 → Bool} {k : Nat} (h : k < l.length) (h0 : (l.take k).any p = false) (h1 : p l[k] = false) : (l.take (k + 1)).any p = false := by
  rw [List.take_succ_eq_append_getElem h, List.any_append, h0]
  simp [h1]
theorem any_hit {l : List (Nat × List UInt8)} {p : Nat × List UInt8 → Bool} {k : Nat} (h : k < l.length) (h1 : p l[k] = true) : l.any p = true := List.any_eq_true.2 ⟨_, List.getElem_mem h, h1⟩

set_option maxHeartbeats 1000000 in
set_option maxRecDepth 100000 in
theorem indexFunc_any (base : Nat) (l : List (Nat × List UInt8)) (v : Value) (pc place : Nat) (w : World) (hv : w.ownsRow base 140 2 v l.length (recCells l)) (hc : w.cell? ⟨pc, 0, none⟩ = some (.int .i64 place)) (hl : l.length ≤ 255) :
    Calls Tryz.prog 272 #[v, .func (.func 225) #[] #[.pointer (some ⟨pc, 0, none⟩)]] w fun e w' => ∃ r : Int, e = .returned (.int .i64 r) ∧ (-1 ≤ r ∧ r ≤ 255) ∧ decide (0 ≤ r) = l.any (fun x => decide (x.1 = place)) ∧ Below w.heap.size w w' := by
  have HV := Lib.hid hv
  have HC := Lib.hid hc
  obtain ⟨av, cv, rfl⟩ : ∃ a c, v = .slice a l.length c := by
    rcases hv.2 with ⟨e, h0⟩ | ⟨g, cap, cur, e, _⟩
    · exact ⟨_, _, by rw [h0]; exact e⟩
    · exact ⟨_, _, e⟩
  obtain ⟨s, hs⟩ : ∃ s, w.heap.size = s := ⟨_, rfl⟩
  have HSS := Lib.hid hs
  clear hv hs hc
  go_enter Tryz.func272, Tryz.ntmps272
  go_wp2_with fail
  go_loopw [5, 8] (fun _ i w' => ∃ k : Nat, k ≤ l.length ∧ i = .int .i64 k ∧ Hid ((l.take k).any (fun x => decide (x.1 = place)) = false) ∧ Hid (Below s w w')) (fun _ i _ => l.length - (intOf i).toNat)
  case atStart => exact ⟨0, Nat.zero_le _, rfl, Lib.hid rfl, Lib.hid (by rw [← HSS.out]; exact Below.refl _ _)⟩
  case round =>
    obtain ⟨k, hk, rfl, HN, HB⟩ := hrel
    by_cases hlt : k < l.length
    · have hlti : (k : Int) < (l.length : Int) := by omega
      obtain ⟨g, rfl, c0, c1⟩ : ∃ g, av = some ⟨g, 0, none⟩ ∧ w.cell? ⟨g, k * 2, none⟩ = some (.int .i64 (l[k].1 : Int)) ∧ w.cell? ⟨g, k * 2 + 1, none⟩ = some (.string (bs l[k].2)) := by
        rcases HV.out.2 with ⟨_, h0⟩ | ⟨g, cp, cur, e, _, hg, _, _, _, htk⟩
        · omega
        · injection e with e1 _ _
          refine ⟨g, e1, ?_, ?_⟩
          · rw [Lib.cell_of_heap hg, ← Array.getElem?_toList, ← List.getElem?_take_of_lt (show k * 2 < l.length * 2 by omega), htk]; exact (recCells_at l k hlt).1
          · rw [Lib.cell_of_heap hg, ← Array.getElem?_toList, ← List.getElem?_take_of_lt (show k * 2 + 1 < l.length * 2 by omega), htk]; exact (recCells_at l k hlt).2
      have d0 : wr.cell? ⟨g, k * 2, none⟩ = some (.int .i64 (l[k].1 : Int)) := (HB.out.cell (by show g < s; rw [← HSS.out]; exact block_lt c0)).trans c0
      have d1 : wr.cell? ⟨g, k * 2 + 1, none⟩ = some (.string (bs l[k].2)) := (HB.out.cell (by show g < s; rw [← HSS.out]; exact block_lt c1)).trans c1
      have dc : wr.cell? ⟨pc, 0, none⟩ = some (.int .i64 place) := (HB.out.cell (by show pc < s; rw [← HSS.out]; exact block_lt HC.out)).trans HC.out
      have HX : Hid (∀ b : Bool, decide (l[k].1 = place) = b → (b = true → l.any (fun x => decide (x.1 = place)) = true) ∧ (b = false → (l.take (k + 1)).any (fun x => decide (x.1 = place)) = false)) := Lib.hid (fun b hb => ⟨fun e => any_hit hlt (by rw [hb, e]), fun e => any_take_succ hlt HN.out (by rw [hb, e])⟩)
      obtain ⟨x, ex⟩ : ∃ x, l[k] = x := ⟨_, rfl⟩
      rw [ex] at d0 d1 HX
      obtain ⟨P, T⟩ := x
      simp only at d0 d1
      have hcall := Lib.hid (has1_any P T pc place wr dc)
      have hsr : s ≤ wr.heap.size := by have := HB.out.size; have := HSS.out; omega
      clear ex c0 c1 dc HN
      cases hq : decide (P = place) with
      | true =>
        have HA := Lib.hid ((HX.out true hq).1 rfl)
        rw [hq] at hcall
        clear HX hq
        go_wp2_with (first | (go_at_call 225; refine hcall.out.mono ?_; rintro e w2 ⟨rfl, hb2⟩) | fail)
        go_ret
        exact ⟨_, rfl, by omega, by rw [HA.out]; simp, by rw [HSS.out]; exact HB.out.trans (hb2.mono hsr)⟩
      | false =>
        have HA := Lib.hid ((HX.out false hq).2 rfl)
        rw [hq] at hcall
        clear HX hq
        go_wp2_with (first | (go_at_call 225; refine hcall.out.mono ?_; rintro e w2 ⟨rfl, hb2⟩) | fail)
        exact ⟨⟨k + 1, by omega, by go_num, HA, Lib.hid (HB.out.trans (hb2.mono hsr))⟩, by simp [intOf]; omega⟩
    · have hk9 : k = l.length := by omega
      subst hk9
      rw [List.take_length] at HN
      go_wp2_with fail
      go_ret
      exact ⟨_, rfl, by omega, by rw [HN.out]; rfl, by rw [HSS.out]; exact HB.out⟩

set_option maxHeartbeats 1000000 in
theorem containsFunc_any (base : Nat) (l : List (Nat × List UInt8)) (v : Value) (pc place : Nat) (w : World) (hv : w.ownsRow base 140 2 v l.length (recCells l)) (hc : w.cell? ⟨pc, 0, none⟩ = some (.int .i64 place)) (hl : l.length ≤ 255) :
    Calls Tryz.prog 224 #[v, .func (.func 225) #[] #[.pointer (some ⟨pc, 0, none⟩)]] w fun e w' => e = .returned (.bool (l.any (fun x => decide (x.1 = place)))) ∧ Below w.heap.size w w' := by
  have hi := indexFunc_any base l v pc place w hv hc hl
  clear hv hc
  go_enter Tryz.func224, Tryz.ntmps224
  go_wp2_with fail
  refine hi.mono ?_
  rintro e w' ⟨r, rfl, hr, hd, hb⟩
  have HD := Lib.hid hd
  clear hd hi
  go_wp2_with fail
  go_ret
  exact ⟨by rw [← HD.out]; rfl, hb⟩

set_option maxHeartbeats 1000000 in
set_option maxRecDepth 100000 in
theorem hasAll_any (base q time : Nat) (frm body : List UInt8) (v vp : Value) (l : List (Nat × List UInt8)) (ps : List Nat) (x : Int × Int) (w : World) (h : BmAt w q time frm v body x) (hv : w.ownsRow base 140 2 v l.length (recCells l)) (hp : RowAt w vp ps.length 1 (natCells ps)) (hl : l.length ≤ 255) (hpl : ps.length ≤ 255) :
    Calls Tryz.prog 169 #[.pointer (some ⟨q, 0, none⟩), vp] w fun e w' => e = .returned (.bool (ps.all fun x => l.any fun r => decide (r.1 = x))) ∧ Below w.heap.size w w' := by
  obtain ⟨a, cap, rfl, hc⟩ := hp.one
  have HV := Lib.hid hv
  have HC := Lib.hid hc
  have HH := Lib.hid h
  obtain ⟨av, cv, rfl⟩ : ∃ a c, v = .slice a l.length c := by
    rcases hv.2 with ⟨e, h0⟩ | ⟨g, cap, cur, e, _⟩
    · exact ⟨_, _, by rw [h0]; exact e⟩
    · exact ⟨_, _, e⟩
  obtain ⟨s, hs⟩ : ∃ s, w.heap.size = s := ⟨_, rfl⟩
  have HSS := Lib.hid hs
  have hqs : q < s := by rw [← hs]; exact heap_lt h
  clear hv hs hc h hp
  go_enter Tryz.func169, Tryz.ntmps169
  go_wp2_with fail
  go_loopw [6, 9] (fun _ i w' => ∃ k : Nat, k ≤ ps.length ∧ i = .int .i64 k ∧ Hid ((ps.take k).all (fun x => l.any fun r => decide (r.1 = x)) = true) ∧ Hid (Below s w w')) (fun _ i _ => ps.length - (intOf i).toNat)
  case atStart => exact ⟨0, Nat.zero_le _, rfl, Lib.hid rfl, Lib.hid (by rw [← HSS.out]; exact Below.refl _ _)⟩
  case round =>
    obtain ⟨k, hk, rfl, HN, HB⟩ := hrel
    by_cases hlt : k < ps.length
    · have hlti : (k : Int) < (ps.length : Int) := by omega
      obtain ⟨b, off, rfl, hbw, hcell⟩ := HC.out k hlt
      rw [natCells_get ps k hlt] at hcell
      have d0 : wr.cell? ⟨b, off + k, none⟩ = some (.int .i64 (ps[k] : Int)) := (HB.out.cell (by show b < s; rw [← HSS.out]; exact hbw)).trans hcell
      have HX : Hid (∀ c : Bool, l.any (fun r => decide (r.1 = ps[k])) = c → (c = true → (ps.take (k + 1)).all (fun x => l.any fun r => decide (r.1 = x)) = true) ∧ (c = false → ps.all (fun x => l.any fun r => decide (r.1 = x)) = false)) := Lib.hid (fun c hc => ⟨fun e => by
          rw [List.take_succ_eq_append_getElem hlt, List.all_append, HN.out]
          simp only [List.all_cons, List.all_nil, Bool.and_true, Bool.true_and]
          rw [hc, e], fun e => by
          rw [List.all_eq_false]
          exact ⟨ps[k], List.getElem_mem hlt, by rw [hc, e]; simp⟩⟩)
      obtain ⟨P, eP⟩ : ∃ P, ps[k] = P := ⟨_, rfl⟩
      rw [eP] at d0 HX
      obtain ⟨W1, hW1⟩ : ∃ W1 : World, wr.alloc (.cells #[.int .i64 P] 3) = W1 := ⟨_, rfl⟩
      have hB1 : Below wr.heap.size wr W1 := by rw [← hW1]; exact (Below.refl _ _).alloc (Nat.le_refl _) _
      have hX1 : W1.heap[wr.heap.size]? = some (.cells #[.int .i64 P] 3 (0, 0)) := by rw [← hW1]; exact heap_alloc_new wr _
      have p0 : W1.cell? ⟨wr.heap.size, 0, none⟩ = some (.int .i64 P) := by rw [Lib.cell_of_heap hX1]; rfl
      have hsr : s ≤ wr.heap.size := by have := HB.out.size; have := HSS.out; omega
      have BW : Hid (Below s w W1) := Lib.hid (HB.out.trans (hB1.mono hsr))
      have k2 : ∀ o : Obj, (wr.alloc o).cell? ⟨q, 2, none⟩ = some (.slice av l.length cv) := fun o => by
        have := below_some (w := wr) ((Below.refl _ wr).alloc (Nat.le_refl _) o) (show wr.heap[q]? = some _ from (HB.out.block q hqs).trans HH.out)
        rw [Lib.cell_of_heap this]; rfl
      have hcall := Lib.hid (containsFunc_any base l _ wr.heap.size P W1 (ownsRow_keeps HV.out fun g cur e _ => below_some (by rw [HSS.out]; exact BW.out) e) p0 hl)
      have hs1 : s ≤ W1.heap.size := by have := hB1.size; omega
      have HW1 := Lib.hid hW1
      clear hW1 hB1 hX1 p0 eP hcell HN
      cases hq : l.any (fun r => decide (r.1 = P)) with
      | true =>
        have HA := Lib.hid ((HX.out true hq).1 rfl)
        rw [hq] at hcall
        clear HX hq
        go_wp2_with fail
        rw [HW1.out]
        refine hcall.out.mono ?_
        rintro e w2 ⟨rfl, hb2⟩
        go_wp2_with fail
        exact ⟨⟨k + 1, by omega, by go_num, HA, Lib.hid (BW.out.trans (hb2.mono hs1))⟩, by simp [intOf]; omega⟩
      | false =>
        have HA := Lib.hid ((HX.out false hq).2 rfl)
        rw [hq] at hcall
        clear HX hq
        go_wp2_with fail
        rw [HW1.out]
        refine hcall.out.mono ?_
        rintro e w2 ⟨rfl, hb2⟩
        go_wp2_with fail
        go_ret
        exact ⟨by rw [HA.out]; rfl, by rw [HSS.out]; exact BW.out.trans (hb2.mono hs1)⟩
    · have hk9 : k = ps.length := by omega
      subst hk9
      rw [List.take_length] at HN
      go_wp2_with fail
      go_ret
      exact ⟨by rw [HN.out]; rfl, by rw [HSS.out]; exact HB.out⟩
end Go.Proofs.YtgjjjdccbpjnfaaGreatDoor
