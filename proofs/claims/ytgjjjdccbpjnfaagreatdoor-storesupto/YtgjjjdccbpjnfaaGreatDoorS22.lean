import Derived.Test.YtgjjjdccbpjnfaaGreatDoorS21
import Derived.Test.YtgjjjdccbpjnfaaGreatDoorS20
import Derived.Test.YtgjjjdccbpjnfaaGreatDoorS07
import Derived.Maps.RangeRun
import Derived.Test.YtgjjjdccbpjnfaaGreatDoorS13
import Derived.Test.YtgjjjdccbpjnfaaGreatDoorS18
import Derived.Lib.ConvBytes
import Derived.Test.YtgjjjdccbpjnfaaGreatDoorS02
import Derived.Lib.SliceRun

/- A record is taken. -/
namespace Go.Proofs.YtgjjjdccbpjnfaaGreatDoor
open Go.RowKit

theorem readMailS_may {l : List UInt8} {m : PMail} (h : readMailS l = some m) : mailMayB m = true := by
  unfold readMailS at h
  split at h
  · cases h
  · split at h
    · rw [Option.bind_eq_some_iff] at h
      obtain ⟨a, _, h⟩ := h
      split at h
      · cases h; assumption
      · cases h
    · cases h
theorem mailMay_tos {m : PMail} (h : mailMayB m = true) : 1 ≤ m.tos.length ∧ m.tos.length ≤ 10 := by
  unfold mailMayB recipB at h
  simp only [Bool.and_eq_true, decide_eq_true_eq] at h
  exact ⟨h.1.2.1.1, h.1.2.1.2⟩
theorem leavingS_rises {l : List UInt8} {x : Nat × List Nat} (h : leavingS l = some x) : risingB x.2 = true := by
  unfold leavingS at h
  rw [Option.bind_eq_some_iff] at h
  obtain ⟨a, _, h⟩ := h
  split at h
  · rename_i hc
    rw [Bool.and_eq_true] at hc
    cases h
    exact hc.2
  · cases h
theorem readFailedS_rises {l : List UInt8} {T id : Nat} {ps : List Nat} (h : readFailedS l = some (T, id, ps)) : risingB ps = true := by
  unfold readFailedS at h
  split at h
  · cases h
  · split at h
    · rw [Option.bind_eq_some_iff] at h
      obtain ⟨a, _, h⟩ := h
      rw [Option.bind_eq_some_iff] at h
      obtain ⟨x, hx, h⟩ := h
      split at h
      · cases h; exact leavingS_rises hx
      · cases h
    · cases h
theorem okM {S S' : PStore} {m : PMail} (hok : S.Ok) (hz : MailSz m) (ht : 1 ≤ m.tos.length ∧ m.tos.length ≤ 10) (h : S.takesM m = some S') : S'.Ok := by
  unfold PStore.takesM at h
  split at h
  · rename_i hc
    rw [Bool.and_eq_true, decide_eq_true_eq] at hc
    cases h
    exact hok.plus hc.1 hz ht.1 ht.2
  · cases h
theorem okG {S S' : PStore} {id : Nat} {ps : List Nat} (hok : S.Ok) (h : S.takesG id ps = some S') : S'.Ok := by
  unfold PStore.takesG at h
  split at h
  · cases h; exact hok.outs _ _
  · cases h
theorem okF {S S' : PStore} {T id : Nat} {ps : List Nat} (hok : S.Ok) (hr : risingB ps = true) (hT : T ≤ 1000000000) (hn : S.items.length < 4294967295) (h : S.takesF T id ps = some S') : S'.Ok := by
  have hc : mayLeaveB S id ps = true ∧ S.time ≤ T := by
    unfold PStore.takesF at h
    split at h
    · rename_i hc
      rwa [Bool.and_eq_true, decide_eq_true_eq] at hc
    · cases h
  obtain ⟨p1, p2⟩ := takesF_plain hr hc.1 hc.2
  have hO : PStore.Ok (PStore.outs ⟨S.items, T⟩ (id - 1) ps) := (hok.time T).outs _ _
  by_cases hF : (S.mailOf (id - 1)).frm = []
  · rw [p1 hF] at h; cases h; exact hO
  · rw [p2 hF] at h
    cases h
    have hlt : id - 1 < S.items.length := by
      have := hc.1
      unfold mayLeaveB at this
      simp only [Bool.and_eq_true, decide_eq_true_eq] at this
      omega
    have hz : MailSz (S.mailOf (id - 1)) := by rw [mailOf_lt hlt]; exact (hok.sz _ (List.getElem_mem hlt)).1
    have hg : (gonesOf (S.stayOf (id - 1)) ps).length ≤ 10 := by have := gones_le (S.stayOf (id - 1)) ps; have := stayOf_le hok (id - 1); omega
    have hs : ∀ t ∈ gonesOf (S.stayOf (id - 1)) ps, t.length ≤ 255 := by
      intro t ht
      rw [gones_names hr hc.1, List.mem_map] at ht
      obtain ⟨i, _, rfl⟩ := ht
      exact getD_le hz.2.2.2.2.1 i
    have hb := namesE_len _ hs
    refine hO.plus (by rw [outs_len]) ⟨by show S.items.length + 1 ≤ _; omega, by show T ≤ _; omega, by simp, by simp, fun t ht => by simp at ht; subst ht; exact hz.2.2.1, by show (namesE _).length ≤ _; omega⟩ (by simp) (by simp)

theorem own_slice {w : World} {base sz n : Nat} {e : TypeId} {v : Value} {xs : List Value} (h : w.ownsRow base e sz v n xs) : ∃ a m c, v = .slice a m c := by
  rcases h.2 with ⟨e, _⟩ | ⟨g, cap, cur, e, _⟩
  · exact ⟨_, _, _, e⟩
  · exact ⟨_, _, _, e⟩
set_option maxHeartbeats 1000000 in
set_option maxRecDepth 100000 in
theorem bagTake_any (base pb mb : Nat) (q : Nat → Nat) (vr : Value) (S : PStore) (l : List UInt8) (n : Int) (w : World) (h : BagIn base w pb mb q vr S) (hok : S.Ok) (hl : l.length ≤ 1048576) (hm : w.cell? ⟨0, 0, none⟩ = some (.int .i64 n)) (hn : S.items.length < 4294967295) :
    Calls Tryz.prog 36 #[.pointer (some ⟨pb, 0, none⟩), .string (bs l)] w fun e w' => TakePost base pb mb q vr S (S.takes l) w e w' ∧ ∀ S', S.takes l = some S' → S'.Ok := by
  have hle := h.le
  have HH := Lib.hid h
  have HW := Lib.hid (takes_ways S l)
  have HM := Lib.hid (readMail_any l n w hl hm)
  clear h hm
  go_enter Tryz.func36, Tryz.ntmps36
  go_wp2_with fail
  refine HM.out.mono ?_
  rintro e w1 ⟨hor, hb1⟩
  have A1 := Lib.hid (HH.out.keep hb1)
  have B1 := Lib.hid hb1
  clear hb1
  rcases hor with ⟨hr, rfl⟩ | ⟨mm, v, hr, rfl, hv, hz⟩
  · rw [hr] at HW
    simp only [mailCells, noMail]
    clear hr
    go_wp2_with fail
    refine (readGone_any l _ hl).mono ?_
    rintro e w3 ⟨hor, hb3⟩
    have A3 := Lib.hid ((A1.out.keep ((Below.refl _ _).alloc (Nat.le_refl _) _)).keep hb3)
    have HB3 := Lib.hid (((B1.out.mono hle).alloc A1.out.le _).trans (hb3.mono (Nat.le_trans A1.out.le (by simp))))
    clear hb3
    rcases hor with ⟨hr, rfl⟩ | ⟨id, ps, v, hr, rfl, hv, hid, hp1, hp2, hp3⟩
    · rw [hr] at HW
      clear hr
      go_wp2_with fail
      refine (readFailed_any l _ hl).mono ?_
      rintro e w5 ⟨hor, hb5⟩
      have A5 := Lib.hid ((A3.out.keep ((Below.refl _ _).alloc (Nat.le_refl _) _)).keep hb5)
      have HB5 := Lib.hid ((HB3.out.alloc A3.out.le _).trans (hb5.mono (Nat.le_trans A3.out.le (by simp))))
      clear hb5
      rcases hor with ⟨hr, rfl⟩ | ⟨T, id, ps, v, hr, rfl, ⟨hv, hid, hp1, hp2, hp3⟩, hT⟩
      · rw [hr] at HW
        have HWF : Hid (S.takes l = none) := Lib.hid HW.out
        clear hr HW
        go_wp2_with fail
        go_ret
        exact ⟨⟨.inl ⟨HWF.out, rfl, A5.out.keep ((Below.refl _ _).alloc (Nat.le_refl _) _)⟩, HB5.out.alloc A5.out.le _⟩, fun S' hS => by rw [HWF.out] at hS; cases hS⟩
      · have hrise := readFailedS_rises hr
        rw [hr] at HW
        have HWF : Hid (S.takes l = S.takesF T id ps) := Lib.hid HW.out
        obtain ⟨av, nv, cv, rfl⟩ := own_slice hv
        obtain ⟨W6, hW6⟩ : ∃ W6 : World, w5.alloc (.cells #[.int .i64 id, .slice av nv cv] 127) = W6 := ⟨_, rfl⟩
        have B6 : Below w5.heap.size w5 W6 := by rw [← hW6]; exact (Below.refl _ _).alloc (Nat.le_refl _) _
        have HT := Lib.hid (takeFailed_any base pb mb q vr _ S T id ps W6 (A5.out.keep B6) hok _ (ownsRow_keeps hv fun g cur e _ => below_some B6 e) hid hp1 hp2 hrise hT hn)
        have HB6 := Lib.hid (HB5.out.trans (B6.mono A5.out.le))
        have HOK : Hid (∀ S', S.takes l = some S' → S'.Ok) := Lib.hid (fun S' hS => okF hok hrise hT hn (by rw [← HWF.out]; exact hS))
        have HW6 := Lib.hid hW6
        clear hr HW B6 hW6 hv hid hp1 hp2 hp3 hrise hT
        go_wp2_with fail
        rw [HW6.out]
        refine HT.out.mono ?_
        rintro e w7 ⟨hor, hb7⟩
        have HB7 := Lib.hid (HB6.out.trans hb7)
        clear hb7
        rcases hor with ⟨h9, rfl, hA⟩ | ⟨S', q', h9, rfl, hA⟩
        · go_wp2_with fail
          go_ret
          exact ⟨⟨.inl ⟨HWF.out.trans h9, rfl, hA⟩, HB7.out⟩, HOK.out⟩
        · go_wp2_with fail
          go_ret
          exact ⟨⟨.inr ⟨S', q', HWF.out.trans h9, rfl, hA⟩, HB7.out⟩, HOK.out⟩
    · rw [hr] at HW
      have HWF : Hid (S.takes l = S.takesG id ps) := Lib.hid HW.out
      obtain ⟨av, nv, cv, rfl⟩ := own_slice hv
      obtain ⟨W4, hW4⟩ : ∃ W4 : World, w3.alloc (.cells #[.int .i64 id, .slice av nv cv] 127) = W4 := ⟨_, rfl⟩
      have B4 : Below w3.heap.size w3 W4 := by rw [← hW4]; exact (Below.refl _ _).alloc (Nat.le_refl _) _
      have HT := Lib.hid (takeGone_any base pb mb q vr _ S id ps W4 (A3.out.keep B4) hok (row_of_own' (ownsRow_keeps hv fun g cur e _ => below_some B4 e)) hid hp1 hp2 (by omega))
      have HB4 := Lib.hid (HB3.out.trans (B4.mono A3.out.le))
      have HOK : Hid (∀ S', S.takes l = some S' → S'.Ok) := Lib.hid (fun S' hS => okG hok (by rw [← HWF.out]; exact hS))
      have HW4 := Lib.hid hW4
      clear hr HW B4 hW4 hv hid hp1 hp2 hp3
      go_wp2_with fail
      rw [HW4.out]
      refine HT.out.mono ?_
      rintro e w7 ⟨hor, hb7⟩
      have HB7 := Lib.hid (HB4.out.trans hb7)
      clear hb7
      rcases hor with ⟨h9, rfl, hA⟩ | ⟨S', q', h9, rfl, hA⟩
      · go_wp2_with fail
        go_ret
        exact ⟨⟨.inl ⟨HWF.out.trans h9, rfl, hA⟩, HB7.out⟩, HOK.out⟩
      · go_wp2_with fail
        go_ret
        exact ⟨⟨.inr ⟨S', q', HWF.out.trans h9, rfl, hA⟩, HB7.out⟩, HOK.out⟩
  · rw [hr] at HW
    have HWF : Hid (S.takes l = S.takesM mm) := Lib.hid HW.out
    have hmay := mailMay_tos (readMailS_may hr)
    obtain ⟨av, nv, cv, rfl⟩ := own_slice hv
    obtain ⟨W2, hW2⟩ : ∃ W2 : World, w1.alloc (.cells #[.int .i64 mm.id, .int .i64 mm.time, .string (bs mm.frm), .slice av nv cv, .string (bs mm.body)] 26) = W2 := ⟨_, rfl⟩
    have B2 : Below w1.heap.size w1 W2 := by rw [← hW2]; exact (Below.refl _ _).alloc (Nat.le_refl _) _
    have HT := Lib.hid (takeMail_any base pb mb q vr S mm _ W2 (A1.out.keep B2) _ (ownsRow_keeps hv fun g cur e _ => below_some B2 e) hz hmay.1 hn)
    have HB2 := Lib.hid ((B1.out.mono hle).trans (B2.mono A1.out.le))
    have HOK : Hid (∀ S', S.takes l = some S' → S'.Ok) := Lib.hid (fun S' hS => okM hok hz hmay (by rw [← HWF.out]; exact hS))
    have HW2 := Lib.hid hW2
    simp only [mailCells]
    clear hr hmay B2 hW2 hv hz HW
    go_wp2_with fail
    rw [HW2.out]
    refine HT.out.mono ?_
    rintro e w7 ⟨hor, hb7⟩
    have HB7 := Lib.hid (HB2.out.trans hb7)
    clear hb7
    rcases hor with ⟨h9, rfl, hA⟩ | ⟨S', q', h9, rfl, hA⟩
    · go_wp2_with fail
      go_ret
      exact ⟨⟨.inl ⟨HWF.out.trans h9, rfl, hA⟩, HB7.out⟩, HOK.out⟩
    · go_wp2_with fail
      go_ret
      exact ⟨⟨.inr ⟨S', q', HWF.out.trans h9, rfl, hA⟩, HB7.out⟩, HOK.out⟩
end Go.Proofs.YtgjjjdccbpjnfaaGreatDoor

/- All mail is made due. -/
namespace Go.Proofs.YtgjjjdccbpjnfaaGreatDoor
open Go.RowKit
open Go.ChangeMaps (setBlock)

section
variable {base pb mb : Nat} {q : Nat → Nat} {vr : Value} {S : PStore} {w w' : World}
theorem BagIn.dued (h : BagIn base w pb mb q vr S) {i : Nat} (hi : i ∈ S.live) (T : Int) : BagIn base (w.setCell ⟨q i, 4, none⟩ (.int .i64 T)) pb mb q vr S := by
  have S1 : Same (q i) w (w.setCell ⟨q i, 4, none⟩ (.int .i64 T)) := (Same.refl _ _).setCell _
  obtain ⟨ai, vi, xi, bi, ci⟩ := h.mail i hi
  refine ⟨same_some S1 h.bag (fun e => ?_), same_some S1 h.map (fun e => ?_), h.pbb, h.mbb, h.one, fun j hj => ?_⟩
  · unfold BmAt at bi; rw [← e, h.bag] at bi; simp at bi
  · have := h.map
    unfold MapIn at this
    unfold BmAt at bi
    rw [e, bi] at this
    simp at this
  · obtain ⟨a, v, x, b, c⟩ := h.mail j hj
    have rows : (w.setCell ⟨q i, 4, none⟩ (.int .i64 T)).ownsRow base 140 2 v (S.stayOf j).length (recCells (S.stayOf j)) := ownsRow_keeps c fun g cur e _ => same_some S1 e fun e' => by
      unfold BmAt at bi
      rw [e', bi] at e
      simp at e
    by_cases e : j = i
    · subst e
      have h1 := heap_setCell_same w (q j) 4 _ _ (.int .i64 T) b
      exact ⟨a, v, (T, x.2), h1, rows⟩
    · exact ⟨a, v, x, same_some S1 b (fun e' => e (h.one j hj i hi e')), rows⟩
end

theorem left_live {q : Nat → Nat} {l : List Nat} {seen : Array Nat} {e : MapEntry} (h : e ∈ (Go.leftOf (ents q l) seen).toList) : ∃ i ∈ l, e = ent q i := by
  unfold Go.leftOf at h
  simp only [Array.toList_filter, List.mem_filter, ents_list] at h
  obtain ⟨i, hi, rfl⟩ := List.mem_map.1 h.1
  exact ⟨i, hi, rfl⟩
theorem born_nodup {q : Nat → Nat} {l : List Nat} (h : l.Nodup) : ((ents q l).toList.map (·.born)).Nodup := by
  rw [ents_list, List.map_map]
  have e : ((fun x : MapEntry => x.born) ∘ ent q) = id := by funext i; rfl
  rw [e, List.map_id]
  exact h
theorem left_less {es : Array MapEntry} {seen : Array Nat} {e : MapEntry} (h : e ∈ (Go.leftOf es seen).toList) : (Go.leftOf es (seen.push e.born)).size < (Go.leftOf es seen).size := by
  unfold Go.leftOf at h ⊢
  have e1 : ∀ p : MapEntry → Bool, (es.filter p).size = (es.toList.filter p).length := fun p => by rw [← Array.toList_filter, Array.length_toList]
  rw [e1, e1]
  rw [Array.toList_filter, List.mem_filter] at h
  refine filter_lt _ _ (fun x hx => ?_) e h.2 ?_ es.toList h.1
  · simp only [Array.contains_push, Bool.not_eq_true', Bool.or_eq_false_iff] at hx ⊢
    exact hx.1
  · simp

theorem iterSeen_at {W : World} {r b c : Nat} {a : Option Nat} {s : Array Nat} (h : W.heap[r]? = some (.mapIter a b s c)) : W.iterSeen r = s := by
  unfold World.iterSeen
  rw [h]

/-- the loop's iterator lies in block r -/
structure DueS (w W : World) (base pb mb : Nat) (q : Nat → Nat) (vr : Value) (S : PStore) (r : Nat) (seen : Array Nat) : Prop where
  bag : BagIn base W pb mb q vr S
  it : W.heap[r]? = some (.mapIter (some mb) S.items.length seen S.items.length)
  touch : Touch [136] w W
  below : Below base w W

theorem same_setIter (W : World) (r : Nat) (o : Obj) : Same r W (setBlock W r o) :=
  ⟨by simp [setBlock], fun k hk => by simp [setBlock, Ne.symm hk], ⟨rfl, rfl, rfl⟩⟩
theorem iter_at {W : World} {r : Nat} (h : r < W.heap.size) (o : Obj) : (setBlock W r o).heap[r]? = some o := by simp [setBlock, h]
theorem touch_new {ts : List TypeId} {a b c : World} {r : Nat} (h : Touch ts a b) (hr : a.heap.size ≤ r) (hs : Same r b c) : Touch ts a c :=
  ⟨by rw [hs.1]; exact h.1, fun k o e n => (hs.2 k (by have := heap_some_lt e; omega)).trans (h.2 k o e n), h.3.trans hs.3⟩
section
variable {w W : World} {base pb mb : Nat} {q : Nat → Nat} {vr : Value} {S : PStore} {r : Nat} {seen : Array Nat}
theorem DueS.step (h : DueS w W base pb mb q vr S r seen) (hr : w.heap.size ≤ r) (hb : base ≤ w.heap.size) (seen' : Array Nat) : DueS w (setBlock W r (.mapIter (some mb) S.items.length seen' S.items.length)) base pb mb q vr S r seen' := by
  have S1 := same_setIter W r (.mapIter (some mb) S.items.length seen' S.items.length)
  refine ⟨⟨same_some S1 h.bag.bag (fun e => ?_), same_some S1 h.bag.map (fun e => ?_), h.bag.pbb, h.bag.mbb, h.bag.one, fun i hi => ?_⟩, iter_at (heap_some_lt h.it) _, touch_new h.touch hr S1, h.below.trans (S1.below (by omega))⟩
  · have := h.bag.bag; rw [e, h.it] at this; simp at this
  · have := h.bag.map; unfold MapIn at this; rw [e, h.it] at this; simp at this
  · obtain ⟨a, v, x, b, c⟩ := h.bag.mail i hi
    refine ⟨a, v, x, same_some S1 b (fun e => ?_), ownsRow_keeps c fun g cur e _ => same_some S1 e fun e' => ?_⟩
    · unfold BmAt at b; rw [e, h.it] at b; simp at b
    · rw [e', h.it] at e; simp at e
theorem DueS.drew (h : DueS w W base pb mb q vr S r seen) : DueS w W.drew base pb mb q vr S r seen :=
  ⟨h.bag.keep ((Below.refl _ _).drew), h.it, h.touch.trans (Touch.below ((Below.refl _ _).drew)), h.below.drew⟩
theorem DueS.put (h : DueS w W base pb mb q vr S r seen) {i : Nat} (hi : i ∈ S.live) (T : Int) : DueS w (W.setCell ⟨q i, 4, none⟩ (.int .i64 T)) base pb mb q vr S r seen := by
  have S1 : Same (q i) W (W.setCell ⟨q i, 4, none⟩ (.int .i64 T)) := (Same.refl _ _).setCell _
  obtain ⟨a, v, x, b, c⟩ := h.bag.mail i hi
  refine ⟨h.bag.dued hi T, same_some S1 h.it (fun e => ?_), h.touch.same b (by simp) S1, h.below.trans (S1.below a)⟩
  unfold BmAt at b
  rw [← e, h.it] at b
  simp at b
end

set_option maxHeartbeats 1000000 in
set_option maxRecDepth 100000 in
theorem makeAllDue_any (base pb mb : Nat) (q : Nat → Nat) (vr : Value) (S : PStore) (w : World) (h : BagIn base w pb mb q vr S) :
    Calls Tryz.prog 37 #[.pointer (some ⟨pb, 0, none⟩)] w fun e w' => e = .returned (.tuple #[]) ∧ BagIn base w' pb mb q vr S ∧ Touch [136] w w' ∧ Below base w w' := by
  have hle := h.le
  have hrg := run_range_map (P := Tryz.prog) w 85 3 96 mb (ents q S.live) S.items.length Tryz.underlying85 h.map
  have c3 : w.cell? ⟨pb, 3, none⟩ = some (.map (some mb)) := by rw [Lib.cell_of_heap h.bag]; rfl
  have D0 : DueS w (w.alloc (.mapIter (some mb) S.items.length #[] S.items.length)) base pb mb q vr S w.heap.size #[] :=
    have hb : Below w.heap.size w (w.alloc (.mapIter (some mb) S.items.length #[] S.items.length)) := (Below.refl _ _).alloc (Nat.le_refl _) _
    ⟨h.keep hb, heap_alloc_new w _, Touch.below hb, hb.mono hle⟩
  have HD0 := Lib.hid D0
  clear h D0
  go_enter Tryz.func37, Tryz.ntmps37
  go_wp2_with fail
  obtain ⟨W0, hW0⟩ : ∃ W0 : World, w.alloc (.mapIter (some mb) S.items.length #[] S.items.length) = W0 := ⟨_, rfl⟩
  rw [hW0] at HD0 ⊢
  clear hW0 hrg c3
  go_loopw [] (fun w' => ∃ seen : Array Nat, Hid (DueS w w' base pb mb q vr S w.heap.size seen)) (fun w' => (Go.leftOf (ents q S.live) (w'.iterSeen w.heap.size)).size)
  case atStart => exact ⟨#[], HD0⟩
  case round =>
    obtain ⟨seen, HD⟩ := hrel
    have hn := run_next_at (P := Tryz.prog) wr 0 w.heap.size mb S.items.length S.items.length seen (ents q S.live) S.items.length HD.out.it HD.out.bag.map (fun x hx => by
      rw [ents_list] at hx
      obtain ⟨i, hi, rfl⟩ := List.mem_map.1 hx
      exact live_lt hi) (Nat.le_refl _)
    rcases hn with ⟨_, hrun⟩ | ⟨e, he, w1, hw1, hrun⟩
    · go_wp2_with fail
      refine bodyPost_end (results_none rfl _ _ _) rfl ?_
      exact ⟨rfl, HD.out.bag, HD.out.touch, HD.out.below⟩
    · obtain ⟨i, hi, rfl⟩ := left_live he
      have hless := Lib.hid (left_less he)
      have D1 : DueS w w1 base pb mb q vr S w.heap.size seen := by
        rcases hw1 with rfl | rfl
        · exact HD.out
        · exact HD.out.drew
      have D2 := D1.step (Nat.le_refl _) hle (seen.push (ent q i).born)
      obtain ⟨W2, hW2⟩ : ∃ W2 : World, setBlock w1 w.heap.size (.mapIter (some mb) S.items.length (seen.push (ent q i).born) S.items.length) = W2 := ⟨_, rfl⟩
      rw [hW2] at hrun D2
      have hent := run_entry_at (P := Tryz.prog) W2 w.heap.size mb S.items.length seen (ents q S.live) S.items.length (ent q i) D2.it D2.bag.map (by rw [ents_list]; exact List.mem_map.2 ⟨i, hi, rfl⟩) (born_nodup (live_nodup S))
      have c1 : W2.cell? ⟨pb, 1, none⟩ = some (.int .i64 S.time) := by rw [Lib.cell_of_heap D2.bag.bag]; rfl
      obtain ⟨_, v, x, b, _⟩ := D2.bag.mail i hi
      have c4 : W2.cell? ⟨q i, 4, none⟩ = some (.int .i64 x.1) := by rw [Lib.cell_of_heap b]; rfl
      have f4 := Lib.frozen_of_heap b 4
      have HD3 := Lib.hid (D2.put hi S.time)
      have HDW := Lib.hid HD.out.it
      have hval : (ent q i).val = .pointer (some ⟨q i, 0, none⟩) := rfl
      have hkey : (ent q i).key = .int .i64 ((i : Int) + 1) := rfl
      rw [hval, hkey] at hrun hent
      clear hval hkey hW2 D1 D2 b hw1 he HD
      go_wp2_with fail
      exact ⟨⟨_, HD3⟩, by rw [iterSeen_at HD3.out.it, iterSeen_at HDW.out]; exact hless.out⟩
end Go.Proofs.YtgjjjdccbpjnfaaGreatDoor

/- The bag is read of what was kept. -/
namespace Go.Proofs.YtgjjjdccbpjnfaaGreatDoor
open Go.RowKit
open Go.Lib (bytesWorld bytesWorld_size bytesWorld_at_old bytesWorld_cell)

/-- bytes in a row -/
def RecsAt (w : World) (v : Value) (l : List UInt8) : Prop := ∃ g cap cur z, v = .slice (some ⟨g, 0, none⟩) l.length cap ∧ w.heap[g]? = some (.cells cur 5 z) ∧ ∀ j, j < l.length → w.cell? ⟨g, j, none⟩ = some (.int .u8 (l.getD j 0).toNat)
theorem RecsAt.moves {w w' : World} {v : Value} {l : List UInt8} (h : RecsAt w v l) (hk : ∀ (g : Nat) (cur : Array Value) (z : Nat × Nat), w.heap[g]? = some (.cells cur 5 z) → w'.heap[g]? = some (.cells cur 5 z)) : RecsAt w' v l := by
  obtain ⟨g, cap, cur, z, e, hg, hc⟩ := h
  have hg' := hk g cur z hg
  exact ⟨g, cap, cur, z, e, hg', fun j hj => (World.cell?_of_block (w := w) (hg'.trans hg.symm)).trans (hc j hj)⟩
theorem RecsAt.keep {w w' : World} {v : Value} {l : List UInt8} (h : RecsAt w v l) (hb : Below w.heap.size w w') : RecsAt w' v l := h.moves fun _g _cur _z e => below_some hb e
theorem BagIn.nil {w : World} : BagIn w.heap.size ((w.alloc (.map #[] 0)).alloc (.cells #[.slice none 0 0, .int .i64 0, .int .i64 0, .map (some w.heap.size)] 88)) (w.heap.size + 1) w.heap.size (fun _ => 0) (.slice none 0 0) ⟨[], 0⟩ := by
  have h1 : ((w.alloc (.map #[] 0)).alloc (.cells #[.slice none 0 0, .int .i64 0, .int .i64 0, .map (some w.heap.size)] 88)).heap[w.heap.size + 1]? = some (.cells #[.slice none 0 0, .int .i64 0, .int .i64 0, .map (some w.heap.size)] 88 (0, 0)) := by
    have := heap_alloc_new (w.alloc (.map #[] 0)) (.cells #[.slice none 0 0, .int .i64 0, .int .i64 0, .map (some w.heap.size)] 88)
    simpa using this
  refine ⟨h1, ?_, by omega, Nat.le_refl _, fun i hi => ?_, fun i hi => ?_⟩
  · exact below_some ((Below.refl _ _).alloc (Nat.le_refl _) _) (heap_alloc_new w (.map #[] 0))
  · have := live_lt hi; simp at this
  · have := live_lt hi; simp at this
theorem below_bytes {W : World} {e : TypeId} {x : ByteArray} : Below W.heap.size W (bytesWorld W e x) :=
  ⟨by simp [bytesWorld, World.freeze, World.alloc, World.drew, -World.alloc_eq, -World.drew_eq], by simp [bytesWorld, World.freeze, World.alloc, World.drew, -World.alloc_eq, -World.drew_eq], by simp [bytesWorld, World.freeze, World.alloc, World.drew, -World.alloc_eq, -World.drew_eq], by rw [bytesWorld_size]; omega, fun k hk => bytesWorld_at_old W e x k hk⟩
/-- the records are laid -/
theorem read_end {s pb mb k : Nat} {q : Nat → Nat} {vr : Value} {S : PStore} {w W : World} {l : List UInt8} (h : BagIn s W pb mb q vr S) (hb : Below s w W) :
    let v := Value.slice (some ⟨W.heap.size, 0, none⟩) (bs (l.take k)).size (grownCap W (bs (l.take k)).size 0 5)
    let W2 := (bytesWorld W 5 (bs (l.take k))).setCell ⟨pb, 0, none⟩ v
    BagIn s W2 pb mb q v S ∧ RecsAt W2 v (l.take k) ∧ Below s w W2 := by
  intro v W2
  have A1 := h.keep (below_bytes (e := 5) (x := bs (l.take k)))
  have S2 : Same pb (bytesWorld W 5 (bs (l.take k))) W2 := (Same.refl _ _).setCell _
  have hlt := h.pblt
  refine ⟨A1.timed (T := S.time) S2 (heap_setCell_same _ pb 0 _ _ v A1.bag), ⟨W.heap.size, _, _, _, by rw [← bs_size], same_some S2 (Lib.bytesWorld_at_new W 5 _) (by omega), fun j hj => ?_⟩, ?_⟩
  · have e1 : W2.cell? ⟨W.heap.size, j, none⟩ = (bytesWorld W 5 (bs (l.take k))).cell? ⟨W.heap.size, j, none⟩ := World.cell?_of_block (S2.2 W.heap.size (by omega))
    rw [e1, bytesWorld_cell _ _ _ _ (by rw [bs_size]; exact hj), bs_toList]
  · exact (hb.trans (below_bytes.mono h.le)).trans (S2.below h.pbb)

theorem cutS_drop {l : List UInt8} {c : List UInt8 × List UInt8} (h : cutS l = some c) : c.2 = l.drop (8 + c.1.length) := by
  rw [cut_doc] at h
  split at h
  · cases h
  · rename_i hn
    cases h
    have h1 : ((l.drop 8).take (be (l.take 4))).length = be (l.take 4) := by rw [List.length_take, List.length_drop]; omega
    simp only
    rw [h1, List.drop_drop]

set_option maxHeartbeats 1000000 in
set_option maxRecDepth 100000 in
theorem bagRead_any (l : List UInt8) (n : Int) (w : World) (hl : l.length ≤ 1048576) (hm : w.cell? ⟨0, 0, none⟩ = some (.int .i64 n)) :
    Calls Tryz.prog 16 #[.string (bs l)] w fun e w' => ∃ pb mb q vr, e = .returned (.pointer (some ⟨pb, 0, none⟩)) ∧ BagIn w.heap.size w' pb mb q vr (readS l).1 ∧ (readS l).1.Ok ∧ RecsAt w' vr (l.take (readS l).2) ∧ (∀ g, vr.ownBlock = some g → w.heap.size ≤ g) ∧ Below w.heap.size w w' := by
  obtain ⟨W0, hW0⟩ : ∃ W0 : World, (w.alloc (.map #[] 0)).alloc (.cells #[.slice none 0 0, .int .i64 0, .int .i64 0, .map (some w.heap.size)] 88) = W0 := ⟨_, rfl⟩
  have HS0 : Hid (BagIn w.heap.size W0 (w.heap.size + 1) w.heap.size (fun _ => 0) (.slice none 0 0) ⟨[], 0⟩) := Lib.hid (by rw [← hW0]; exact BagIn.nil)
  have HB0 : Hid (Below w.heap.size w W0) := Lib.hid (by rw [← hW0]; exact ((Below.refl _ _).alloc (Nat.le_refl _) _).alloc (by simp) _)
  have sl := bs_size l
  have HW0 := Lib.hid hW0
  have HM := Lib.hid hm
  have hmm := @run_makeMap Tryz.prog
  have hcv : ∀ (W : World) (x : ByteArray), (convert 9 86 (.string x)).run Tryz.prog W = .ok (.slice (some ⟨W.heap.size, 0, none⟩) x.size (grownCap W x.size 0 5)) (bytesWorld W 5 x) := fun W x => Lib.run_convert_string_bytes W _ _ _ x Tryz.underlying9 Tryz.underlying86 Tryz.underlying5
  clear hW0 hm
  go_enter Tryz.func16, Tryz.ntmps16
  go_wp2_with fail
  rw [HW0.out]
  go_loopw [4] (fun v w' => ∃ (k f : Nat) (S : PStore) (q : Nat → Nat), v = .int .i64 k ∧ k ≤ l.length ∧ 8 * S.items.length ≤ k ∧ Hid (l.length + 1 ≤ k + f) ∧ Hid (S.time ≤ 1000000000) ∧ Hid S.Ok ∧ Hid (BagIn w.heap.size w' (w.heap.size + 1) w.heap.size q (.slice none 0 0) S) ∧ Hid (Below w.heap.size w w') ∧ Hid (readS l = readF f S k (l.drop k))) (fun v _ => l.length - (intOf v).toNat)
  case atStart => exact ⟨0, l.length + 1, ⟨[], 0⟩, _, rfl, Nat.zero_le _, by simp, Lib.hid (by omega), Lib.hid (by simp), Lib.hid (PStore.Ok.nil 0), HS0, HB0, Lib.hid rfl⟩
  case round =>
    clear HS0 HB0
    obtain ⟨k, f, S, q, rfl, hk, hS, HF, HT, HO, HS, HB, HR⟩ := hrel
    obtain ⟨f, rfl⟩ : ∃ g, f = g + 1 := ⟨f - 1, by have := HF.out; omega⟩
    obtain ⟨R, eR⟩ : ∃ R, l.drop k = R := ⟨_, rfl⟩
    have hRl : R.length = l.length - k := by rw [← eR, List.length_drop]
    rw [eR] at HR
    have HER := Lib.hid eR
    have HEX : Hid ((bs l).extract k l.length = bs R) := Lib.hid (by rw [bs_extract, List.take_length, eR])
    clear eR
    go_wp2_with fail
    rw [HEX.out]
    refine (recCut_any R wr (by unfold maxLen; omega)).mono ?_
    rintro e w1 ⟨rfl, ht1⟩
    have hb1 : Below wr.heap.size wr w1 := ht1.toBelow (Nat.le_refl _)
    have A1 := Lib.hid (HS.out.keep hb1)
    have B1 := Lib.hid (HB.out.trans (hb1.mono HS.out.le))
    clear ht1 hb1
    have HE0 : Hid (∀ (W : World) (q' : Nat → Nat), BagIn w.heap.size W (w.heap.size + 1) w.heap.size q' (.slice none 0 0) S → ∀ x : ByteArray, (bytesWorld W 5 x).cell? ⟨w.heap.size + 1, 0, none⟩ = some (.slice none 0 0) ∧ (bytesWorld W 5 x).frozen? ⟨w.heap.size + 1, 0, none⟩ = false) := Lib.hid (fun W q' hA x => by
      have := (hA.keep (below_bytes (e := 5) (x := x))).bag
      exact ⟨by rw [Lib.cell_of_heap this]; rfl, Lib.frozen_of_heap this 0⟩)
    have HX0 : Hid ((bs l).extract 0 k = bs (l.take k)) := Lib.hid (by rw [bs_extract, List.drop_zero])
    have sk : (bs (l.take k)).size = k := by rw [bs_size, List.length_take]; omega
    cases hc : cutS R with
    | none =>
      have HRR := Lib.hid (HR.out.trans (readF_no hc))
      have g0 := fun x => (HE0.out w1 q A1.out x).1
      have g1 := fun x => (HE0.out w1 q A1.out x).2
      clear hc
      simp only [CutRet]
      go_wp2_with fail
      rw [HX0.out]
      obtain ⟨Y1, Y2, Y3⟩ := read_end (l := l) (k := k) A1.out B1.out
      have HB9 := B1.out
      rw [sk] at Y1 Y2 Y3
      refine (makeAllDue_any _ _ _ _ _ _ _ Y1).mono ?_
      rintro e w9 ⟨rfl, A9, T9, B9⟩
      have HA9 := Lib.hid A9
      have HR9 := Lib.hid (Y2.moves fun g cur z e => T9.cells e (by decide))
      have HY9 := Lib.hid (Y3.trans B9)
      clear A9 T9 B9 Y1 Y2 Y3
      go_wp2_with fail
      go_ret
      exact ⟨w.heap.size + 1, w.heap.size, q, _, rfl, by rw [HRR.out]; exact HA9.out, by rw [HRR.out]; exact HO.out, by rw [HRR.out]; exact HR9.out, fun g e => (by injection e with e; simp only at e; rw [← e]; exact HB9.size), HY9.out⟩
    | some c =>
      have hcl := cutS_len hc
      obtain ⟨c1, c2⟩ := c
      simp only at hcl
      have hm1 : w1.cell? ⟨0, 0, none⟩ = some (.int .i64 n) := (B1.out.cell (by exact block_lt HM.out)).trans HM.out
      have HTK := Lib.hid (bagTake_any w.heap.size (w.heap.size + 1) w.heap.size q (.slice none 0 0) S c1 n w1 A1.out HO.out (by omega) hm1 (by omega))
      have HNO : Hid (S.takes c1 = none → readS l = (S, k)) := Lib.hid (fun ht => HR.out.trans (readF_not hc ht))
      have HYES : Hid (∀ S', S.takes c1 = some S' → readS l = readF f S' (k + 8 + c1.length) (l.drop (k + 8 + c1.length)) ∧ 8 * S'.items.length ≤ k + 8 + c1.length ∧ S'.time ≤ 1000000000) := Lib.hid (fun S' ht => by
        have hz := takes_sizes ht HT.out
        refine ⟨?_, by omega, hz.2⟩
        rw [HR.out, readF_yes hc ht]
        rw [show l.drop (k + 8 + c1.length) = c2 by
          have e9 := cutS_drop hc
          simp only at e9
          rw [e9, ← HER.out, List.drop_drop]
          congr 1; omega])
      have s1 := bs_size c1
      have s2 := bs_size c2
      clear hc hm1
      simp only [CutRet]
      go_wp2_with fail
      refine HTK.out.mono ?_
      intro e w2 hpost
      obtain ⟨hT, hokk⟩ := hpost
      unfold TakePost at hT
      obtain ⟨hor, hb2⟩ := hT
      have B2 := Lib.hid (B1.out.trans hb2)
      have HOK := Lib.hid hokk
      clear hb2 hokk
      rcases hor with ⟨h9, rfl, hA⟩ | ⟨S', q', h9, rfl, hA⟩
      · have HRR := Lib.hid (HNO.out h9)
        have g0 := fun x => (HE0.out w2 q hA x).1
        have g1 := fun x => (HE0.out w2 q hA x).2
        have A2 := Lib.hid hA
        clear h9 hA
        go_wp2_with fail
        rw [HX0.out]
        obtain ⟨Y1, Y2, Y3⟩ := read_end (l := l) (k := k) A2.out B2.out
        have HB9 := B2.out
        rw [sk] at Y1 Y2 Y3
        refine (makeAllDue_any _ _ _ _ _ _ _ Y1).mono ?_
        rintro e w9 ⟨rfl, A9, T9, B9⟩
        have HA9 := Lib.hid A9
        have HR9 := Lib.hid (Y2.moves fun g cur z e => T9.cells e (by decide))
        have HY9 := Lib.hid (Y3.trans B9)
        clear A9 T9 B9 Y1 Y2 Y3
        go_wp2_with fail
        go_ret
        exact ⟨w.heap.size + 1, w.heap.size, q, _, rfl, by rw [HRR.out]; exact HA9.out, by rw [HRR.out]; exact HO.out, by rw [HRR.out]; exact HR9.out, fun g e => (by injection e with e; simp only at e; rw [← e]; exact HB9.size), HY9.out⟩
      · have HRR := Lib.hid (HYES.out S' h9)
        have HO2 := Lib.hid (HOK.out S' h9)
        have A2 := Lib.hid hA
        have hwr : IntKind.i64.wrap ((l.length : Int) - (c2.length : Int)) = ((k + 8 + c1.length : Nat) : Int) := by rw [IntKind.wrap_i64]; omega
        clear h9 hA
        go_wp2_with fail
        exact ⟨⟨k + 8 + c1.length, f, S', q', rfl, by omega, HRR.out.2.1, Lib.hid (by have := HF.out; omega), Lib.hid HRR.out.2.2, HO2, A2, B2, Lib.hid HRR.out.1⟩, by simp only [intOf]; omega⟩
end Go.Proofs.YtgjjjdccbpjnfaaGreatDoor

/- A post, and what it keeps. -/
namespace Go.Proofs.YtgjjjdccbpjnfaaGreatDoor
open Go.RowKit

/-- a post that was opened of l -/
def PostIn (base : Nat) (w : World) (pp : Nat) (l : List UInt8) : Prop :=
  ∃ pb mb q vr, (∃ C : Array Value, w.heap[pp]? = some (.cells C 54 (0, 0)) ∧ C[9]? = some (.pointer (some ⟨pb, 0, none⟩))) ∧ BagIn base w pb mb q vr (readS l).1 ∧ (readS l).1.Ok ∧ RecsAt w vr (l.take (readS l).2) ∧ base ≤ pp ∧ ∀ g, vr.ownBlock = some g → base ≤ g
theorem PostIn.keep {base pp : Nat} {w w' : World} {l : List UInt8} (h : PostIn base w pp l) (hb : Below w.heap.size w w') : PostIn base w' pp l := by
  obtain ⟨pb, mb, q, vr, ⟨C, h1, hC⟩, h2, h3, h4, h5⟩ := h
  exact ⟨pb, mb, q, vr, ⟨C, below_some hb h1, hC⟩, h2.keep hb, h3, h4.keep hb, h5⟩

set_option maxHeartbeats 400000 in
theorem bagKept_any (base pb mb : Nat) (q : Nat → Nat) (vr : Value) (S : PStore) (l : List UInt8) (w : World) (h : BagIn base w pb mb q vr S) (hr : RecsAt w vr l) :
    Calls Tryz.prog 17 #[.pointer (some ⟨pb, 0, none⟩)] w fun e w' => e = .returned (.string (bs l)) ∧ w = w' := by
  obtain ⟨g, cap, _, _, rfl, _, hc⟩ := hr
  have c0 : w.cell? ⟨pb, 0, none⟩ = some (.slice (some ⟨g, 0, none⟩) l.length cap) := by rw [Lib.cell_of_heap h.bag]; rfl
  have hcv := bytes_back w g cap l.length l rfl hc
  clear hc h
  go_enter Tryz.func17, Tryz.ntmps17
  go_wp2_with fail
  go_ret
  exact ⟨rfl, rfl⟩
set_option maxHeartbeats 400000 in
theorem postKept_any (base pp : Nat) (l : List UInt8) (w : World) (h : PostIn base w pp l) :
    Calls Tryz.prog 8 #[.pointer (some ⟨pp, 0, none⟩)] w fun e w' => e = .returned (.tuple #[.string (bs (l.take (readS l).2)), .int .i64 0]) ∧ w = w' := by
  obtain ⟨pb, mb, q, vr, ⟨C, h1, hC⟩, h2, h3, h4, _⟩ := h
  have c0 : w.cell? ⟨pp, 9, none⟩ = some (.pointer (some ⟨pb, 0, none⟩)) := by rw [Lib.cell_of_heap h1]; exact hC
  have HK := Lib.hid (bagKept_any base pb mb q vr _ _ w h2 h4)
  clear h1 h2 h3 h4 hC
  go_enter Tryz.func8, Tryz.ntmps8
  go_wp2_with fail
  refine HK.out.mono ?_
  rintro e w' ⟨rfl, rfl⟩
  go_wp2_with fail
  go_ret2
  exact ⟨rfl, rfl⟩
set_option maxHeartbeats 400000 in
theorem postKept_nil (w : World) : Calls Tryz.prog 8 #[.pointer none] w fun e w' => e = .returned (.tuple #[.string (bs []), .int .i64 1]) ∧ w = w' := by
  go_enter Tryz.func8, Tryz.ntmps8
  go_wp2_with fail
  go_ret2
  exact ⟨rfl, rfl⟩
set_option maxHeartbeats 400000 in
theorem postQueue_nil (w : World) : Calls Tryz.prog 9 #[.pointer none] w fun e w' => e = .returned (.tuple #[.slice none 0 0, .int .i64 1]) ∧ w = w' := by
  go_enter Tryz.func9, Tryz.ntmps9
  go_wp2_with fail
  go_ret2
  exact ⟨rfl, rfl⟩
end Go.Proofs.YtgjjjdccbpjnfaaGreatDoor

/- The program's settings, copied: the lists. -/
namespace Go.Proofs.YtgjjjdccbpjnfaaGreatDoor
open Go.RowKit

set_option maxHeartbeats 400000 in
set_option maxRecDepth 100000 in
theorem cloneD_any (l : List ByteArray) (v : Value) (w : World) (h : RowAt w v l.length 1 (strCellsOf l)) (hl : l.length ≤ 5) :
    Calls Tryz.prog 31 #[v] w fun e w' => ∃ a c, e = .returned (.slice a l.length c) ∧ w'.ownsRow w.heap.size 9 1 (.slice a l.length c) l.length (strCellsOf l) ∧ Below w.heap.size w w' := by
  obtain ⟨a, cap, ev⟩ := slice_of h
  subst ev
  cases a with
  | none =>
    have h0 : l.length = 0 := by
      rcases h.2 with ⟨h0, _⟩ | ⟨b, off, cap', e, _⟩
      · exact h0
      · cases e
    have hl0 : l = [] := List.length_eq_zero_iff.1 h0
    subst hl0
    clear h
    have qn := fun (w : World) (a : Option Addr) (n c n' c' : Nat) => Lib.run_eql_slice_nil (P := Tryz.prog) w 24 _ a n c n' c' Tryz.underlying24
    go_enter Tryz.func31, Tryz.ntmps31
    go_wp2_with fail
    go_ret
    exact ⟨none, 0, rfl, World.ownsRow_nil _ _ _ _, Below.refl _ _⟩
  | some a =>
    have nw : (w.alloc (.cells #[] 9)).heap[w.heap.size]? = some (.cells #[] 9 (0, 0)) := heap_alloc_new w _
    obtain ⟨g, cp, W1, hr, ho, hg, hgg⟩ := append_all (P := Tryz.prog) (w.alloc (.cells #[] 9)) 24 24 9 (.string ⟨#[]⟩) 1 16 Tryz.underlying24 info_str rfl (by decide) w.heap.size nw (.slice (some a) l.length cap) l.length (strCellsOf l) (h.below ((Below.refl _ _).alloc (Nat.le_refl _) _)) (one_strs l) (by unfold maxLen; omega) (by omega)
    have hb : Below w.heap.size w W1 := ((Below.refl w.heap.size w).alloc (Nat.le_refl _) _).grown hg (by simp) (fun k hk => by injection hk with hk; omega)
    have HR := Lib.hid hr
    have HO := Lib.hid ho
    have HB := Lib.hid hb
    clear hr ho hb hg hgg nw h
    have qn := fun (w : World) (a : Option Addr) (n c n' c' : Nat) => Lib.run_eql_slice_nil (P := Tryz.prog) w 24 _ a n c n' c' Tryz.underlying24
    go_enter Tryz.func31, Tryz.ntmps31
    go_wp2_with (first
      | (at_builtin; refine wpList_append_run rfl _ _ 24 rfl _ _ (.slice (some ⟨g, 0, none⟩) l.length cp) W1 rfl rfl HR.out ?_)
      | fail)
    go_ret
    exact ⟨_, _, rfl, HO.out, HB.out⟩

set_option maxHeartbeats 400000 in
set_option maxRecDepth 100000 in
theorem cloneN_any (l : List (Int × Int)) (v : Value) (w : World) (h : RowAt w v l.length 2 (netCells l)) (hl : l.length ≤ 5) :
    Calls Tryz.prog 32 #[v] w fun e w' => ∃ a c, e = .returned (.slice a l.length c) ∧ w'.ownsRow w.heap.size 82 2 (.slice a l.length c) l.length (netCells l) ∧ Below w.heap.size w w' := by
  obtain ⟨a, cap, ev⟩ := slice_of h
  subst ev
  cases a with
  | none =>
    have h0 : l.length = 0 := by
      rcases h.2 with ⟨h0, _⟩ | ⟨b, off, cap', e, _⟩
      · exact h0
      · cases e
    have hl0 : l = [] := List.length_eq_zero_iff.1 h0
    subst hl0
    clear h
    have qn := fun (w : World) (a : Option Addr) (n c n' c' : Nat) => Lib.run_eql_slice_nil (P := Tryz.prog) w 32 _ a n c n' c' Tryz.underlying32
    go_enter Tryz.func32, Tryz.ntmps32
    go_wp2_with fail
    go_ret
    exact ⟨none, 0, rfl, World.ownsRow_nil _ _ _ _, Below.refl _ _⟩
  | some a =>
    have nw : (w.alloc (.cells #[] 82)).heap[w.heap.size]? = some (.cells #[] 82 (0, 0)) := heap_alloc_new w _
    obtain ⟨g, cp, W1, hr, ho, hg, hgg⟩ := append_all (P := Tryz.prog) (w.alloc (.cells #[] 82)) 32 32 82 (.agg #[.int .i64 0, .int .i64 0]) 2 16 Tryz.underlying32 info_net rfl (by decide) w.heap.size nw (.slice (some a) l.length cap) l.length (netCells l) (h.below ((Below.refl _ _).alloc (Nat.le_refl _) _)) (one_nets l) (by unfold maxLen; omega) (by omega)
    have hb : Below w.heap.size w W1 := ((Below.refl w.heap.size w).alloc (Nat.le_refl _) _).grown hg (by simp) (fun k hk => by injection hk with hk; omega)
    have HR := Lib.hid hr
    have HO := Lib.hid ho
    have HB := Lib.hid hb
    clear hr ho hb hg hgg nw h
    have qn := fun (w : World) (a : Option Addr) (n c n' c' : Nat) => Lib.run_eql_slice_nil (P := Tryz.prog) w 32 _ a n c n' c' Tryz.underlying32
    go_enter Tryz.func32, Tryz.ntmps32
    go_wp2_with (first
      | (at_builtin; refine wpList_append_run rfl _ _ 32 rfl _ _ (.slice (some ⟨g, 0, none⟩) l.length cp) W1 rfl rfl HR.out ?_)
      | fail)
    go_ret
    exact ⟨_, _, rfl, HO.out, HB.out⟩

set_option maxHeartbeats 400000 in
set_option maxRecDepth 100000 in
theorem cloneU_any (l : List (ByteArray × ByteArray)) (v : Value) (w : World) (h : RowAt w v l.length 2 (userCells l)) (hl : l.length ≤ 5) :
    Calls Tryz.prog 33 #[v] w fun e w' => ∃ a c, e = .returned (.slice a l.length c) ∧ w'.ownsRow w.heap.size 56 2 (.slice a l.length c) l.length (userCells l) ∧ Below w.heap.size w w' := by
  obtain ⟨a, cap, ev⟩ := slice_of h
  subst ev
  cases a with
  | none =>
    have h0 : l.length = 0 := by
      rcases h.2 with ⟨h0, _⟩ | ⟨b, off, cap', e, _⟩
      · exact h0
      · cases e
    have hl0 : l = [] := List.length_eq_zero_iff.1 h0
    subst hl0
    clear h
    have qn := fun (w : World) (a : Option Addr) (n c n' c' : Nat) => Lib.run_eql_slice_nil (P := Tryz.prog) w 33 _ a n c n' c' Tryz.underlying33
    go_enter Tryz.func33, Tryz.ntmps33
    go_wp2_with fail
    go_ret
    exact ⟨none, 0, rfl, World.ownsRow_nil _ _ _ _, Below.refl _ _⟩
  | some a =>
    have nw : (w.alloc (.cells #[] 56)).heap[w.heap.size]? = some (.cells #[] 56 (0, 0)) := heap_alloc_new w _
    obtain ⟨g, cp, W1, hr, ho, hg, hgg⟩ := append_all (P := Tryz.prog) (w.alloc (.cells #[] 56)) 33 33 56 (.agg #[.string ⟨#[]⟩, .string ⟨#[]⟩]) 2 32 Tryz.underlying33 info_user rfl (by decide) w.heap.size nw (.slice (some a) l.length cap) l.length (userCells l) (h.below ((Below.refl _ _).alloc (Nat.le_refl _) _)) (one_users l) (by unfold maxLen; omega) (by omega)
    have hb : Below w.heap.size w W1 := ((Below.refl w.heap.size w).alloc (Nat.le_refl _) _).grown hg (by simp) (fun k hk => by injection hk with hk; omega)
    have HR := Lib.hid hr
    have HO := Lib.hid ho
    have HB := Lib.hid hb
    clear hr ho hb hg hgg nw h
    have qn := fun (w : World) (a : Option Addr) (n c n' c' : Nat) => Lib.run_eql_slice_nil (P := Tryz.prog) w 33 _ a n c n' c' Tryz.underlying33
    go_enter Tryz.func33, Tryz.ntmps33
    go_wp2_with (first
      | (at_builtin; refine wpList_append_run rfl _ _ 33 rfl _ _ (.slice (some ⟨g, 0, none⟩) l.length cp) W1 rfl rfl HR.out ?_)
      | fail)
    go_ret
    exact ⟨_, _, rfl, HO.out, HB.out⟩

set_option maxHeartbeats 400000 in
set_option maxRecDepth 100000 in
theorem cloneW_any (l : List Int) (v : Value) (w : World) (h : RowAt w v l.length 1 (intCells l)) (hl : l.length ≤ 5) :
    Calls Tryz.prog 34 #[v] w fun e w' => ∃ a c, e = .returned (.slice a l.length c) ∧ w'.ownsRow w.heap.size 3 1 (.slice a l.length c) l.length (intCells l) ∧ Below w.heap.size w w' := by
  obtain ⟨a, cap, ev⟩ := slice_of h
  subst ev
  cases a with
  | none =>
    have h0 : l.length = 0 := by
      rcases h.2 with ⟨h0, _⟩ | ⟨b, off, cap', e, _⟩
      · exact h0
      · cases e
    have hl0 : l = [] := List.length_eq_zero_iff.1 h0
    subst hl0
    clear h
    have qn := fun (w : World) (a : Option Addr) (n c n' c' : Nat) => Lib.run_eql_slice_nil (P := Tryz.prog) w 34 _ a n c n' c' Tryz.underlying34
    go_enter Tryz.func34, Tryz.ntmps34
    go_wp2_with fail
    go_ret
    exact ⟨none, 0, rfl, World.ownsRow_nil _ _ _ _, Below.refl _ _⟩
  | some a =>
    have nw : (w.alloc (.cells #[] 3)).heap[w.heap.size]? = some (.cells #[] 3 (0, 0)) := heap_alloc_new w _
    obtain ⟨g, cp, W1, hr, ho, hg, hgg⟩ := append_all (P := Tryz.prog) (w.alloc (.cells #[] 3)) 34 34 3 (.int .i64 0) 1 8 Tryz.underlying34 info_int rfl (by decide) w.heap.size nw (.slice (some a) l.length cap) l.length (intCells l) (h.below ((Below.refl _ _).alloc (Nat.le_refl _) _)) (one_ints l) (by unfold maxLen; omega) (by omega)
    have hb : Below w.heap.size w W1 := ((Below.refl w.heap.size w).alloc (Nat.le_refl _) _).grown hg (by simp) (fun k hk => by injection hk with hk; omega)
    have HR := Lib.hid hr
    have HO := Lib.hid ho
    have HB := Lib.hid hb
    clear hr ho hb hg hgg nw h
    have qn := fun (w : World) (a : Option Addr) (n c n' c' : Nat) => Lib.run_eql_slice_nil (P := Tryz.prog) w 34 _ a n c n' c' Tryz.underlying34
    go_enter Tryz.func34, Tryz.ntmps34
    go_wp2_with (first
      | (at_builtin; refine wpList_append_run rfl _ _ 34 rfl _ _ (.slice (some ⟨g, 0, none⟩) l.length cp) W1 rfl rfl HR.out ?_)
      | fail)
    go_ret
    exact ⟨_, _, rfl, HO.out, HB.out⟩

end Go.Proofs.YtgjjjdccbpjnfaaGreatDoor
