import Derived.Test.YteechjckflcfjaaGreatDoorS21
import Derived.Test.YteechjckflcfjaaGreatDoorS13
import Derived.Test.YteechjckflcfjaaGreatDoorS18
import Derived.Lib.ConvBytes
import Derived.Test.YteechjckflcfjaaGreatDoorS02
import Derived.Test.YteechjckflcfjaaGreatDoorS05
import Derived.Shelf.SlIterI.Nil
import Derived.Shelf.SortM.Plain
import Derived.Shelf.SortM.SortNone
import Derived.Test.YteechjckflcfjaaGreatDoorProg
import Derived.Test.YteechjckflcfjaaGreatDoorS20

/- A record is taken. -/
namespace Go.Proofs.YteechjckflcfjaaGreatDoor
open Go.RowKit

theorem readMailS_may {l : List UInt8} {m : PMail} (h : readMailS l = some m) : mailMayB m = true := by
  unfold readMailS at h
  split at h
  · cases h
  · split at h
    · rw [Option.bind_eq_some_iff] at h
      obtain ⟨a, _, h⟩ := h
      split at h
      · cases h; assumption
      · cases h
    · cases h
theorem mailMay_tos {m : PMail} (h : mailMayB m = true) : 1 ≤ m.tos.length ∧ m.tos.length ≤ 10 := by
  unfold mailMayB recipB at h
  simp only [Bool.and_eq_true, decide_eq_true_eq] at h
  exact ⟨h.1.2.1.1, h.1.2.1.2⟩
theorem leavingS_rises {l : List UInt8} {x : Nat × List Nat} (h : leavingS l = some x) : risingB x.2 = true := by
  unfold leavingS at h
  rw [Option.bind_eq_some_iff] at h
  obtain ⟨a, _, h⟩ := h
  split at h
  · rename_i hc
    rw [Bool.and_eq_true] at hc
    cases h
    exact hc.2
  · cases h
theorem readFailedS_rises {l : List UInt8} {T id : Nat} {ps : List Nat} (h : readFailedS l = some (T, id, ps)) : risingB ps = true := by
  unfold readFailedS at h
  split at h
  · cases h
  · split at h
    · rw [Option.bind_eq_some_iff] at h
      obtain ⟨a, _, h⟩ := h
      rw [Option.bind_eq_some_iff] at h
      obtain ⟨x, hx, h⟩ := h
      split at h
      · cases h; exact leavingS_rises hx
      · cases h
    · cases h
theorem okM {S S' : PStore} {m : PMail} (hok : S.Ok) (hz : MailSz m) (ht : 1 ≤ m.tos.length ∧ m.tos.length ≤ 10) (h : S.takesM m = some S') : S'.Ok := by
  unfold PStore.takesM at h
  split at h
  · rename_i hc
    rw [Bool.and_eq_true, decide_eq_true_eq] at hc
    cases h
    exact hok.plus hc.1 hz ht.1 ht.2
  · cases h
theorem okG {S S' : PStore} {id : Nat} {ps : List Nat} (hok : S.Ok) (h : S.takesG id ps = some S') : S'.Ok := by
  unfold PStore.takesG at h
  split at h
  · cases h; exact hok.outs _ _
  · cases h
theorem okF {S S' : PStore} {T id : Nat} {ps : List Nat} (hok : S.Ok) (hr : risingB ps = true) (hT : T ≤ 1000000000) (hn : S.items.length < 4294967295) (h : S.takesF T id ps = some S') : S'.Ok := by
  have hc : mayLeaveB S id ps = true ∧ S.time ≤ T := by
    unfold PStore.takesF at h
    split at h
    · rename_i hc
      rwa [Bool.and_eq_true, decide_eq_true_eq] at hc
    · cases h
  obtain ⟨p1, p2⟩ := takesF_plain hr hc.1 hc.2
  have hO : PStore.Ok (PStore.outs ⟨S.items, T⟩ (id - 1) ps) := (hok.time T).outs _ _
  by_cases hF : (S.mailOf (id - 1)).frm = []
  · rw [p1 hF] at h; cases h; exact hO
  · rw [p2 hF] at h
    cases h
    have hlt : id - 1 < S.items.length := by
      have := hc.1
      unfold mayLeaveB at this
      simp only [Bool.and_eq_true, decide_eq_true_eq] at this
      omega
    have hz : MailSz (S.mailOf (id - 1)) := by rw [mailOf_lt hlt]; exact (hok.sz _ (List.getElem_mem hlt)).1
    have hg : (gonesOf (S.stayOf (id - 1)) ps).length ≤ 10 := by have := gones_le (S.stayOf (id - 1)) ps; have := stayOf_le hok (id - 1); omega
    have hs : ∀ t ∈ gonesOf (S.stayOf (id - 1)) ps, t.length ≤ 255 := by
      intro t ht
      rw [gones_names hr hc.1, List.mem_map] at ht
      obtain ⟨i, _, rfl⟩ := ht
      exact getD_le hz.2.2.2.2.1 i
    have hb := namesE_len _ hs
    refine hO.plus (by rw [outs_len]) ⟨by show S.items.length + 1 ≤ _; omega, by show T ≤ _; omega, by simp, by simp, fun t ht => by simp at ht; subst ht; exact hz.2.2.1, by show (namesE _).length ≤ _; omega⟩ (by simp) (by simp)

theorem own_slice {w : World} {base sz n : Nat} {e : TypeId} {v : Value} {xs : List Value} (h : w.ownsRow base e sz v n xs) : ∃ a m c, v = .slice a m c := by
  rcases h.2 with ⟨e, _⟩ | ⟨g, cap, cur, e, _⟩
  · exact ⟨_, _, _, e⟩
  · exact ⟨_, _, _, e⟩
set_option maxHeartbeats 1000000 in
set_option maxRecDepth 100000 in
theorem bagTake_any (base pb mb : Nat) (q : Nat → Nat) (vr : Value) (S : PStore) (l : List UInt8) (n : Int) (w : World) (h : BagIn base w pb mb q vr S) (hok : S.Ok) (hl : l.length ≤ 1048576) (hm : w.cell? ⟨0, 0, none⟩ = some (.int .i64 n)) (hn : S.items.length < 4294967295) :
    Calls Tryz.prog 30 #[.pointer (some ⟨pb, 0, none⟩), .string (bs l)] w fun e w' => TakePost base pb mb q vr S (S.takes l) w e w' ∧ ∀ S', S.takes l = some S' → S'.Ok := by
  have hle := h.le
  have HH := Lib.hid h
  have HW := Lib.hid (takes_ways S l)
  have HM := Lib.hid (readMail_any l n w hl hm)
  clear h hm
  go_enter Tryz.func30, Tryz.ntmps30
  go_wp2_with fail
  refine HM.out.mono ?_
  rintro e w1 ⟨hor, hb1⟩
  have A1 := Lib.hid (HH.out.keep hb1)
  have B1 := Lib.hid hb1
  clear hb1
  rcases hor with ⟨hr, rfl⟩ | ⟨mm, v, hr, rfl, hv, hz⟩
  · rw [hr] at HW
    simp only [mailCells, noMail]
    clear hr
    go_wp2_with fail
    refine (readGone_any l _ hl).mono ?_
    rintro e w3 ⟨hor, hb3⟩
    have A3 := Lib.hid ((A1.out.keep ((Below.refl _ _).alloc (Nat.le_refl _) _)).keep hb3)
    have HB3 := Lib.hid (((B1.out.mono hle).alloc A1.out.le _).trans (hb3.mono (Nat.le_trans A1.out.le (by simp))))
    clear hb3
    rcases hor with ⟨hr, rfl⟩ | ⟨id, ps, v, hr, rfl, hv, hid, hp1, hp2, hp3⟩
    · rw [hr] at HW
      clear hr
      go_wp2_with fail
      refine (readFailed_any l _ hl).mono ?_
      rintro e w5 ⟨hor, hb5⟩
      have A5 := Lib.hid ((A3.out.keep ((Below.refl _ _).alloc (Nat.le_refl _) _)).keep hb5)
      have HB5 := Lib.hid ((HB3.out.alloc A3.out.le _).trans (hb5.mono (Nat.le_trans A3.out.le (by simp))))
      clear hb5
      rcases hor with ⟨hr, rfl⟩ | ⟨T, id, ps, v, hr, rfl, ⟨hv, hid, hp1, hp2, hp3⟩, hT⟩
      · rw [hr] at HW
        have HWF : Hid (S.takes l = none) := Lib.hid HW.out
        clear hr HW
        go_wp2_with fail
        go_ret
        exact ⟨⟨.inl ⟨HWF.out, rfl, A5.out.keep ((Below.refl _ _).alloc (Nat.le_refl _) _)⟩, HB5.out.alloc A5.out.le _⟩, fun S' hS => by rw [HWF.out] at hS; cases hS⟩
      · have hrise := readFailedS_rises hr
        rw [hr] at HW
        have HWF : Hid (S.takes l = S.takesF T id ps) := Lib.hid HW.out
        obtain ⟨av, nv, cv, rfl⟩ := own_slice hv
        obtain ⟨W6, hW6⟩ : ∃ W6 : World, w5.alloc (.cells #[.int .i64 id, .slice av nv cv] 119) = W6 := ⟨_, rfl⟩
        have B6 : Below w5.heap.size w5 W6 := by rw [← hW6]; exact (Below.refl _ _).alloc (Nat.le_refl _) _
        have HT := Lib.hid (takeFailed_any base pb mb q vr _ S T id ps W6 (A5.out.keep B6) hok _ (ownsRow_keeps hv fun g cur e _ => below_some B6 e) hid hp1 hp2 hrise hT hn)
        have HB6 := Lib.hid (HB5.out.trans (B6.mono A5.out.le))
        have HOK : Hid (∀ S', S.takes l = some S' → S'.Ok) := Lib.hid (fun S' hS => okF hok hrise hT hn (by rw [← HWF.out]; exact hS))
        have HW6 := Lib.hid hW6
        clear hr HW B6 hW6 hv hid hp1 hp2 hp3 hrise hT
        go_wp2_with fail
        rw [HW6.out]
        refine HT.out.mono ?_
        rintro e w7 ⟨hor, hb7⟩
        have HB7 := Lib.hid (HB6.out.trans hb7)
        clear hb7
        rcases hor with ⟨h9, rfl, hA⟩ | ⟨S', q', h9, rfl, hA⟩
        · go_wp2_with fail
          go_ret
          exact ⟨⟨.inl ⟨HWF.out.trans h9, rfl, hA⟩, HB7.out⟩, HOK.out⟩
        · go_wp2_with fail
          go_ret
          exact ⟨⟨.inr ⟨S', q', HWF.out.trans h9, rfl, hA⟩, HB7.out⟩, HOK.out⟩
    · rw [hr] at HW
      have HWF : Hid (S.takes l = S.takesG id ps) := Lib.hid HW.out
      obtain ⟨av, nv, cv, rfl⟩ := own_slice hv
      obtain ⟨W4, hW4⟩ : ∃ W4 : World, w3.alloc (.cells #[.int .i64 id, .slice av nv cv] 119) = W4 := ⟨_, rfl⟩
      have B4 : Below w3.heap.size w3 W4 := by rw [← hW4]; exact (Below.refl _ _).alloc (Nat.le_refl _) _
      have HT := Lib.hid (takeGone_any base pb mb q vr _ S id ps W4 (A3.out.keep B4) hok (row_of_own' (ownsRow_keeps hv fun g cur e _ => below_some B4 e)) hid hp1 hp2 (by omega))
      have HB4 := Lib.hid (HB3.out.trans (B4.mono A3.out.le))
      have HOK : Hid (∀ S', S.takes l = some S' → S'.Ok) := Lib.hid (fun S' hS => okG hok (by rw [← HWF.out]; exact hS))
      have HW4 := Lib.hid hW4
      clear hr HW B4 hW4 hv hid hp1 hp2 hp3
      go_wp2_with fail
      rw [HW4.out]
      refine HT.out.mono ?_
      rintro e w7 ⟨hor, hb7⟩
      have HB7 := Lib.hid (HB4.out.trans hb7)
      clear hb7
      rcases hor with ⟨h9, rfl, hA⟩ | ⟨S', q', h9, rfl, hA⟩
      · go_wp2_with fail
        go_ret
        exact ⟨⟨.inl ⟨HWF.out.trans h9, rfl, hA⟩, HB7.out⟩, HOK.out⟩
      · go_wp2_with fail
        go_ret
        exact ⟨⟨.inr ⟨S', q', HWF.out.trans h9, rfl, hA⟩, HB7.out⟩, HOK.out⟩
  · rw [hr] at HW
    have HWF : Hid (S.takes l = S.takesM mm) := Lib.hid HW.out
    have hmay := mailMay_tos (readMailS_may hr)
    obtain ⟨av, nv, cv, rfl⟩ := own_slice hv
    obtain ⟨W2, hW2⟩ : ∃ W2 : World, w1.alloc (.cells #[.int .i64 mm.id, .int .i64 mm.time, .string (bs mm.frm), .slice av nv cv, .string (bs mm.body)] 26) = W2 := ⟨_, rfl⟩
    have B2 : Below w1.heap.size w1 W2 := by rw [← hW2]; exact (Below.refl _ _).alloc (Nat.le_refl _) _
    have HT := Lib.hid (takeMail_any base pb mb q vr S mm _ W2 (A1.out.keep B2) _ (ownsRow_keeps hv fun g cur e _ => below_some B2 e) hz hmay.1 hn)
    have HB2 := Lib.hid ((B1.out.mono hle).trans (B2.mono A1.out.le))
    have HOK : Hid (∀ S', S.takes l = some S' → S'.Ok) := Lib.hid (fun S' hS => okM hok hz hmay (by rw [← HWF.out]; exact hS))
    have HW2 := Lib.hid hW2
    simp only [mailCells]
    clear hr hmay B2 hW2 hv hz HW
    go_wp2_with fail
    rw [HW2.out]
    refine HT.out.mono ?_
    rintro e w7 ⟨hor, hb7⟩
    have HB7 := Lib.hid (HB2.out.trans hb7)
    clear hb7
    rcases hor with ⟨h9, rfl, hA⟩ | ⟨S', q', h9, rfl, hA⟩
    · go_wp2_with fail
      go_ret
      exact ⟨⟨.inl ⟨HWF.out.trans h9, rfl, hA⟩, HB7.out⟩, HOK.out⟩
    · go_wp2_with fail
      go_ret
      exact ⟨⟨.inr ⟨S', q', HWF.out.trans h9, rfl, hA⟩, HB7.out⟩, HOK.out⟩
end Go.Proofs.YteechjckflcfjaaGreatDoor

/- The bag is read of what was kept. -/
namespace Go.Proofs.YteechjckflcfjaaGreatDoor
open Go.RowKit
open Go.Lib (bytesWorld bytesWorld_size bytesWorld_at_old bytesWorld_cell)

/-- bytes in a row -/
def RecsAt (w : World) (v : Value) (l : List UInt8) : Prop := ∃ g cap cur z, v = .slice (some ⟨g, 0, none⟩) l.length cap ∧ w.heap[g]? = some (.cells cur 5 z) ∧ ∀ j, j < l.length → w.cell? ⟨g, j, none⟩ = some (.int .u8 (l.getD j 0).toNat)
theorem RecsAt.moves {w w' : World} {v : Value} {l : List UInt8} (h : RecsAt w v l) (hk : ∀ (g : Nat) (cur : Array Value) (z : Nat × Nat), w.heap[g]? = some (.cells cur 5 z) → w'.heap[g]? = some (.cells cur 5 z)) : RecsAt w' v l := by
  obtain ⟨g, cap, cur, z, e, hg, hc⟩ := h
  have hg' := hk g cur z hg
  exact ⟨g, cap, cur, z, e, hg', fun j hj => (World.cell?_of_block (w := w) (hg'.trans hg.symm)).trans (hc j hj)⟩
theorem RecsAt.keep {w w' : World} {v : Value} {l : List UInt8} (h : RecsAt w v l) (hb : Below w.heap.size w w') : RecsAt w' v l := h.moves fun _g _cur _z e => below_some hb e
theorem BagIn.nil {w : World} : BagIn w.heap.size ((w.alloc (.map #[] 0)).alloc (.cells #[.slice none 0 0, .int .i64 0, .int .i64 0, .map (some w.heap.size)] 79)) (w.heap.size + 1) w.heap.size (fun _ => 0) (.slice none 0 0) ⟨[], 0⟩ := by
  have h1 : ((w.alloc (.map #[] 0)).alloc (.cells #[.slice none 0 0, .int .i64 0, .int .i64 0, .map (some w.heap.size)] 79)).heap[w.heap.size + 1]? = some (.cells #[.slice none 0 0, .int .i64 0, .int .i64 0, .map (some w.heap.size)] 79 (0, 0)) := by
    have := heap_alloc_new (w.alloc (.map #[] 0)) (.cells #[.slice none 0 0, .int .i64 0, .int .i64 0, .map (some w.heap.size)] 79)
    simpa using this
  refine ⟨h1, ?_, by omega, Nat.le_refl _, fun i hi => ?_, fun i hi => ?_⟩
  · exact below_some ((Below.refl _ _).alloc (Nat.le_refl _) _) (heap_alloc_new w (.map #[] 0))
  · have := live_lt hi; simp at this
  · have := live_lt hi; simp at this
theorem below_bytes {W : World} {e : TypeId} {x : ByteArray} : Below W.heap.size W (bytesWorld W e x) :=
  ⟨by simp [bytesWorld, World.freeze, World.alloc, World.drew, -World.alloc_eq, -World.drew_eq], by simp [bytesWorld, World.freeze, World.alloc, World.drew, -World.alloc_eq, -World.drew_eq], by simp [bytesWorld, World.freeze, World.alloc, World.drew, -World.alloc_eq, -World.drew_eq], by rw [bytesWorld_size]; omega, fun k hk => bytesWorld_at_old W e x k hk⟩
/-- the records are laid -/
theorem read_end {s pb mb k : Nat} {q : Nat → Nat} {vr : Value} {S : PStore} {w W : World} {l : List UInt8} (h : BagIn s W pb mb q vr S) (hb : Below s w W) :
    let v := Value.slice (some ⟨W.heap.size, 0, none⟩) (bs (l.take k)).size (grownCap W (bs (l.take k)).size 0 5)
    let W2 := (bytesWorld W 5 (bs (l.take k))).setCell ⟨pb, 0, none⟩ v
    BagIn s W2 pb mb q v S ∧ RecsAt W2 v (l.take k) ∧ Below s w W2 := by
  intro v W2
  have A1 := h.keep (below_bytes (e := 5) (x := bs (l.take k)))
  have S2 : Same pb (bytesWorld W 5 (bs (l.take k))) W2 := (Same.refl _ _).setCell _
  have hlt := h.pblt
  refine ⟨A1.timed (T := S.time) S2 (heap_setCell_same _ pb 0 _ _ v A1.bag), ⟨W.heap.size, _, _, _, by rw [← bs_size], same_some S2 (Lib.bytesWorld_at_new W 5 _) (by omega), fun j hj => ?_⟩, ?_⟩
  · have e1 : W2.cell? ⟨W.heap.size, j, none⟩ = (bytesWorld W 5 (bs (l.take k))).cell? ⟨W.heap.size, j, none⟩ := World.cell?_of_block (S2.2 W.heap.size (by omega))
    rw [e1, bytesWorld_cell _ _ _ _ (by rw [bs_size]; exact hj), bs_toList]
  · exact (hb.trans (below_bytes.mono h.le)).trans (S2.below h.pbb)

theorem cutS_drop {l : List UInt8} {c : List UInt8 × List UInt8} (h : cutS l = some c) : c.2 = l.drop (8 + c.1.length) := by
  rw [cut_doc] at h
  split at h
  · cases h
  · rename_i hn
    cases h
    have h1 : ((l.drop 8).take (be (l.take 4))).length = be (l.take 4) := by rw [List.length_take, List.length_drop]; omega
    simp only
    rw [h1, List.drop_drop]

set_option maxHeartbeats 1000000 in
set_option maxRecDepth 100000 in
theorem bagRead_any (l : List UInt8) (n : Int) (w : World) (hl : l.length ≤ 1048576) (hm : w.cell? ⟨0, 0, none⟩ = some (.int .i64 n)) :
    Calls Tryz.prog 15 #[.string (bs l)] w fun e w' => ∃ pb mb q vr, e = .returned (.pointer (some ⟨pb, 0, none⟩)) ∧ BagIn w.heap.size w' pb mb q vr (readS l).1 ∧ (readS l).1.Ok ∧ RecsAt w' vr (l.take (readS l).2) ∧ (∀ g, vr.ownBlock = some g → w.heap.size ≤ g) ∧ Below w.heap.size w w' := by
  obtain ⟨W0, hW0⟩ : ∃ W0 : World, (w.alloc (.map #[] 0)).alloc (.cells #[.slice none 0 0, .int .i64 0, .int .i64 0, .map (some w.heap.size)] 79) = W0 := ⟨_, rfl⟩
  have HS0 : Hid (BagIn w.heap.size W0 (w.heap.size + 1) w.heap.size (fun _ => 0) (.slice none 0 0) ⟨[], 0⟩) := Lib.hid (by rw [← hW0]; exact BagIn.nil)
  have HB0 : Hid (Below w.heap.size w W0) := Lib.hid (by rw [← hW0]; exact ((Below.refl _ _).alloc (Nat.le_refl _) _).alloc (by simp) _)
  have sl := bs_size l
  have HW0 := Lib.hid hW0
  have HM := Lib.hid hm
  have hmm := @run_makeMap Tryz.prog
  have hcv : ∀ (W : World) (x : ByteArray), (convert 9 77 (.string x)).run Tryz.prog W = .ok (.slice (some ⟨W.heap.size, 0, none⟩) x.size (grownCap W x.size 0 5)) (bytesWorld W 5 x) := fun W x => Lib.run_convert_string_bytes W _ _ _ x Tryz.underlying9 Tryz.underlying77 Tryz.underlying5
  clear hW0 hm
  go_enter Tryz.func15, Tryz.ntmps15
  go_wp2_with fail
  rw [HW0.out]
  go_loopw [4] (fun v w' => ∃ (k f : Nat) (S : PStore) (q : Nat → Nat), v = .int .i64 k ∧ k ≤ l.length ∧ 8 * S.items.length ≤ k ∧ Hid (l.length + 1 ≤ k + f) ∧ Hid (S.time ≤ 1000000000) ∧ Hid S.Ok ∧ Hid (BagIn w.heap.size w' (w.heap.size + 1) w.heap.size q (.slice none 0 0) S) ∧ Hid (Below w.heap.size w w') ∧ Hid (readS l = readF f S k (l.drop k))) (fun v _ => l.length - (intOf v).toNat)
  case atStart => exact ⟨0, l.length + 1, ⟨[], 0⟩, _, rfl, Nat.zero_le _, by simp, Lib.hid (by omega), Lib.hid (by simp), Lib.hid (PStore.Ok.nil 0), HS0, HB0, Lib.hid rfl⟩
  case round =>
    clear HS0 HB0
    obtain ⟨k, f, S, q, rfl, hk, hS, HF, HT, HO, HS, HB, HR⟩ := hrel
    obtain ⟨f, rfl⟩ : ∃ g, f = g + 1 := ⟨f - 1, by have := HF.out; omega⟩
    obtain ⟨R, eR⟩ : ∃ R, l.drop k = R := ⟨_, rfl⟩
    have hRl : R.length = l.length - k := by rw [← eR, List.length_drop]
    rw [eR] at HR
    have HER := Lib.hid eR
    have HEX : Hid ((bs l).extract k l.length = bs R) := Lib.hid (by rw [bs_extract, List.take_length, eR])
    clear eR
    go_wp2_with fail
    rw [HEX.out]
    refine (recCut_any R wr (by unfold maxLen; omega)).mono ?_
    rintro e w1 ⟨rfl, ht1⟩
    have hb1 : Below wr.heap.size wr w1 := ht1.toBelow (Nat.le_refl _)
    have A1 := Lib.hid (HS.out.keep hb1)
    have B1 := Lib.hid (HB.out.trans (hb1.mono HS.out.le))
    clear ht1 hb1
    have HE0 : Hid (∀ (W : World) (q' : Nat → Nat), BagIn w.heap.size W (w.heap.size + 1) w.heap.size q' (.slice none 0 0) S → ∀ x : ByteArray, (bytesWorld W 5 x).cell? ⟨w.heap.size + 1, 0, none⟩ = some (.slice none 0 0) ∧ (bytesWorld W 5 x).frozen? ⟨w.heap.size + 1, 0, none⟩ = false) := Lib.hid (fun W q' hA x => by
      have := (hA.keep (below_bytes (e := 5) (x := x))).bag
      exact ⟨by rw [Lib.cell_of_heap this]; rfl, Lib.frozen_of_heap this 0⟩)
    have HX0 : Hid ((bs l).extract 0 k = bs (l.take k)) := Lib.hid (by rw [bs_extract, List.drop_zero])
    have sk : (bs (l.take k)).size = k := by rw [bs_size, List.length_take]; omega
    cases hc : cutS R with
    | none =>
      have HRR := Lib.hid (HR.out.trans (readF_no hc))
      have g0 := fun x => (HE0.out w1 q A1.out x).1
      have g1 := fun x => (HE0.out w1 q A1.out x).2
      clear hc
      simp only [CutRet]
      go_wp2_with fail
      rw [HX0.out]
      obtain ⟨Y1, Y2, Y3⟩ := read_end (l := l) (k := k) A1.out B1.out
      have HB9 := B1.out
      rw [sk] at Y1 Y2 Y3
      go_ret
      exact ⟨w.heap.size + 1, w.heap.size, q, _, rfl, by rw [HRR.out]; exact Y1, by rw [HRR.out]; exact HO.out, by rw [HRR.out]; exact Y2, fun g e => (by injection e with e; simp only at e; rw [← e]; exact HB9.size), Y3⟩
    | some c =>
      have hcl := cutS_len hc
      obtain ⟨c1, c2⟩ := c
      simp only at hcl
      have hm1 : w1.cell? ⟨0, 0, none⟩ = some (.int .i64 n) := (B1.out.cell (by exact block_lt HM.out)).trans HM.out
      have HTK := Lib.hid (bagTake_any w.heap.size (w.heap.size + 1) w.heap.size q (.slice none 0 0) S c1 n w1 A1.out HO.out (by omega) hm1 (by omega))
      have HNO : Hid (S.takes c1 = none → readS l = (S, k)) := Lib.hid (fun ht => HR.out.trans (readF_not hc ht))
      have HYES : Hid (∀ S', S.takes c1 = some S' → readS l = readF f S' (k + 8 + c1.length) (l.drop (k + 8 + c1.length)) ∧ 8 * S'.items.length ≤ k + 8 + c1.length ∧ S'.time ≤ 1000000000) := Lib.hid (fun S' ht => by
        have hz := takes_sizes ht HT.out
        refine ⟨?_, by omega, hz.2⟩
        rw [HR.out, readF_yes hc ht]
        rw [show l.drop (k + 8 + c1.length) = c2 by
          have e9 := cutS_drop hc
          simp only at e9
          rw [e9, ← HER.out, List.drop_drop]
          congr 1; omega])
      have s1 := bs_size c1
      have s2 := bs_size c2
      clear hc hm1
      simp only [CutRet]
      go_wp2_with fail
      refine HTK.out.mono ?_
      intro e w2 hpost
      obtain ⟨hT, hokk⟩ := hpost
      unfold TakePost at hT
      obtain ⟨hor, hb2⟩ := hT
      have B2 := Lib.hid (B1.out.trans hb2)
      have HOK := Lib.hid hokk
      clear hb2 hokk
      rcases hor with ⟨h9, rfl, hA⟩ | ⟨S', q', h9, rfl, hA⟩
      · have HRR := Lib.hid (HNO.out h9)
        have g0 := fun x => (HE0.out w2 q hA x).1
        have g1 := fun x => (HE0.out w2 q hA x).2
        have A2 := Lib.hid hA
        clear h9 hA
        go_wp2_with fail
        rw [HX0.out]
        obtain ⟨Y1, Y2, Y3⟩ := read_end (l := l) (k := k) A2.out B2.out
        have HB9 := B2.out
        rw [sk] at Y1 Y2 Y3
        go_ret
        exact ⟨w.heap.size + 1, w.heap.size, q, _, rfl, by rw [HRR.out]; exact Y1, by rw [HRR.out]; exact HO.out, by rw [HRR.out]; exact Y2, fun g e => (by injection e with e; simp only at e; rw [← e]; exact HB9.size), Y3⟩
      · have HRR := Lib.hid (HYES.out S' h9)
        have HO2 := Lib.hid (HOK.out S' h9)
        have A2 := Lib.hid hA
        have hwr : IntKind.i64.wrap ((l.length : Int) - (c2.length : Int)) = ((k + 8 + c1.length : Nat) : Int) := by rw [IntKind.wrap_i64]; omega
        clear h9 hA
        go_wp2_with fail
        exact ⟨⟨k + 8 + c1.length, f, S', q', rfl, by omega, HRR.out.2.1, Lib.hid (by have := HF.out; omega), Lib.hid HRR.out.2.2, HO2, A2, B2, Lib.hid HRR.out.1⟩, by simp only [intOf]; omega⟩
end Go.Proofs.YteechjckflcfjaaGreatDoor

/- A post, and what it keeps. -/
namespace Go.Proofs.YteechjckflcfjaaGreatDoor
open Go.RowKit

/-- a post that was opened of l -/
def PostIn (base : Nat) (w : World) (pp : Nat) (l : List UInt8) : Prop :=
  ∃ pb mb q vr, w.heap[pp]? = some (.cells #[.pointer (some ⟨pb, 0, none⟩)] 51 (0, 0)) ∧ BagIn base w pb mb q vr (readS l).1 ∧ (readS l).1.Ok ∧ RecsAt w vr (l.take (readS l).2) ∧ base ≤ pp ∧ ∀ g, vr.ownBlock = some g → base ≤ g
theorem PostIn.keep {base pp : Nat} {w w' : World} {l : List UInt8} (h : PostIn base w pp l) (hb : Below w.heap.size w w') : PostIn base w' pp l := by
  obtain ⟨pb, mb, q, vr, h1, h2, h3, h4, h5⟩ := h
  exact ⟨pb, mb, q, vr, below_some hb h1, h2.keep hb, h3, h4.keep hb, h5⟩

set_option maxHeartbeats 400000 in
theorem bagKept_any (base pb mb : Nat) (q : Nat → Nat) (vr : Value) (S : PStore) (l : List UInt8) (w : World) (h : BagIn base w pb mb q vr S) (hr : RecsAt w vr l) :
    Calls Tryz.prog 16 #[.pointer (some ⟨pb, 0, none⟩)] w fun e w' => e = .returned (.string (bs l)) ∧ w = w' := by
  obtain ⟨g, cap, _, _, rfl, _, hc⟩ := hr
  have c0 : w.cell? ⟨pb, 0, none⟩ = some (.slice (some ⟨g, 0, none⟩) l.length cap) := by rw [Lib.cell_of_heap h.bag]; rfl
  have hcv := bytes_back w g cap l.length l rfl hc
  clear hc h
  go_enter Tryz.func16, Tryz.ntmps16
  go_wp2_with fail
  go_ret
  exact ⟨rfl, rfl⟩
set_option maxHeartbeats 400000 in
theorem postKept_any (base pp : Nat) (l : List UInt8) (w : World) (h : PostIn base w pp l) :
    Calls Tryz.prog 8 #[.pointer (some ⟨pp, 0, none⟩)] w fun e w' => e = .returned (.tuple #[.string (bs (l.take (readS l).2)), .int .i64 0]) ∧ w = w' := by
  obtain ⟨pb, mb, q, vr, h1, h2, h3, h4, _⟩ := h
  have c0 : w.cell? ⟨pp, 0, none⟩ = some (.pointer (some ⟨pb, 0, none⟩)) := by rw [Lib.cell_of_heap h1]; rfl
  have HK := Lib.hid (bagKept_any base pb mb q vr _ _ w h2 h4)
  clear h1 h2 h3 h4
  go_enter Tryz.func8, Tryz.ntmps8
  go_wp2_with fail
  refine HK.out.mono ?_
  rintro e w' ⟨rfl, rfl⟩
  go_wp2_with fail
  go_ret2
  exact ⟨rfl, rfl⟩
set_option maxHeartbeats 400000 in
theorem postKept_nil (w : World) : Calls Tryz.prog 8 #[.pointer none] w fun e w' => e = .returned (.tuple #[.string (bs []), .int .i64 1]) ∧ w = w' := by
  go_enter Tryz.func8, Tryz.ntmps8
  go_wp2_with fail
  go_ret2
  exact ⟨rfl, rfl⟩
set_option maxHeartbeats 400000 in
theorem postQueue_nil (w : World) : Calls Tryz.prog 9 #[.pointer none] w fun e w' => e = .returned (.tuple #[.slice none 0 0, .int .i64 1]) ∧ w = w' := by
  go_enter Tryz.func9, Tryz.ntmps9
  go_wp2_with fail
  go_ret2
  exact ⟨rfl, rfl⟩
end Go.Proofs.YteechjckflcfjaaGreatDoor

/- A post is opened. -/
namespace Go.Proofs.YteechjckflcfjaaGreatDoor
open Go.RowKit

theorem BagIn.mono {base b' pb mb : Nat} {q : Nat → Nat} {vr : Value} {S : PStore} {w : World} (h : BagIn base w pb mb q vr S) (hb : b' ≤ base) : BagIn b' w pb mb q vr S :=
  ⟨h.bag, h.map, Nat.le_trans hb h.pbb, Nat.le_trans hb h.mbb, h.one, fun i hi => by
    obtain ⟨a, v, b, c⟩ := h.mail i hi
    exact ⟨Nat.le_trans hb a, v, b, c.mono hb⟩⟩
def OpenPost (c : Cfg) (l : List UInt8) (w : World) (e : Ending) (w' : World) : Prop :=
  ((mayB c = false ∧ e = .returned (.tuple #[.pointer none, .int .i64 2])) ∨ ∃ pp, mayB c = true ∧ e = .returned (.tuple #[.pointer (some ⟨pp, 0, none⟩), .int .i64 0]) ∧ PostIn w.heap.size w' pp l) ∧ Below w.heap.size w w'
set_option maxHeartbeats 1000000 in
set_option maxRecDepth 100000 in
theorem open_any (c : Cfg) (vD vN vU vW : Value) (l : List UInt8) (m : Int) (w : World) (h : CfgAt w c vD vN vU vW) (hz : CfgSz c) (hl : l.length ≤ 1048576) (hm : w.cell? ⟨0, 0, none⟩ = some (.int .i64 m)) :
    Calls Tryz.prog 6 #[.agg #[.string c.host, vD, vN, vU, .int .i64 c.most, .int .i64 c.size, vW, .int .i64 c.life, .int .i64 c.room], .string (bs l)] w (OpenPost c l w) := by
  obtain ⟨W0, hW0⟩ : ∃ W0 : World, w.alloc (.cells #[.string c.host, vD, vN, vU, .int .i64 c.most, .int .i64 c.size, vW, .int .i64 c.life, .int .i64 c.room] 36) = W0 := ⟨_, rfl⟩
  have B0 : Below w.heap.size w W0 := by rw [← hW0]; exact (Below.refl _ _).alloc (Nat.le_refl _) _
  have hgl := block_lt hm
  have m0 : W0.cell? ⟨0, 0, none⟩ = some (.int .i64 m) := (B0.cell (by exact hgl)).trans hm
  have HCK := Lib.hid (check_any c vD vN vU vW m W0 (h.below B0) hz m0)
  have HB0 := Lib.hid B0
  have HM := Lib.hid m0
  have HW0 := Lib.hid hW0
  clear B0 m0 hW0 h hm
  go_enter Tryz.func6, Tryz.ntmps6
  go_wp2_with fail
  rw [HW0.out]
  refine HCK.out.mono ?_
  intro e w2 hE
  obtain ⟨he, hb2⟩ := hE
  subst he
  have B2 := Lib.hid (HB0.out.trans (hb2.mono HB0.out.size))
  cases hmay : mayB c with
  | false =>
    simp only [errB]
    have HMY := Lib.hid hmay
    clear hmay hb2
    go_wp2_with fail
    go_ret2
    exact ⟨.inl ⟨HMY.out, rfl⟩, B2.out⟩
  | true =>
    simp only [errB]
    have HMY := Lib.hid hmay
    have m2 : w2.cell? ⟨0, 0, none⟩ = some (.int .i64 m) := (hb2.cell (by exact block_lt HM.out)).trans HM.out
    have HRD := Lib.hid (bagRead_any l m w2 hl m2)
    have hs2 : w.heap.size ≤ w2.heap.size := B2.out.size
    clear hmay hb2 m2
    go_wp2_with fail
    refine HRD.out.mono ?_
    rintro e w3 ⟨pb, mb, q, vr, rfl, hA, hO, hR, hG, hb3⟩
    have HA := Lib.hid hA
    have HO := Lib.hid hO
    have HR := Lib.hid hR
    have HG := Lib.hid hG
    have HB3 := Lib.hid hb3
    clear hA hO hR hb3 hG
    go_wp2_with fail
    go_ret2
    have hn3 : Below w3.heap.size w3 (w3.alloc (.cells #[.pointer (some ⟨pb, 0, none⟩)] 51)) := (Below.refl _ _).alloc (Nat.le_refl _) _
    have hs3 : w2.heap.size ≤ w3.heap.size := HB3.out.size
    exact ⟨.inr ⟨w3.heap.size, HMY.out, rfl, pb, mb, q, vr, heap_alloc_new w3 _, (HA.out.keep hn3).mono hs2, HO.out, HR.out.keep hn3, by omega, fun g e => Nat.le_trans hs2 (HG.out g e)⟩, (B2.out.trans (HB3.out.mono hs2)).trans (hn3.mono (by omega))⟩
end Go.Proofs.YteechjckflcfjaaGreatDoor

/-
  DERIVED: THE SHELF's CONTRACTS AT THIS DUMP, IN PLAIN WORDS (tools/lay-plain.mjs out of 'TryzIter.lean', which tools/lay-shelf.mjs wrote): THE SAME DECLARATIONS UNDER THE SAME NAMES: 'import', 'namespace', 'open', 'def', 'theorem' AND NOTHING ELSE: no command of the shelf's: FOR A HAND-IN. Each laying: the table of numbers ('.._ren') and one theorem, a field a fact of the dump's own or the kernel's comparison; each contract: ONE APPLICATION.
-/
namespace Go.Proofs
open Go.Shelf
def Tryz.keysA_ren : Go.Shelf.Ren := ⟨fun | 7 => 32 | 10 => 72 | n => n, fun | 23 => 76 | 26 => 3 | 3 => 87 | 28 => 85 | 0 => 0 | 27 => 84 | 33 => 127 | 4 => 4 | n => n, fun | n => n⟩
theorem Tryz.keysA : Go.Proofs.SlLaysZI.n7 Tryz.prog Tryz.keysA_ren := {
  mixed := by kernel_rfl
  f7 := ⟨Tryz.f32.name, by decide, Tryz.func32.trans (congrArg some (by kernel_rfl))⟩
  f10 := ⟨Tryz.f72.name, by decide, Tryz.func72.trans (congrArg some (by kernel_rfl))⟩
  t0 := Tryz.underlying0
  a0 := Tryz.isAgg0
  z0 := Tryz.sizeOf0
  v0 := Tryz.zeroValue0
  t4 := Tryz.underlying4
  a4 := Tryz.isAgg4
  z4 := Tryz.sizeOf4
  v4 := Tryz.zeroValue4
  t23 := Tryz.underlying76
  a23 := Tryz.isAgg76
  z23 := Tryz.sizeOf76
  v23 := Tryz.zeroValue76
  t26 := Tryz.underlying3
  a26 := Tryz.isAgg3
  z26 := Tryz.sizeOf3
  v26 := Tryz.zeroValue3
  t27 := Tryz.underlying84
  a27 := Tryz.isAgg84
  z27 := Tryz.sizeOf84
  v27 := Tryz.zeroValue84
  t28 := Tryz.underlying85
  a28 := Tryz.isAgg85
  z28 := Tryz.sizeOf85
  v28 := Tryz.zeroValue85
  t33 := Tryz.underlying127
  a33 := Tryz.isAgg127
  z33 := Tryz.sizeOf127
  v33 := Tryz.zeroValue127 }
def Tryz.sortedA_ren : Go.Shelf.Ren := ⟨fun | 6 => 31 | 8 => 70 | 9 => 71 | 11 => 101 | 13 => 103 | 12 => 102 | 23 => 142 | 24 => 143 | 14 => 133 | 15 => 134 | 16 => 135 | 17 => 136 | 18 => 137 | 19 => 138 | 20 => 139 | 21 => 140 | 22 => 141 | 25 => 170 | 26 => 171 | 27 => 172 | 28 => 173 | 29 => 174 | 30 => 175 | 31 => 192 | n => n, fun | 26 => 3 | 28 => 85 | 24 => 34 | 0 => 0 | 3 => 3 | 37 => 103 | 48 => 113 | 50 => 184 | 4 => 4 | 40 => 191 | 39 => 190 | 45 => 196 | 5 => 5 | 9 => 9 | 51 => 213 | 55 => 217 | 57 => 229 | 58 => 230 | 33 => 127 | n => n, fun | n => n⟩
theorem Tryz.sortedA : Go.Proofs.SlLaysZI.n6 Tryz.prog Tryz.sortedA_ren := {
  mixed := by kernel_rfl
  f6 := ⟨Tryz.f31.name, by decide, Tryz.func31.trans (congrArg some (by kernel_rfl))⟩
  f8 := ⟨Tryz.f70.name, by decide, Tryz.func70.trans (congrArg some (by kernel_rfl))⟩
  f11 := ⟨Tryz.f101.name, by decide, Tryz.func101.trans (congrArg some (by kernel_rfl))⟩
  t0 := Tryz.underlying0
  a0 := Tryz.isAgg0
  z0 := Tryz.sizeOf0
  v0 := Tryz.zeroValue0
  t24 := Tryz.underlying34
  a24 := Tryz.isAgg34
  z24 := Tryz.sizeOf34
  v24 := Tryz.zeroValue34
  t26 := Tryz.underlying3
  a26 := Tryz.isAgg3
  z26 := Tryz.sizeOf3
  v26 := Tryz.zeroValue3
  t28 := Tryz.underlying85
  a28 := Tryz.isAgg85
  z28 := Tryz.sizeOf85
  v28 := Tryz.zeroValue85
  i26 := by kernel_rfl }
def Tryz.sortA_ren : Go.Shelf.Ren := ⟨fun | 5 => 71 | 8 => 103 | 7 => 102 | 19 => 142 | 20 => 143 | 10 => 133 | 11 => 134 | 12 => 135 | 13 => 136 | 14 => 137 | 15 => 138 | 16 => 139 | 17 => 140 | 18 => 141 | 30 => 170 | 31 => 171 | 32 => 172 | 33 => 173 | 34 => 174 | 35 => 175 | 40 => 192 | n => n, fun | 23 => 34 | 25 => 3 | 3 => 3 | 32 => 103 | 22 => 34 | 0 => 0 | 44 => 113 | 46 => 184 | 4 => 4 | 36 => 191 | 35 => 190 | 41 => 196 | 5 => 5 | 9 => 9 | 53 => 213 | 57 => 217 | 63 => 229 | 64 => 230 | n => n, fun | n => n⟩
theorem Tryz.sortA : Go.Proofs.SlLaysM.n5 Tryz.prog Tryz.sortA_ren := {
  mixed := by kernel_rfl
  f5 := ⟨Tryz.f71.name, by decide, Tryz.func71.trans (congrArg some (by kernel_rfl))⟩
  f7 := ⟨Tryz.f102.name, by decide, Tryz.func102.trans (congrArg some (by kernel_rfl))⟩
  f8 := Tryz.func103.trans (congrArg some (by kernel_rfl))
  f10 := ⟨Tryz.f133.name, by decide, Tryz.func133.trans (congrArg some (by kernel_rfl))⟩
  f11 := ⟨Tryz.f134.name, by decide, Tryz.func134.trans (congrArg some (by kernel_rfl))⟩
  f12 := ⟨Tryz.f135.name, by decide, Tryz.func135.trans (congrArg some (by kernel_rfl))⟩
  f13 := ⟨Tryz.f136.name, by decide, Tryz.func136.trans (congrArg some (by kernel_rfl))⟩
  f14 := ⟨Tryz.f137.name, by decide, Tryz.func137.trans (congrArg some (by kernel_rfl))⟩
  f15 := ⟨Tryz.f138.name, by decide, Tryz.func138.trans (congrArg some (by kernel_rfl))⟩
  f16 := ⟨Tryz.f139.name, by decide, Tryz.func139.trans (congrArg some (by kernel_rfl))⟩
  f17 := ⟨Tryz.f140.name, by decide, Tryz.func140.trans (congrArg some (by kernel_rfl))⟩
  f18 := ⟨Tryz.f141.name, by decide, Tryz.func141.trans (congrArg some (by kernel_rfl))⟩
  f19 := Tryz.func142.trans (congrArg some (by kernel_rfl))
  f20 := Tryz.func143.trans (congrArg some (by kernel_rfl))
  f30 := ⟨Tryz.f170.name, by decide, Tryz.func170.trans (congrArg some (by kernel_rfl))⟩
  f31 := Tryz.func171.trans (congrArg some (by kernel_rfl))
  f32 := Tryz.func172.trans (congrArg some (by kernel_rfl))
  f33 := ⟨Tryz.f173.name, by decide, Tryz.func173.trans (congrArg some (by kernel_rfl))⟩
  f34 := ⟨Tryz.f174.name, by decide, Tryz.func174.trans (congrArg some (by kernel_rfl))⟩
  f35 := ⟨Tryz.f175.name, by decide, Tryz.func175.trans (congrArg some (by kernel_rfl))⟩
  f40 := ⟨Tryz.f192.name, by decide, Tryz.func192.trans (congrArg some (by kernel_rfl))⟩
  t0 := Tryz.underlying0
  a0 := Tryz.isAgg0
  z0 := Tryz.sizeOf0
  v0 := Tryz.zeroValue0
  t3 := Tryz.underlying3
  a3 := Tryz.isAgg3
  z3 := Tryz.sizeOf3
  v3 := Tryz.zeroValue3
  t4 := Tryz.underlying4
  a4 := Tryz.isAgg4
  z4 := Tryz.sizeOf4
  v4 := Tryz.zeroValue4
  t5 := Tryz.underlying5
  a5 := Tryz.isAgg5
  z5 := Tryz.sizeOf5
  v5 := Tryz.zeroValue5
  t9 := Tryz.underlying9
  a9 := Tryz.isAgg9
  z9 := Tryz.sizeOf9
  v9 := Tryz.zeroValue9
  t22 := Tryz.underlying34
  a22 := Tryz.isAgg34
  z22 := Tryz.sizeOf34
  v22 := Tryz.zeroValue34
  t23 := Tryz.underlying34
  a23 := Tryz.isAgg34
  z23 := Tryz.sizeOf34
  v23 := Tryz.zeroValue34
  t25 := Tryz.underlying3
  a25 := Tryz.isAgg3
  z25 := Tryz.sizeOf3
  v25 := Tryz.zeroValue3
  t32 := Tryz.underlying103
  a32 := Tryz.isAgg103
  z32 := Tryz.sizeOf103
  v32 := Tryz.zeroValue103
  t35 := Tryz.underlying190
  a35 := Tryz.isAgg190
  z35 := Tryz.sizeOf190
  v35 := Tryz.zeroValue190
  t36 := Tryz.underlying191
  a36 := Tryz.isAgg191
  z36 := Tryz.sizeOf191
  v36 := Tryz.zeroValue191
  t41 := Tryz.underlying196
  a41 := Tryz.isAgg196
  z41 := Tryz.sizeOf196
  v41 := Tryz.zeroValue196
  t44 := Tryz.underlying113
  a44 := Tryz.isAgg113
  z44 := Tryz.sizeOf113
  v44 := Tryz.zeroValue113
  t46 := Tryz.underlying184
  a46 := Tryz.isAgg184
  z46 := Tryz.sizeOf184
  v46 := Tryz.zeroValue184
  t53 := Tryz.underlying213
  a53 := Tryz.isAgg213
  z53 := Tryz.sizeOf213
  v53 := Tryz.zeroValue213
  t57 := Tryz.underlying217
  a57 := Tryz.isAgg217
  z57 := Tryz.sizeOf217
  v57 := Tryz.zeroValue217
  t63 := Tryz.underlying229
  a63 := Tryz.isAgg229
  z63 := Tryz.sizeOf229
  v63 := Tryz.zeroValue229
  t64 := Tryz.underlying230
  a64 := Tryz.isAgg230
  z64 := Tryz.sizeOf230
  v64 := Tryz.zeroValue230 }
end Go.Proofs

/- The numbers of the mails in the bag, in their order. -/
namespace Go.Proofs.YteechjckflcfjaaGreatDoor
open Go.RowKit Go.Maps Go.Shelf
open Go.WideElems (Fit rd rg)

def anyElem : Value → Option (DataW Unit × List MemPlace) := fun _ => some (.lit (.bool true), [])
theorem ent_rd {P : Program} {k : TypeId} (hk : P.underlying k = some (.int .i64)) (q : Nat → Nat) (i : Nat) (hi : i < 4294967296) : rd P k anyElem (ent q i) = some (.int .i64 ((i : Int) + 1), .lit (.bool true)) := by
  unfold rd ent
  rw [keyOf_int_mk hk (a := (i : Int) + 1) (WalkArith.wf_i64 (by omega))]
  rfl
theorem ents_fit {P : Program} {k : TypeId} (hk : P.underlying k = some (.int .i64)) {q : Nat → Nat} {l : List Nat} {c : Nat} (hl : ∀ i ∈ l, i < c) (hn : l.Nodup) (hc : c ≤ 1048576) (hz : l.length ≤ c) : Fit P k anyElem (ents q l) c := by
  refine ⟨by simp [ents]; unfold maxLen; omega, (MapKept.stamped_iff _ _).2 ⟨fun x hx => ?_, ?_, ?_⟩, fun x hx => ?_⟩
  · rw [ents_list] at hx
    obtain ⟨i, hi, rfl⟩ := List.mem_map.1 hx
    exact hl i hi
  · rw [ents_list, List.map_map]
    have : ((fun x : MapEntry => x.born) ∘ ent q) = id := rfl
    rw [this, List.map_id]
    exact hn
  · rw [ents_list, List.pairwise_map]
    refine hn.imp fun {a b} hne e => hne ?_
    exact ent_key q e
  · rw [ents_list] at hx
    obtain ⟨i, hi, rfl⟩ := List.mem_map.1 hx
    exact ⟨_, ent_rd hk q i (by have := hl i hi; omega)⟩
def keysZ (l : List Nat) : List Int := l.map fun (i : Nat) => (i : Int) + 1
theorem ents_keys {P : Program} {k : TypeId} (hk : P.underlying k = some (.int .i64)) {q : Nat → Nat} {l : List Nat} (hl : ∀ i ∈ l, i < 4294967296) : (intKeys (DataW.map (((ents q l).toList.map (rg P k anyElem)).foldr DataW.insert []))).Perm (keysZ l) := by
  have h1 : (ents q l).toList.map (rg P k anyElem) = l.map fun (i : Nat) => (Lit.int .i64 ((i : Int) + 1), (.lit (.bool true) : DataW Unit)) := by
    rw [ents_list, List.map_map]
    exact List.map_congr_left fun i hi => by show rg P k anyElem (ent q i) = _; unfold rg; rw [ent_rd hk q i (hl i hi)]; rfl
  rw [h1]
  show ((List.foldr DataW.insert [] _).map fun p => Go.intOf p.1).Perm _
  refine ((WideShapes.sorted_perm _).map _).trans ?_
  rw [List.map_map]
  exact List.Perm.refl _
theorem keys_sorted {l : List Nat} (hp : l.Pairwise (· < ·)) {ss : List Int} (h : ss.Perm (keysZ l)) : ss.mergeSort (fun x y => decide (x ≤ y)) = keysZ l := by
  have e1 : ss.mergeSort leI = (keysZ l).mergeSort leI := mergeSort_of_perm_i h
  refine e1.trans (List.mergeSort_of_pairwise ?_)
  unfold keysZ
  rw [List.pairwise_map]
  exact hp.imp fun {a b} hab => by simp only [leI, decide_eq_true_eq]; omega
theorem live_pairwise (S : PStore) : S.live.Pairwise (· < ·) := (List.pairwise_lt_range).filter _
theorem live_len (S : PStore) : S.live.length ≤ S.items.length := by
  unfold PStore.live
  have := List.length_filter_le (fun i => !(S.stayOf i).isEmpty) (List.range S.items.length)
  rwa [List.length_range] at this
end Go.Proofs.YteechjckflcfjaaGreatDoor

/- slices.Sorted(maps.Keys(m)) at the bag's map. -/
namespace Go.Proofs.YteechjckflcfjaaGreatDoor
open Go.RowKit Go.Maps Go.Shelf

theorem sorts_int (m : Nat) : AnyZI.SortsIn Tryz.prog Tryz.sortedA_ren Fence.wide m :=
  ⟨fun blk off cap ss W hH hblk hsz => callsIn_wide.2 (AnyM.slices_Sort_int Tryz.sortA blk off cap ss W hH hblk hsz),
   fun p cap W => callsIn_wide.2 (AnyM.slices_Sort_int_none Tryz.sortA p cap W)⟩

theorem keys_any (mb : Option Nat) (W : World) : Calls Tryz.prog 32 #[.map mb] W fun e w' => e = .returned (.func (.func 72) #[] #[.pointer (some ⟨W.heap.size, 0, none⟩)]) ∧ w' = W.alloc (.cells #[.map mb] 76) :=
  (callsIn_wide (n := 5)).1 (AnyZI.keys_in Tryz.keysA Fence.wide 5 trivial rfl mb W)

theorem sortedKeys_any (w : World) (mb c : Nat) (q : Nat → Nat) (l : List Nat) (h : MapIn w mb q l c) (hl : ∀ i ∈ l, i < c) (hp : l.Pairwise (· < ·)) (hc : c ≤ 1048576) (hz : l.length ≤ c) :
    Calls Tryz.prog 31 #[.func (.func 72) #[] #[.pointer (some ⟨w.heap.size, 0, none⟩)]] (w.alloc (.cells #[.map (some mb)] 76)) fun e w' => ∃ v, e = .returned v ∧ w'.ownsRow (w.heap.size + 1) 3 1 v l.length ((keysZ l).map fun (i : Int) => .int .i64 i) ∧ Below (w.heap.size + 1) (w.alloc (.cells #[.map (some mb)] 76)) w' := by
  have hn : l.Nodup := hp.imp fun {a b} hab => by omega
  have hlt : mb < w.heap.size := heap_some_lt h
  have hown : (w.alloc (.cells #[.map (some mb)] 76)).ownsMap Tryz.prog 3 anyElem mb c (.map (((ents q l).toList.map (WideElems.rg Tryz.prog 3 anyElem)).foldr DataW.insert [])) :=
    ⟨ents q l, c, (Below.heap_alloc _ _ mb hlt).trans h, ents_fit Tryz.underlying3 hl hn hc hz, by simp [ents]; exact hz, rfl⟩
  have hsz : Maps.size (DataW.map (((ents q l).toList.map (WideElems.rg Tryz.prog 3 anyElem)).foldr DataW.insert [])) = l.length := by
    show (List.foldr DataW.insert [] _).length = _
    rw [length_sorted, List.length_map, ents_list, List.length_map]
  have hseq := AnyZI.keys_gives (ρ := Tryz.keysA_ren) { Tryz.keysA with } Fence.wide 2 trivial rfl (by omega) w.heap.size mb c _ (w.alloc (.cells #[.map (some mb)] 76)) (by simp) (by simp) hown
  have cS := AnyZI.sorted_in Tryz.sortedA Fence.wide 5 trivial trivial trivial trivial rfl (by omega) (sorts_int _) (enters_of Tryz.func71 (by kernel_rfl) rfl) 72 #[.pointer (some ⟨w.heap.size, 0, none⟩)] trivial (enters_of Tryz.func72 (by kernel_rfl) rfl) _ _ (by rw [hsz]; unfold maxLen; omega) (by rw [hsz]; omega) _ hseq
  change CallsIn _ _ Tryz.prog 31 _ _ _ at cS
  refine ((callsIn_wide (n := 5)).1 cS).mono ?_
  rintro e w' ⟨v, ss, rfl, hS, hrow, hnil, hb⟩
  have hps := hS.trans (ents_keys (q := q) Tryz.underlying3 (fun i hi => by have := hl i hi; omega))
  have hlen : ss.length = l.length := by rw [hps.length_eq]; simp [keysZ]
  have e1 : (w.alloc (.cells #[.map (some mb)] 76)).heap.size = w.heap.size + 1 := by simp
  rw [e1, hlen, keys_sorted hp hps] at hrow
  rw [e1] at hb
  exact ⟨v, rfl, hrow, hb⟩
end Go.Proofs.YteechjckflcfjaaGreatDoor
