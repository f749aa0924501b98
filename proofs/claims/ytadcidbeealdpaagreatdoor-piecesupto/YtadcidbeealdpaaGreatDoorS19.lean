import Derived.Test.YtadcidbeealdpaaGreatDoorS17
import Derived.Test.YtadcidbeealdpaaGreatDoorS18
import Derived.Test.YtadcidbeealdpaaGreatDoorS10
import Derived.Test.YtadcidbeealdpaaGreatDoorS15
import Derived.Test.YtadcidbeealdpaaGreatDoorS01
import Derived.Test.YtadcidbeealdpaaGreatDoorChecked
import Derived.Conc.LoneCalls
import Derived.KernelRfl
import Derived.WalkKit
import Derived.Test.YtadcidbeealdpaaGreatDoorS12
import Derived.Defers
import Derived.Test.YtadcidbeealdpaaGreatDoorS16

/- The bag's queue. -/
namespace Go.Proofs.YtadcidbeealdpaaGreatDoor
open Go.RowKit

def PStore.toldOf (S : PStore) (i : Nat) : PMail := ⟨i + 1, (S.mailOf i).time, (S.mailOf i).frm, namesL (S.stayOf i), (S.mailOf i).body⟩
theorem now_told {S : PStore} (hok : S.Ok) {i : Nat} (h : i < S.items.length) : S.items[i].now = S.toldOf i := by
  unfold PItem.now PStore.toldOf
  rw [mailOf_lt h, stayOf_lt h, hok.id i h]
  congr 1
  unfold namesL stay
  rw [List.map_map]
  rfl
theorem queueL_live {S : PStore} (hok : S.Ok) : queueL S.items = S.live.map S.toldOf := by
  have e1 : S.items.map PItem.now = (List.range S.items.length).map S.toldOf := by
    apply List.ext_getElem (by simp)
    intro i h1 h2
    rw [List.getElem_map, List.getElem_map, List.getElem_range]
    exact now_told hok (by simpa using h1)
  unfold queueL PStore.live
  rw [e1, List.filter_map]
  congr 1
  apply List.filter_congr
  intro i hi
  show (!(S.toldOf i).tos.isEmpty) = _
  unfold PStore.toldOf namesL
  simp
/-- a mail and the block of its recipients -/
def rowVal (x : PMail × Nat) : PMail × Value := (x.1, .slice (some ⟨x.2, 0, none⟩) x.1.tos.length x.1.tos.length)
structure RowsIn (s : Nat) (w : World) (v : Value) (rows : List (PMail × Nat)) : Prop where
  row : w.ownsRow s 54 5 v rows.length (mailRow (rows.map rowVal))
  tos : ∀ x ∈ rows, w.ownsRow s 9 1 (rowVal x).2 x.1.tos.length (textCells x.1.tos)
  apart : (rows.map (·.2)).Nodup
theorem RowsIn.keep {s : Nat} {w w' : World} {v : Value} {rows : List (PMail × Nat)} (h : RowsIn s w v rows) (hb : Below w.heap.size w w') : RowsIn s w' v rows :=
  ⟨ownsRow_keeps h.row fun _g _cur e _ => below_some hb e, fun x hx => ownsRow_keeps (h.tos x hx) fun _g _cur e _ => below_some hb e, h.apart⟩
theorem RowsIn.mails {s : Nat} {w : World} {v : Value} {rows : List (PMail × Nat)} (h : RowsIn s w v rows) : MailsIn s w v (rows.map rowVal) :=
  ⟨by rw [List.length_map]; exact h.row, fun x hx => by
    obtain ⟨y, hy, rfl⟩ := List.mem_map.1 hx
    exact h.tos y hy⟩
theorem RowsIn.plus {s g : Nat} {w1 w9 w10 : World} {v v' : Value} {rows : List (PMail × Nat)} {m : PMail} {o : Obj} (h : RowsIn s w9 v rows) (hg : ∀ x ∈ rows, x.2 < g) (V9 : w9.ownsRow s 9 1 (rowVal (m, g)).2 m.tos.length (textCells m.tos)) (B9 : Below s w1 w9) (hz : s ≤ w9.heap.size)
    (hown : w10.ownsRow s 54 5 v' (rows.length + 1) (mailRow (rows.map rowVal) ++ (mailCells m (rowVal (m, g)).2).toList)) (hgrow : (w9.alloc o).grownBy w10 v.ownBlock) : RowsIn s w10 v' (rows ++ [(m, g)]) ∧ Below s w1 w10 := by
  obtain ⟨⟨a, b⟩, c⟩ := queue_put (rows := rows.map rowVal) (m := m) (vt := (rowVal (m, g)).2) (fun x hx => by
    obtain ⟨y, hy, rfl⟩ := List.mem_map.1 hx
    exact h.tos y hy) (by rw [List.length_map]; exact h.row) V9 B9 hz (by rw [List.length_map]; exact hown) hgrow
  refine ⟨⟨?_, fun x hx => ?_, ?_⟩, c⟩
  · rw [List.map_append]
    have : w10.ownsRow s 54 5 v' (rows.length + 1) (mailRow (rows.map rowVal ++ [(m, (rowVal (m, g)).2)])) := by simpa using a
    rw [List.length_append]
    exact this
  · rcases List.mem_append.1 hx with hx' | hx'
    · exact b (rowVal x) (List.mem_append.2 (.inl (List.mem_map.2 ⟨x, hx', rfl⟩)))
    · simp only [List.mem_singleton] at hx'
      subst hx'
      exact b (rowVal (m, g)) (List.mem_append.2 (.inr (by simp; rfl)))
  · rw [List.map_append, List.nodup_append]
    refine ⟨h.apart, by simp, fun x hx y hy => ?_⟩
    obtain ⟨z, hz', rfl⟩ := List.mem_map.1 hx
    simp only [List.map_cons, List.map_nil, List.mem_singleton] at hy
    have := hg z hz'
    omega

theorem ownsRow_grown_far {w9 w10 : World} {s n m sz sz' : Nat} {e e' : TypeId} {u v : Value} {xs ys : List Value} {o : Obj} (h : w9.ownsRow s e sz u n xs) (hv : w9.ownsRow s e' sz' v m ys) (hgrow : (w9.alloc o).grownBy w10 v.ownBlock) (hne : e ≠ e') : w10.ownsRow s e sz u n xs := by
  refine (h.alloc o).kept hgrow ?_
  rcases h.2 with ⟨e1, _⟩ | ⟨g, cap, cur, e1, _, hg, _⟩
  · subst e1; exact .inl rfl
  · refine .inr fun e2 => ?_
    rcases hv.2 with ⟨e3, _⟩ | ⟨g', cap', cur', e3, _, hg', _⟩
    · rw [e3, e1] at e2; cases e2
    · rw [e3, e1] at e2
      injection e2 with e2
      exact tag_ne hg hg' hne e2
theorem map_len {P : Program} {k e t ty : TypeId} {w : World} {b c : Nat} {q : Nat → Nat} {l : List Nat} (ht : P.underlying t = some (.map k e)) (h : MapIn w b q l c) : (Builtin.len_ #[t] ty #[.map (some b)]).run P w = .ok (.int .i64 l.length) w := by
  simp [Builtin.len_, run_underlying ht, MapKept.run_getObj_map h, ents, Result.andThen, goInt]

set_option maxHeartbeats 1000000 in
set_option maxRecDepth 100000 in
theorem bagQueue_any (base pb mb : Nat) (q : Nat → Nat) (vr : Value) (S : PStore) (w : World) (h : BagIn base w pb mb q vr S) (hok : S.Ok) (hn : S.items.length ≤ 1048576) :
    Calls Tryz.prog 21 #[.pointer (some ⟨pb, 0, none⟩)] w fun e w' => ∃ v rows, e = .returned v ∧ RowsIn w.heap.size w' v rows ∧ rows.map (·.1) = queueL S.items ∧ Below w.heap.size w w' := by
  have c3 : w.cell? ⟨pb, 3, none⟩ = some (.map (some mb)) := by rw [Lib.cell_of_heap h.bag]; rfl
  have hlen := live_len S
  have hln : ∀ ty, (Builtin.len_ #[93] ty #[.map (some mb)]).run Tryz.prog w = .ok (.int .i64 S.live.length) w := fun ty => map_len Tryz.underlying93 h.map
  obtain ⟨im, him, hzm0, hzm1, hzm2⟩ := info_parts info_mail
  have HH := Lib.hid h
  have HQ := Lib.hid (queueL_live hok)
  have HOK := Lib.hid hok
  have hpbs := h.pblt
  clear h hok
  go_enter Tryz.func21, Tryz.ntmps21
  go_wp2_with (first
    | (at_make; refine wpList_make_own _ rfl _ _ 35 rfl w.heap.size 54 im _ 5 Tryz.underlying35 him hzm0 hzm1 .i64 .i64 _ S.live.length rfl rfl rfl ?b2 ?b3 (Nat.le_refl _) ?_; rotate_left 2; intro w1 hown1 hgrow1; have B1 := Lib.hid ((Below.refl w.heap.size w).grown hgrow1 (Nat.le_refl _) (fun j hj => by cases hj)); have A1 := HH.out.keep B1.out; have c31 : w1.cell? ⟨pb, 3, none⟩ = some (.map (some mb)) := (by rw [Lib.cell_of_heap A1.bag]; rfl); have HA1 := Lib.hid A1; have HOW := Lib.hid hown1; clear A1 hown1 hgrow1)
    | fail)
  case b2 => rw [hzm2]; omega
  case b3 => unfold maxLen; omega
  refine (keys_any (some mb) w1).mono ?_
  rintro e w2 ⟨rfl, hw2⟩
  have HW2 := Lib.hid hw2
  clear hw2 c31 hln c3
  go_wp2_with fail
  rw [HW2.out]
  refine (sortedKeys_any w1 mb S.items.length q S.live HA1.out.map (fun i hi => live_lt hi) (live_pairwise S) hn hlen).mono ?_
  rintro e w3 ⟨vk, rfl, hk3, hb3⟩
  have B3 : Hid (Below w1.heap.size w1 w3) := Lib.hid (((Below.refl _ w1).alloc (Nat.le_refl _) _).trans (hb3.mono (by omega)))
  have HR3 : Hid (RowsIn w.heap.size w3 (.slice (some ⟨w.heap.size, 0, none⟩) 0 S.live.length) []) := Lib.hid ⟨ownsRow_keeps HOW.out fun g cur e _ => below_some B3.out e, fun x hx => by simp at hx, by simp⟩
  have HK3 : Hid (w3.ownsRow w.heap.size 3 1 vk S.live.length ((keysZ S.live).map fun (i : Int) => .int .i64 i)) := Lib.hid (hk3.mono (by have := B1.out.size; omega))
  have HB3 : Hid (Below w.heap.size w w3) := Lib.hid (B1.out.trans (B3.out.mono B1.out.size))
  obtain ⟨ak, ck, rfl⟩ : ∃ a c, vk = .slice a S.live.length c := by
    rcases hk3.2 with ⟨e, h0⟩ | ⟨g, cap, cur, e, _⟩
    · exact ⟨_, _, by rw [h0]; exact e⟩
    · exact ⟨_, _, e⟩
  clear hk3 hb3 HW2 HA1 B1 B3 HOW
  go_wp2_with fail
  go_loopw [3, 5, 19] (fun v _ i w' => ∃ (k : Nat) (rows : List (PMail × Nat)), k ≤ S.live.length ∧ i = .int .i64 k ∧ rows.length = k ∧ Hid (rows.map (·.1) = (S.live.take k).map S.toldOf) ∧ Hid (RowsIn w.heap.size w' v rows) ∧ Hid (w'.ownsRow w.heap.size 3 1 (.slice ak S.live.length ck) S.live.length ((keysZ S.live).map fun (i : Int) => .int .i64 i)) ∧ Hid (Below w.heap.size w w')) (fun _ _ i _ => S.live.length - (intOf i).toNat)
  case atStart => exact ⟨0, [], Nat.zero_le _, rfl, rfl, Lib.hid rfl, HR3, HK3, HB3⟩
  case round =>
    clear HR3 HK3 HB3
    obtain ⟨k, rows, hk, rfl, hrl, HE, HR, HK, HB⟩ := hrel
    by_cases hlt : k < S.live.length
    · have hlti : (k : Int) < (S.live.length : Int) := by omega
      obtain ⟨a', cap', ea, hc⟩ := (row_of_own' HK.out).one
      injection ea with ea1 _ ea3
      subst ea1 ea3
      obtain ⟨b, off, rfl, hbw, hcell⟩ := hc k hlt
      have hck : ((keysZ S.live).map fun (i : Int) => Value.int .i64 i)[k]? = some (.int .i64 ((S.live[k] : Int) + 1)) := by simp [keysZ, hlt]
      rw [hck] at hcell
      have hmem : S.live[k] ∈ S.live := List.getElem_mem hlt
      have HE2 : Hid ((S.live.take (k + 1)).map S.toldOf = rows.map (·.1) ++ [S.toldOf S.live[k]]) := Lib.hid (by rw [List.take_succ_eq_append_getElem hlt, List.map_append, HE.out]; rfl)
      generalize S.live[k] = i at hcell hmem HE2
      have hin := live_lt hmem
      have Ar := HH.out.keep HB.out
      have c3r : wr.cell? ⟨pb, 3, none⟩ = some (.map (some mb)) := by rw [Lib.cell_of_heap Ar.bag]; rfl
      have hlk : (Instr.lookup 93 (.map (some mb)) (.int .i64 ((i : Int) + 1)) false).run Tryz.prog wr = .ok (.pointer (some ⟨q i, 0, none⟩)) wr :=
        map_look (t := 93) (e := 108) und_int Tryz.underlying93 Ar.map (fun j hj => by have := live_lt hj; omega) i (by omega) hmem false
      obtain ⟨_, v0, x0, hbm, hrr⟩ := Ar.mail i hmem
      have hz : MailSz (S.mailOf i) := by rw [mailOf_lt hin]; exact (HOK.out.sz _ (List.getElem_mem hin)).1
      have hsl := stayOf_le HOK.out i
      have HTD := Lib.hid (told_any base (q i) (i + 1) _ _ _ v0 (S.stayOf i) x0 wr hbm hrr (by omega) hz.2.2.1 hz.2.2.2.2.2 (fun x hx => by
        unfold PStore.stayOf stay at hx
        obtain ⟨j, _, rfl⟩ := List.mem_map.1 hx
        exact getD_le hz.2.2.2.2.1 j))
      have hNl : (namesL (S.stayOf i)).length = (S.stayOf i).length := by simp [namesL]
      have HTO : Hid (S.toldOf i = ⟨i + 1, (S.mailOf i).time, (S.mailOf i).frm, namesL (S.stayOf i), (S.mailOf i).body⟩) := Lib.hid rfl
      obtain ⟨n, en⟩ : ∃ n, (S.stayOf i).length = n := ⟨_, rfl⟩
      rw [en] at HTD hsl hNl
      have hsw : w.heap.size ≤ wr.heap.size := HB.out.size
      clear Ar hbm hrr hc hck HE en
      go_wp2_with fail
      refine HTD.out.mono ?_
      rintro e w4 ⟨g, rfl, hg4, ho4, hb4⟩
      have R4 := HR.out.keep hb4
      have K4 := Lib.hid (ownsRow_keeps HK.out fun g cur e _ => below_some hb4 e)
      have B4 := Lib.hid (HB.out.trans (hb4.mono hsw))
      have HG : Hid (∀ x ∈ rows, x.2 < g) := Lib.hid (fun x hx => by
        have := (HR.out.tos x hx).lt x.2 rfl
        omega)
      have O4 := Lib.hid (ho4.mono hsw)
      have hs4 : wr.heap.size ≤ w4.heap.size := hb4.size
      have R4r := R4.row
      have HR4 := Lib.hid R4
      simp only [mailCells]
      clear hb4 ho4 R4 hlk c3r hcell
      go_wp2_with (first
        | (at_builtin; refine wpList_append_own _ rfl _ _ 35 rfl w.heap.size 54 im _ 5 72 Tryz.underlying35 him hzm0 hzm1 hzm2 rfl (by decide) _ _ _ rfl (R4r.alloc _) ⟨w4.heap.size, 0, none⟩ 1 1 [.int .i64 ((i + 1 : Nat) : Int), .int .i64 (S.mailOf i).time, .string (bs (S.mailOf i).frm), .slice (some ⟨g, 0, none⟩) n n, .string (bs (S.mailOf i).body)] rfl rfl ?c1 ?c2 ?c3 ?c4 ?c5 ?_)
        | fail)
      case c1 => exact World.news_of_block (cs := #[.int .i64 ((i + 1 : Nat) : Int), .int .i64 (S.mailOf i).time, .string (bs (S.mailOf i).frm), .slice (some ⟨g, 0, none⟩) n n, .string (bs (S.mailOf i).body)]) (t := 54) (fr := (0, 0)) (heap_alloc_new w4 _)
      case c2 => intro u hu; simp at hu; rcases hu with rfl | rfl | rfl | rfl | rfl <;> rfl
      case c3 => unfold maxLen; omega
      case c4 => omega
      case c5 => simp; omega
      · intro v' w10 hown hgrow _
        have eV : (rowVal (S.toldOf i, g)).2 = .slice (some ⟨g, 0, none⟩) n n := by
          show Value.slice (some ⟨g, 0, none⟩) (namesL (S.stayOf i)).length (namesL (S.stayOf i)).length = _
          rw [hNl]
        have K10 := Lib.hid (ownsRow_grown_far K4.out R4r hgrow (by decide))
        have D := Lib.hid (HR4.out.plus (m := S.toldOf i) (g := g) HG.out (by rw [eV]; show w4.ownsRow _ _ _ _ (namesL (S.stayOf i)).length _; rw [hNl]; exact O4.out) B4.out (by omega) (by rw [eV, hrl]; exact hown) hgrow)
        clear hown hgrow R4r
        go_wp2_with fail
        exact ⟨⟨k + 1, rows ++ [(S.toldOf i, g)], by omega, by go_num, by simp; omega, Lib.hid (by rw [HE2.out]; simp), Lib.hid D.out.1, K10, Lib.hid D.out.2⟩, by simp [intOf]; omega⟩
    · have hk9 : k = S.live.length := by omega
      subst hk9
      rw [List.take_length, ← HQ.out] at HE
      go_wp2_with fail
      go_ret
      exact ⟨_, rows, rfl, HR.out, HE.out, HB.out⟩
end Go.Proofs.YtadcidbeealdpaaGreatDoor

/- A post's queue. -/
namespace Go.Proofs.YtadcidbeealdpaaGreatDoor
open Go.RowKit

set_option maxHeartbeats 400000 in
theorem postQueue_any (base pp : Nat) (l : List UInt8) (w : World) (h : PostIn base w pp l) (hl : l.length ≤ 1048576) :
    Calls Tryz.prog 12 #[.pointer (some ⟨pp, 0, none⟩)] w fun e w' => ∃ v rows, e = .returned (.tuple #[v, .int .i64 0]) ∧ RowsIn w.heap.size w' v rows ∧ rows.map (·.1) = queueL (readS l).1.items ∧ Below w.heap.size w w' := by
  obtain ⟨pb, mb, q, vr, ⟨C, h1, hC⟩, h2, h3, h4, _⟩ := h
  have c0 : w.cell? ⟨pp, 9, none⟩ = some (.pointer (some ⟨pb, 0, none⟩)) := by rw [Lib.cell_of_heap h1]; exact hC
  have hz := readS_len l
  have HK := Lib.hid (bagQueue_any base pb mb q vr _ w h2 h3 (by omega))
  clear h1 h2 h3 h4 hz hC
  go_enter Tryz.func12, Tryz.ntmps12
  go_wp2_with fail
  refine HK.out.mono ?_
  rintro e w' ⟨v, rows, rfl, hr, he, hb⟩
  have HR := Lib.hid hr
  have HE := Lib.hid he
  have HB := Lib.hid hb
  clear hr he hb
  go_wp2_with fail
  go_ret2
  exact ⟨v, rows, rfl, HR.out, HE.out, HB.out⟩
end Go.Proofs.YtadcidbeealdpaaGreatDoor

/- A session tells a line: it waits in the channel. -/
namespace Go.Proofs.YtadcidbeealdpaaGreatDoor
open Go.Conc Go.RowKit

set_option maxRecDepth 100000 in
theorem tell_any (sb ch s r : Nat) (tm : Bool) (buf : Array Value) (l : List UInt8) (w : World) (hc : w.cell? ⟨sb, 3, none⟩ = some (.chan (some ch))) (hch : w.heap[ch]? = some (.chan 3 buf false s r tm)) (hroom : buf.size < 3) (hl : l.length ≤ 1048576) :
    Calls Tryz.prog 23 #[.pointer (some ⟨sb, 0, none⟩), .string (bs l)] w fun e w' => e = .returned (.tuple #[]) ∧ w.setChan ch 3 (buf.push (.string (bs (l ++ [13, 10])))) false (s + 1) r tm = w' := by
  have hs := bs_size l
  have hlim : ¬ 9223372036854775807 < l.length + 2 := by omega
  refine calls_of_loneTo fun cs => ?_
  have e : Frame.enter Tryz.prog 23 #[.pointer (some ⟨sb, 0, none⟩), .string (bs l)] .normal = (base 23).at ⟨#[.pointer (some ⟨sb, 0, none⟩), .string (bs l), undef, undef, undef, undef, undef, undef, undef, undef], []⟩ [.code (Tryz.f23.body.getD .skip)] := by
    simp [Frame.enter, Frame.at, Tryz.func23, base, Tryz.f23]
  rw [e]
  refine LoneTo.goes (n := 7) ?_
  simp only [Tryz.f23, Option.getD_some]
  s_reg
  s_op
  s_op
  s_op
  s_op
  s_op
  s_op
  s_stop
  have hadd : (bs l ++ (⟨#[13, 10]⟩ : ByteArray)) = bs (l ++ [13, 10]) := (bs_append l [13, 10]).symm
  refine LoneTo.step (step_lone_send_room (c := ch) (cap := 3) (buf := buf) (s := s) (r := r) (tm := tm) (v := .string (bs (l ++ [13, 10]))) (stepG_comm (cases := #[scase ch (.string (bs (l ++ [13, 10]))) (.tuple #[])]) (blocking := true) (shape := .send) (w' := w) rfl rfl (by decide) (by simp [execOp, scase, Act.eval, hadd])) hch hroom) ?_
  rw [Frame.finish_at]
  walk_nrm
  refine LoneTo.goes (n := 2) ?_
  s_c stepG_region_end
  s_c stepG_end
  s_stop
  refine LoneTo.done ⟨.returned (.tuple #[]), _, rfl, ⟨rfl, rfl⟩, rfl, rfl, rfl, rfl, _, Tryz.func23, by simp [results, Tryz.f23, Frame.at]⟩
end Go.Proofs.YtadcidbeealdpaaGreatDoor

/- A session's small steps: what is done on the way out; QUIT, RSET. -/
namespace Go.Proofs.YtadcidbeealdpaaGreatDoor
open Go.RowKit

theorem sesEnd_d (sb : Nat) (v0 : Value) (u : FrameMode) (w : World) (h : w.cell? ⟨sb, 7, none⟩ = some v0) (f : w.frozen? ⟨sb, 7, none⟩ = false) :
    CallsD Tryz.prog 115 #[.pointer (some ⟨sb, 0, none⟩)] u w fun e u' w' => u' = u ∧ (e = .returned (.tuple #[]) ∧ w' = w.setCell ⟨sb, 7, none⟩ (.bool true)) := by
  go_enter_d Tryz.func115, Tryz.ntmps115
  go_wp2_with fail
  go_end0
  exact ⟨rfl, rfl⟩
theorem sesDrop_d (sb : Nat) (v0 : Value) (u : FrameMode) (w : World) (h : w.cell? ⟨sb, 8, none⟩ = some v0) (f : w.frozen? ⟨sb, 8, none⟩ = false) :
    CallsD Tryz.prog 110 #[.pointer (some ⟨sb, 0, none⟩)] u w fun e u' w' => u' = u ∧ (e = .returned (.tuple #[]) ∧ w' = w.setCell ⟨sb, 8, none⟩ (.pointer none)) := by
  go_enter_d Tryz.func110, Tryz.ntmps110
  go_wp2_with fail
  go_end0
  exact ⟨rfl, rfl⟩

/-- a session's block, its channel and what waits in it -/
structure SesAt (w : World) (sb ch : Nat) (C : Array Value) (ls : List (List UInt8)) : Prop where
  blk : w.heap[sb]? = some (.cells C 81 (0, 0))
  size : C.size = 9
  told : C[3]? = some (.chan (some ch))
  chan : ∃ s r, w.heap[ch]? = some (.chan 3 (ls.map fun l => Value.string (bs l)).toArray false s r false)
theorem SesAt.cell {w : World} {sb ch : Nat} {C : Array Value} {ls : List (List UInt8)} (h : SesAt w sb ch C ls) (j : Nat) : w.cell? ⟨sb, j, none⟩ = C[j]? := by rw [Lib.cell_of_heap h.blk]
theorem SesAt.frozen {w : World} {sb ch : Nat} {C : Array Value} {ls : List (List UInt8)} (h : SesAt w sb ch C ls) (j : Nat) : w.frozen? ⟨sb, j, none⟩ = false := Lib.frozen_of_heap h.blk j
theorem SesAt.ne {w : World} {sb ch : Nat} {C : Array Value} {ls : List (List UInt8)} (h : SesAt w sb ch C ls) : sb ≠ ch := fun e => by
  obtain ⟨s, r, hc⟩ := h.chan
  have := h.blk
  rw [e, hc] at this
  simp at this
theorem SesAt.set {w : World} {sb ch : Nat} {C : Array Value} {ls : List (List UInt8)} (h : SesAt w sb ch C ls) (j : Nat) (hj : j ≠ 3) (v : Value) : SesAt (w.setCell ⟨sb, j, none⟩ v) sb ch (C.setIfInBounds j v) ls := by
  obtain ⟨s, r, hc⟩ := h.chan
  have S1 : Same sb w (w.setCell ⟨sb, j, none⟩ v) := (Same.refl _ _).setCell _
  exact ⟨heap_setCell_same w sb j _ _ v h.blk, by simp [h.size], by rw [Array.getElem?_setIfInBounds_ne hj]; exact h.told, s, r, (S1.2 ch (Ne.symm h.ne)).trans hc⟩
/-- a line is told -/
theorem SesAt.tell {w : World} {sb ch : Nat} {C : Array Value} {ls : List (List UInt8)} (h : SesAt w sb ch C ls) (hl : ls.length < 3) (l : List UInt8) (hz : l.length ≤ 1048576) :
    Calls Tryz.prog 23 #[.pointer (some ⟨sb, 0, none⟩), .string (bs l)] w fun e w' => e = .returned (.tuple #[]) ∧ SesAt w' sb ch C (ls ++ [l ++ [13, 10]]) ∧ Same ch w w' := by
  obtain ⟨s, r, hc⟩ := h.chan
  refine (tell_any sb ch s r false _ l w ((h.cell 3).trans h.told) hc (by simpa using hl) hz).mono ?_
  rintro e w' ⟨rfl, rfl⟩
  have hlt : ch < w.heap.size := (Array.getElem?_eq_some_iff.1 hc).1
  have S1 : Same ch w (w.setChan ch 3 ((ls.map fun l => Value.string (bs l)).toArray.push (.string (bs (l ++ [13, 10])))) false (s + 1) r false) := ⟨by simp [World.setChan], fun k hk => by simp [World.setChan, Array.getElem?_setIfInBounds_ne (Ne.symm hk)], ⟨rfl, rfl, rfl⟩⟩
  exact ⟨rfl, ⟨(S1.2 sb h.ne).trans h.blk, h.size, h.told, s + 1, r, by rw [Conc.heap_setChan w ch 3 _ false (s + 1) r false hlt]; simp⟩, S1⟩

set_option maxHeartbeats 400000 in
set_option maxRecDepth 100000 in
theorem quit_any (sb ch : Nat) (C : Array Value) (w : World) (h : SesAt w sb ch C []) :
    Calls Tryz.prog 75 #[.pointer (some ⟨sb, 0, none⟩)] w fun e w' => e = .returned (.tuple #[]) ∧ SesAt w' sb ch (C.setIfInBounds 7 (.bool true)) [[50, 50, 49, 32, 98, 121, 101, 13, 10]] ∧ Chg (fun k => k = sb ∨ k = ch) w w' := by
  have HT := Lib.hid (h.tell (by simp) [50, 50, 49, 32, 98, 121, 101] (by decide))
  have hz := h.size
  clear h
  go_enter_defers Tryz.func75, Tryz.ntmps75
  go_wp2_with fail
  refine HT.out.mono ?_
  rintro e w1 ⟨rfl, h1, hS1⟩
  obtain ⟨v0, hv⟩ : ∃ v0, C[7]? = some v0 := ⟨_, Array.getElem?_eq_getElem (by omega)⟩
  go_wp2_with fail
  refine leaves_cons (f := 115) (args := #[.pointer (some ⟨sb, 0, none⟩)]) (by simp) (by simp [go_sem]) ?_
  refine (sesEnd_d sb v0 .returning _ ((h1.cell 7).trans hv) (h1.frozen 7)).mono ?_
  rintro e u' w'' ⟨rfl, rfl, rfl⟩
  exact ⟨_, results_none rfl _ _ _, rfl, h1.set 7 (by decide) _, ((Chg.same hS1).mono (fun k _ e => .inr e)).trans (Chg.same ((Same.refl _ _).setCell _)) (fun k _ e => .inl e)⟩
end Go.Proofs.YtadcidbeealdpaaGreatDoor

/- A session's small steps: RSET, HELO; what a transaction has. -/
namespace Go.Proofs.YtadcidbeealdpaaGreatDoor
open Go.RowKit

theorem Same.cell {b : Nat} {w w' : World} (h : Same b w w') {a : Addr} (hne : a.block ≠ b) : w'.cell? a = w.cell? a := World.cell?_of_block (h.2 a.block hne)

set_option maxHeartbeats 400000 in
set_option maxRecDepth 100000 in
theorem reset_any (sb ch : Nat) (C : Array Value) (w : World) (h : SesAt w sb ch C []) :
    Calls Tryz.prog 76 #[.pointer (some ⟨sb, 0, none⟩)] w fun e w' => e = .returned (.tuple #[]) ∧ SesAt w' sb ch (C.setIfInBounds 8 (.pointer none)) [[50, 53, 48, 32, 111, 107, 13, 10]] ∧ (∀ k, k ≠ sb → k ≠ ch → w'.heap[k]? = w.heap[k]?) ∧ Still w w' ∧ w'.heap.size = w.heap.size := by
  have HT := Lib.hid (h.tell (by simp) [50, 53, 48, 32, 111, 107] (by decide))
  have hz := h.size
  clear h
  go_enter_defers Tryz.func76, Tryz.ntmps76
  go_wp2_with fail
  refine HT.out.mono ?_
  rintro e w1 ⟨rfl, h1, hS1⟩
  obtain ⟨v0, hv⟩ : ∃ v0, C[8]? = some v0 := ⟨_, Array.getElem?_eq_getElem (by omega)⟩
  have S2 : Same sb w1 (w1.setCell ⟨sb, 8, none⟩ (.pointer none)) := (Same.refl _ _).setCell _
  go_wp2_with fail
  refine leaves_cons (f := 110) (args := #[.pointer (some ⟨sb, 0, none⟩)]) (by simp) (by simp [go_sem]) ?_
  refine (sesDrop_d sb v0 .returning _ ((h1.cell 8).trans hv) (h1.frozen 8)).mono ?_
  rintro e u' w'' ⟨rfl, rfl, rfl⟩
  exact ⟨_, results_none rfl _ _ _, rfl, h1.set 8 (by decide) _, fun k a b => (S2.2 k a).trans (hS1.2 k b), hS1.3.trans S2.3, S2.1.trans hS1.1⟩

set_option maxHeartbeats 400000 in
set_option maxRecDepth 100000 in
theorem greet_any (sb ch pp : Nat) (C : Array Value) (host : List UInt8) (w : World) (h : SesAt w sb ch C []) (h0 : C[0]? = some (.pointer (some ⟨pp, 0, none⟩))) (hh : w.cell? ⟨pp, 0, none⟩ = some (.string (bs host))) (hps : pp ≠ sb) (hl : host.length ≤ 255) :
    Calls Tryz.prog 77 #[.pointer (some ⟨sb, 0, none⟩)] w fun e w' => e = .returned (.tuple #[]) ∧ SesAt w' sb ch ((C.setIfInBounds 5 (.bool true)).setIfInBounds 8 (.pointer none)) [[50, 53, 48, 32] ++ host ++ [13, 10]] ∧ (∀ k, k ≠ sb → k ≠ ch → w'.heap[k]? = w.heap[k]?) ∧ Still w w' ∧ w'.heap.size = w.heap.size := by
  have hz := h.size
  obtain ⟨v5, hv5⟩ : ∃ v0, C[5]? = some v0 := ⟨_, Array.getElem?_eq_getElem (by omega)⟩
  have c5 := (h.cell 5).trans hv5
  have f5 := h.frozen 5
  have c0 := (h.cell 0).trans h0
  have S0 : Same sb w (w.setCell ⟨sb, 5, none⟩ (.bool true)) := (Same.refl _ _).setCell _
  have hh1 : (w.setCell ⟨sb, 5, none⟩ (.bool true)).cell? ⟨pp, 0, none⟩ = some (.string (bs host)) := (S0.cell hps).trans hh
  have H1 := h.set 5 (by decide) (.bool true)
  have HT := Lib.hid (H1.tell (by simp) ([50, 53, 48, 32] ++ host) (by rw [List.length_append]; simp; omega))
  have hadd : (⟨#[50, 53, 48, 32]⟩ : ByteArray) ++ bs host = bs ([50, 53, 48, 32] ++ host) := bs_append [50, 53, 48, 32] host
  have HA := Lib.hid hadd
  have hsz := bs_size host
  clear h H1 hadd
  go_enter_defers Tryz.func77, Tryz.ntmps77
  go_wp2_with fail
  rw [HA.out]
  refine HT.out.mono ?_
  rintro e w1 ⟨rfl, h1, hS1⟩
  obtain ⟨v0, hv⟩ : ∃ v0, (C.setIfInBounds 5 (.bool true))[8]? = some v0 := ⟨_, Array.getElem?_eq_getElem (by simp; omega)⟩
  have S2 : Same sb w1 (w1.setCell ⟨sb, 8, none⟩ (.pointer none)) := (Same.refl _ _).setCell _
  go_wp2_with fail
  refine leaves_cons (f := 110) (args := #[.pointer (some ⟨sb, 0, none⟩)]) (by simp) (by simp [go_sem]) ?_
  refine (sesDrop_d sb v0 .returning _ ((h1.cell 8).trans hv) (h1.frozen 8)).mono ?_
  rintro e u' w'' ⟨rfl, rfl, rfl⟩
  exact ⟨_, results_none rfl _ _ _, rfl, h1.set 8 (by decide) _, fun k a b => (S2.2 k a).trans ((hS1.2 k b).trans (S0.2 k a)), (S0.3.trans hS1.3).trans S2.3, S2.1.trans (hS1.1.trans S0.1)⟩

/-- no transaction, or one that lies in block tb: from, to, body -/
theorem hasRecipients_none (w : World) : Calls Tryz.prog 114 #[.pointer none] w fun e w' => e = .returned (.bool false) ∧ w = w' := by
  go_enter Tryz.func114, Tryz.ntmps114
  go_wp2_with fail
  go_ret
  exact ⟨rfl, rfl⟩
theorem hasRecipients_any (tb n c : Nat) (a : Option Addr) (w : World) (h : w.cell? ⟨tb, 1, none⟩ = some (.slice a n c)) : Calls Tryz.prog 114 #[.pointer (some ⟨tb, 0, none⟩)] w fun e w' => e = .returned (.bool (decide (0 < n))) ∧ w = w' := by
  go_enter Tryz.func114, Tryz.ntmps114
  go_wp2_with fail
  go_ret
  exact ⟨rfl, rfl⟩
theorem hasBody_none (w : World) : Calls Tryz.prog 45 #[.pointer none] w fun e w' => e = .returned (.bool false) ∧ w = w' := by
  go_enter Tryz.func45, Tryz.ntmps45
  go_wp2_with fail
  go_ret
  exact ⟨rfl, rfl⟩
theorem hasBody_no (tb : Nat) (w : World) (h : w.cell? ⟨tb, 2, none⟩ = some (.pointer none)) : Calls Tryz.prog 45 #[.pointer (some ⟨tb, 0, none⟩)] w fun e w' => e = .returned (.bool false) ∧ w = w' := by
  go_enter Tryz.func45, Tryz.ntmps45
  go_wp2_with fail
  go_ret
  exact ⟨rfl, rfl⟩
theorem hasBody_yes (tb bb : Nat) (w : World) (h : w.cell? ⟨tb, 2, none⟩ = some (.pointer (some ⟨bb, 0, none⟩))) : Calls Tryz.prog 45 #[.pointer (some ⟨tb, 0, none⟩)] w fun e w' => e = .returned (.bool true) ∧ w = w' := by
  go_enter Tryz.func45, Tryz.ntmps45
  go_wp2_with fail
  go_ret
  exact ⟨rfl, rfl⟩
end Go.Proofs.YtadcidbeealdpaaGreatDoor

/- A session's small steps: a transaction begins; a body begins. -/
namespace Go.Proofs.YtadcidbeealdpaaGreatDoor
open Go.RowKit

theorem SesAt.below {w w' : World} {sb ch : Nat} {C : Array Value} {ls : List (List UInt8)} (h : SesAt w sb ch C ls) (hb : Below w.heap.size w w') : SesAt w' sb ch C ls := by
  obtain ⟨s, r, hc⟩ := h.chan
  exact ⟨(hb.block sb (Array.getElem?_eq_some_iff.1 h.blk).1).trans h.blk, h.size, h.told, s, r, (hb.block ch (Array.getElem?_eq_some_iff.1 hc).1).trans hc⟩
theorem SesAt.same {w w' : World} {sb ch b : Nat} {C : Array Value} {ls : List (List UInt8)} (h : SesAt w sb ch C ls) (hs : Same b w w') (h1 : sb ≠ b) (h2 : ch ≠ b) : SesAt w' sb ch C ls := by
  obtain ⟨s, r, hc⟩ := h.chan
  exact ⟨(hs.2 sb h1).trans h.blk, h.size, h.told, s, r, (hs.2 ch h2).trans hc⟩

set_option maxHeartbeats 400000 in
set_option maxRecDepth 100000 in
theorem beginBody_any (sb ch tb : Nat) (C : Array Value) (v0 v1 v2 : Value) (w : World) (h : SesAt w sb ch C []) (h8 : C[8]? = some (.pointer (some ⟨tb, 0, none⟩))) (ht : w.heap[tb]? = some (.cells #[v0, v1, v2] 158 (0, 0))) :
    Calls Tryz.prog 82 #[.pointer (some ⟨sb, 0, none⟩)] w fun e w' => e = .returned (.tuple #[]) ∧ SesAt w' sb ch C [[51, 53, 52, 32, 103, 111, 13, 10]] ∧ w'.heap[tb]? = some (.cells #[v0, v1, .pointer (some ⟨w.heap.size, 0, none⟩)] 158 (0, 0)) ∧ w'.heap[w.heap.size]? = some (.cells #[.slice none 0 0, .bool false, .bool false] 183 (0, 0)) ∧ (∀ k, k < w.heap.size → k ≠ tb → k ≠ ch → w'.heap[k]? = w.heap[k]?) ∧ Still w w' ∧ w.heap.size ≤ w'.heap.size := by
  have c8 := (h.cell 8).trans h8
  have tl : tb < w.heap.size := (Array.getElem?_eq_some_iff.1 ht).1
  have a2 : ∀ o : Obj, (w.alloc o).cell? ⟨tb, 2, none⟩ = some v2 := fun o => by rw [Lib.cell_of_heap ((((Below.refl w.heap.size w).alloc (Nat.le_refl _) o).block tb tl).trans ht)]; rfl
  have g2 : ∀ o : Obj, (w.alloc o).frozen? ⟨tb, 2, none⟩ = false := fun o => Lib.frozen_of_heap ((((Below.refl w.heap.size w).alloc (Nat.le_refl _) o).block tb tl).trans ht) 2
  have tsb : sb ≠ tb := fun e => by have := h.blk; rw [e, ht] at this; simp at this
  have tch : ch ≠ tb := fun e => by obtain ⟨s, r, hc⟩ := h.chan; rw [e, ht] at hc; simp at hc
  have S1 : Same tb w (w.setCell ⟨tb, 2, none⟩ (.pointer (some ⟨w.heap.size, 0, none⟩))) := (Same.refl _ _).setCell _
  have t1 := heap_setCell_same w tb 2 _ _ (.pointer (some ⟨w.heap.size, 0, none⟩)) ht
  obtain ⟨W1, hW1⟩ : ∃ W1 : World, w.setCell ⟨tb, 2, none⟩ (.pointer (some ⟨w.heap.size, 0, none⟩)) = W1 := ⟨_, rfl⟩
  rw [hW1] at S1 t1
  obtain ⟨W2, hW2⟩ : ∃ W2 : World, W1.alloc (.cells #[.slice none 0 0, .bool false, .bool false] 183) = W2 := ⟨_, rfl⟩
  have B2 : Below W1.heap.size W1 W2 := by rw [← hW2]; exact (Below.refl _ _).alloc (Nat.le_refl _) _
  have X2 : W2.heap[w.heap.size]? = some (.cells #[.slice none 0 0, .bool false, .bool false] 183 (0, 0)) := by rw [← hW2, ← S1.1]; exact heap_alloc_new W1 _
  have t2 : W2.heap[tb]? = some (.cells #[v0, v1, .pointer (some ⟨w.heap.size, 0, none⟩)] 158 (0, 0)) := (B2.block tb (by rw [S1.1]; exact tl)).trans t1
  have H2 := (h.same S1 tsb tch).below B2
  have HT := Lib.hid (H2.tell (by simp) [51, 53, 52, 32, 103, 111] (by decide))
  have nch : ch ≠ w.heap.size := by obtain ⟨s, r, hc⟩ := h.chan; have := (Array.getElem?_eq_some_iff.1 hc).1; omega
  have HS1 := Lib.hid S1
  have HB2 := Lib.hid B2
  have HT2 := Lib.hid t2
  have HX2 := Lib.hid X2
  have HW1 := Lib.hid hW1
  have HW2 := Lib.hid hW2
  clear h H2 t1 B2 X2 hW1 hW2 S1 t2 ht
  go_enter Tryz.func82, Tryz.ntmps82
  go_wp2_with fail
  rw [HW1.out, HW2.out]
  refine HT.out.mono ?_
  rintro e w3 ⟨rfl, h3, hS3⟩
  go_wp2_with fail
  refine bodyPost_end (results_none rfl _ _ _) rfl ?_
  have hsz : W1.heap.size = w.heap.size := HS1.out.1
  refine ⟨rfl, h3, (hS3.2 tb (Ne.symm tch)).trans HT2.out, (hS3.2 _ (Ne.symm nch)).trans HX2.out, fun k h1 h2 h4 => (hS3.2 k h4).trans ((HB2.out.block k (by omega)).trans (HS1.out.2 k h2)), (HS1.out.3.trans ⟨HB2.out.1, HB2.out.2, HB2.out.3⟩).trans hS3.3, ?_⟩
  rw [hS3.1]
  have := HB2.out.size
  omega
end Go.Proofs.YtadcidbeealdpaaGreatDoor

/- Is a user shown? -/
namespace Go.Proofs.YtadcidbeealdpaaGreatDoor
open Go.RowKit

def userInner (x : ByteArray × ByteArray) : ByteArray := (⟨#[0]⟩ ++ x.1 ++ ⟨#[0]⟩) ++ x.2
def isUser (shown : ByteArray) (x : ByteArray × ByteArray) : Bool := (shown.toList == (userInner x).toList) || (shown.toList == (x.1 ++ userInner x).toList)

set_option maxHeartbeats 1000000 in
set_option maxRecDepth 100000 in
theorem hasUser_any (c : Cfg) (vD vN vU vW : Value) (shown : ByteArray) (w : World) (h : CfgAt w c vD vN vU vW) (hn : c.users.length ≤ 5) (hl : ∀ x ∈ c.users, x.1.size ≤ 255 ∧ x.2.size ≤ 255) :
    Calls Tryz.prog 116 #[.agg #[.string c.host, vD, vN, vU, .int .i64 c.most, .int .i64 c.size, vW, .int .i64 c.life, .int .i64 c.room], .string shown] w fun e w' => e = .returned (.bool (c.users.any (isUser shown))) ∧ Below w.heap.size w w' := by
  obtain ⟨aD, cD, eD⟩ := slice_of h.1
  obtain ⟨aN, cN, eN⟩ := slice_of h.2.1
  obtain ⟨aW, cW, eW⟩ := slice_of h.2.2.2
  obtain ⟨aU, cU, eU, hc⟩ := h.2.2.1.shape
  subst eD eN eU eW
  obtain ⟨W0, hW0⟩ : ∃ W0 : World, w.alloc (.cells #[.string c.host, .slice aD c.doms.length cD, .slice aN c.nets.length cN, .slice aU c.users.length cU, .int .i64 c.most, .int .i64 c.size, .slice aW c.waits.length cW, .int .i64 c.life, .int .i64 c.room] 27) = W0 := ⟨_, rfl⟩
  have B0 : Below w.heap.size w W0 := by rw [← hW0]; exact (Below.refl _ _).alloc (Nat.le_refl _) _
  have HC := Lib.hid hc
  have HL := Lib.hid hl
  have HB0 := Lib.hid B0
  have HW0 := Lib.hid hW0
  clear h hc hl B0 hW0
  go_enter Tryz.func116, Tryz.ntmps116
  go_wp2_with fail
  rw [HW0.out]
  go_loopw [6, 7, 11] (fun _ _ i w' => ∃ k : Nat, k ≤ c.users.length ∧ i = .int .i64 k ∧ Hid ((c.users.take k).any (isUser shown) = false) ∧ Hid (Below w.heap.size w w')) (fun _ _ i _ => c.users.length - (intOf i).toNat)
  case atStart => exact ⟨0, Nat.zero_le _, rfl, Lib.hid rfl, HB0⟩
  case round =>
    obtain ⟨k, hk, rfl, HN, HB⟩ := hrel
    by_cases hlt : k < c.users.length
    · have hlti : (k : Int) < (c.users.length : Int) := by omega
      obtain ⟨b, off, rfl, hbw, hcell⟩ := HC.out k 0 hlt (by omega)
      obtain ⟨b', off', eb, _, hcell'⟩ := HC.out k 1 hlt (by omega)
      injection eb with eb
      injection eb with e1 e2 _
      subst e1 e2
      rw [Nat.add_zero, user_at c.users k hlt] at hcell
      rw [user_at1 c.users k hlt] at hcell'
      have hxl := HL.out c.users[k] (List.getElem_mem hlt)
      have HT : Hid ((c.users.take (k + 1)).any (isUser shown) = isUser shown c.users[k]) := Lib.hid (by rw [List.take_succ_eq_append_getElem hlt, List.any_append, HN.out]; simp)
      have HA : Hid (isUser shown c.users[k] = true → c.users.any (isUser shown) = true) := Lib.hid (fun e => List.any_eq_true.2 ⟨_, List.getElem_mem hlt, e⟩)
      obtain ⟨x, ex⟩ : ∃ x, c.users[k] = x := ⟨_, rfl⟩
      rw [ex] at hcell hcell' hxl HT HA
      obtain ⟨xn, xw⟩ := x
      simp only at hcell hcell' hxl
      have d0 : wr.cell? ⟨b, off + k * 2, none⟩ = some (.string xn) := (HB.out.cell (by exact hbw)).trans hcell
      have d1 : wr.cell? ⟨b, off + k * 2 + 1, none⟩ = some (.string xw) := (HB.out.cell (by exact hbw)).trans hcell'
      have hI : isUser shown (xn, xw) = ((shown.toList == ((⟨#[0]⟩ ++ xn ++ ⟨#[0]⟩) ++ xw).toList) || (shown.toList == (xn ++ ((⟨#[0]⟩ ++ xn ++ ⟨#[0]⟩) ++ xw)).toList)) := rfl
      obtain ⟨t1, ht1⟩ : ∃ t, (shown.toList == ((⟨#[0]⟩ ++ xn ++ ⟨#[0]⟩) ++ xw).toList) = t := ⟨_, rfl⟩
      obtain ⟨t2, ht2⟩ : ∃ t, (shown.toList == (xn ++ ((⟨#[0]⟩ ++ xn ++ ⟨#[0]⟩) ++ xw)).toList) = t := ⟨_, rfl⟩
      rw [ht1, ht2] at hI
      rw [hI] at HT HA
      clear ex hcell hcell' hI
      have B9 := Lib.hid (HB.out.alloc HB.out.size (.cells #[.string xn, .string xw] 48))
      cases t1 with
      | true =>
        have HR := Lib.hid (HA.out (by simp))
        go_wp2_with fail
        go_ret
        exact ⟨by rw [HR.out]; rfl, B9.out⟩
      | false =>
        cases t2 with
        | true =>
          have HR := Lib.hid (HA.out (by simp))
          go_wp2_with fail
          go_ret
          exact ⟨by rw [HR.out]; rfl, B9.out⟩
        | false =>
          have HN9 : Hid ((c.users.take (k + 1)).any (isUser shown) = false) := Lib.hid (HT.out.trans (by simp))
          go_wp2_with fail
          exact ⟨⟨k + 1, by omega, by go_num, HN9, B9⟩, by simp [intOf]; omega⟩
    · have hk9 : k = c.users.length := by omega
      subst hk9
      rw [List.take_length] at HN
      go_wp2_with fail
      go_ret
      exact ⟨by rw [HN.out]; rfl, HB.out⟩
end Go.Proofs.YtadcidbeealdpaaGreatDoor

/- A user is shown, or is not. -/
namespace Go.Proofs.YtadcidbeealdpaaGreatDoor
open Go.RowKit

/-- the post's settings, in the first nine cells of block pp -/
structure SetAt (w : World) (pp : Nat) (c : Cfg) (vD vN vU vW : Value) : Prop where
  blk : ∃ A : Array Value, w.heap[pp]? = some (.cells A 61 (0, 0)) ∧ A.toList.take 9 = [.string c.host, vD, vN, vU, .int .i64 c.most, .int .i64 c.size, vW, .int .i64 c.life, .int .i64 c.room]
  rows : CfgAt w c vD vN vU vW
  may : mayB c = true
theorem SetAt.small {w : World} {pp : Nat} {c : Cfg} {vD vN vU vW : Value} (h : SetAt w pp c vD vN vU vW) : CfgSm c := may_small h.may
theorem SetAt.cell {w : World} {pp : Nat} {c : Cfg} {vD vN vU vW : Value} (h : SetAt w pp c vD vN vU vW) (j : Nat) (hj : j < 9) : w.cell? ⟨pp, j, none⟩ = [.string c.host, vD, vN, vU, .int .i64 c.most, .int .i64 c.size, vW, .int .i64 c.life, .int .i64 c.room][j]? := by
  obtain ⟨A, hb, ht⟩ := h.blk
  rw [Lib.cell_of_heap hb, ← Array.getElem?_toList, ← List.getElem?_take_of_lt hj, ht]

set_option maxHeartbeats 400000 in
set_option maxRecDepth 100000 in
theorem know_busy (sb ch tb : Nat) (C : Array Value) (shown : ByteArray) (w : World) (h : SesAt w sb ch C []) (h8 : C[8]? = some (.pointer (some ⟨tb, 0, none⟩))) :
    Calls Tryz.prog 79 #[.pointer (some ⟨sb, 0, none⟩), .string shown] w fun e w' => e = .returned (.tuple #[]) ∧ SesAt w' sb ch C [[53, 48, 51, 32, 102, 105, 114, 115, 116, 13, 10]] ∧ Same ch w w' := by
  have HT := Lib.hid (h.tell (by simp) [53, 48, 51, 32, 102, 105, 114, 115, 116] (by decide))
  have c8 := (h.cell 8).trans h8
  clear h
  go_enter Tryz.func79, Tryz.ntmps79
  go_wp2_with fail
  refine HT.out.mono ?_
  rintro e w1 ⟨rfl, h1, hS1⟩
  go_wp2_with fail
  refine bodyPost_end (results_none rfl _ _ _) rfl ?_
  exact ⟨rfl, h1, hS1⟩
set_option maxHeartbeats 400000 in
set_option maxRecDepth 100000 in
theorem know_again (sb ch : Nat) (C : Array Value) (shown : ByteArray) (w : World) (h : SesAt w sb ch C []) (h8 : C[8]? = some (.pointer none)) (h6 : C[6]? = some (.bool true)) :
    Calls Tryz.prog 79 #[.pointer (some ⟨sb, 0, none⟩), .string shown] w fun e w' => e = .returned (.tuple #[]) ∧ SesAt w' sb ch C [[53, 48, 51, 32, 102, 105, 114, 115, 116, 13, 10]] ∧ Same ch w w' := by
  have HT := Lib.hid (h.tell (by simp) [53, 48, 51, 32, 102, 105, 114, 115, 116] (by decide))
  have c8 := (h.cell 8).trans h8
  have c6 := (h.cell 6).trans h6
  clear h
  go_enter Tryz.func79, Tryz.ntmps79
  go_wp2_with fail
  refine HT.out.mono ?_
  rintro e w1 ⟨rfl, h1, hS1⟩
  go_wp2_with fail
  refine bodyPost_end (results_none rfl _ _ _) rfl ?_
  exact ⟨rfl, h1, hS1⟩

set_option maxHeartbeats 1000000 in
set_option maxRecDepth 100000 in
theorem know_any (sb ch pp : Nat) (C : Array Value) (c : Cfg) (vD vN vU vW : Value) (shown : ByteArray) (w : World) (h : SesAt w sb ch C []) (hc : SetAt w pp c vD vN vU vW) (h0 : C[0]? = some (.pointer (some ⟨pp, 0, none⟩))) (h8 : C[8]? = some (.pointer none)) (h6 : C[6]? = some (.bool false)) :
    Calls Tryz.prog 79 #[.pointer (some ⟨sb, 0, none⟩), .string shown] w fun e w' => e = .returned (.tuple #[]) ∧ SesAt w' sb ch (if c.users.any (isUser shown) then C.setIfInBounds 6 (.bool true) else C) [if c.users.any (isUser shown) then [50, 51, 53, 32, 111, 107, 13, 10] else [53, 51, 53, 32, 110, 111, 13, 10]] ∧ (∀ k, k < w.heap.size → k ≠ sb → k ≠ ch → w'.heap[k]? = w.heap[k]?) ∧ Still w w' ∧ w.heap.size ≤ w'.heap.size := by
  have c8 := (h.cell 8).trans h8
  have c6 := (h.cell 6).trans h6
  have c0 := (h.cell 0).trans h0
  obtain ⟨aD, cD, eD⟩ := slice_of hc.rows.1
  obtain ⟨aN, cN, eN⟩ := slice_of hc.rows.2.1
  obtain ⟨aU, cU, eU⟩ := slice_of hc.rows.2.2.1
  obtain ⟨aW, cW, eW⟩ := slice_of hc.rows.2.2.2
  subst eD eN eU eW
  have y0 := hc.cell 0 (by decide)
  have y1 := hc.cell 1 (by decide)
  have y2 := hc.cell 2 (by decide)
  have y3 := hc.cell 3 (by decide)
  have y4 := hc.cell 4 (by decide)
  have y5 := hc.cell 5 (by decide)
  have y6 := hc.cell 6 (by decide)
  have y7 := hc.cell 7 (by decide)
  have y8 := hc.cell 8 (by decide)
  simp only [List.getElem?_cons_zero, List.getElem?_cons_succ] at y0 y1 y2 y3 y4 y5 y6 y7 y8
  have HU := Lib.hid (hasUser_any c _ _ _ _ shown w hc.rows hc.small.users hc.small.userz)
  have HH := Lib.hid h
  obtain ⟨t, ht⟩ : ∃ t, c.users.any (isUser shown) = t := ⟨_, rfl⟩
  rw [ht] at HU ⊢
  clear h hc ht
  go_enter Tryz.func79, Tryz.ntmps79
  go_wp2_with fail
  refine HU.out.mono ?_
  rintro e w1 ⟨rfl, hb1⟩
  have H1 := HH.out.below hb1
  have HB1 := Lib.hid hb1
  cases t with
  | true =>
    have d6 := (H1.cell 6).trans h6
    have f6 := H1.frozen 6
    have S2 : Same sb w1 (w1.setCell ⟨sb, 6, none⟩ (.bool true)) := (Same.refl _ _).setCell _
    have HT := Lib.hid ((H1.set 6 (by decide) (.bool true)).tell (by simp) [50, 51, 53, 32, 111, 107] (by decide))
    have HS2 := Lib.hid S2
    clear H1 S2 hb1 HU
    go_wp2_with fail
    refine HT.out.mono ?_
    rintro e w3 ⟨rfl, h3, hS3⟩
    go_wp2_with fail
    refine bodyPost_end (results_none rfl _ _ _) rfl ?_
    refine ⟨rfl, h3, fun k a b d => (hS3.2 k d).trans ((HS2.out.2 k b).trans (HB1.out.block k a)), ((show Still w w1 from ⟨HB1.out.1, HB1.out.2, HB1.out.3⟩).trans HS2.out.3).trans hS3.3, ?_⟩
    rw [hS3.1, HS2.out.1]
    exact HB1.out.size
  | false =>
    have HT := Lib.hid (H1.tell (by simp) [53, 51, 53, 32, 110, 111] (by decide))
    clear H1 hb1 HU
    go_wp2_with fail
    refine HT.out.mono ?_
    rintro e w3 ⟨rfl, h3, hS3⟩
    go_wp2_with fail
    refine bodyPost_end (results_none rfl _ _ _) rfl ?_
    refine ⟨rfl, h3, fun k a _ d => (hS3.2 k d).trans (HB1.out.block k a), (show Still w w1 from ⟨HB1.out.1, HB1.out.2, HB1.out.3⟩).trans hS3.3, ?_⟩
    rw [hS3.1]
    exact HB1.out.size
end Go.Proofs.YtadcidbeealdpaaGreatDoor
