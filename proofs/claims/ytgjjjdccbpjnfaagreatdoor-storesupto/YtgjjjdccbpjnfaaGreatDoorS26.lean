import Derived.Test.YtgjjjdccbpjnfaaGreatDoorS24
import Derived.Test.YtgjjjdccbpjnfaaGreatDoorS25
import Derived.Test.YtgjjjdccbpjnfaaGreatDoorS14
import Derived.Test.YtgjjjdccbpjnfaaGreatDoorS22
import Derived.Test.YtgjjjdccbpjnfaaGreatDoorS02
import Derived.Deep.AppendLies
import Derived.Test.YtgjjjdccbpjnfaaGreatDoorS20
import Derived.Test.YtgjjjdccbpjnfaaGreatDoorS18

/- The bag's queue. -/
namespace Go.Proofs.YtgjjjdccbpjnfaaGreatDoor
open Go.RowKit

def PStore.toldOf (S : PStore) (i : Nat) : PMail := ⟨i + 1, (S.mailOf i).time, (S.mailOf i).frm, namesL (S.stayOf i), (S.mailOf i).body⟩
theorem now_told {S : PStore} (hok : S.Ok) {i : Nat} (h : i < S.items.length) : S.items[i].now = S.toldOf i := by
  unfold PItem.now PStore.toldOf
  rw [mailOf_lt h, stayOf_lt h, hok.id i h]
  congr 1
  unfold namesL stay
  rw [List.map_map]
  rfl
theorem queueL_live {S : PStore} (hok : S.Ok) : queueL S.items = S.live.map S.toldOf := by
  have e1 : S.items.map PItem.now = (List.range S.items.length).map S.toldOf := by
    apply List.ext_getElem (by simp)
    intro i h1 h2
    rw [List.getElem_map, List.getElem_map, List.getElem_range]
    exact now_told hok (by simpa using h1)
  unfold queueL PStore.live
  rw [e1, List.filter_map]
  congr 1
  apply List.filter_congr
  intro i hi
  show (!(S.toldOf i).tos.isEmpty) = _
  unfold PStore.toldOf namesL
  simp
/-- a mail and the block of its recipients -/
def rowVal (x : PMail × Nat) : PMail × Value := (x.1, .slice (some ⟨x.2, 0, none⟩) x.1.tos.length x.1.tos.length)
structure RowsIn (s : Nat) (w : World) (v : Value) (rows : List (PMail × Nat)) : Prop where
  row : w.ownsRow s 26 5 v rows.length (mailRow (rows.map rowVal))
  tos : ∀ x ∈ rows, w.ownsRow s 9 1 (rowVal x).2 x.1.tos.length (textCells x.1.tos)
  apart : (rows.map (·.2)).Nodup
theorem RowsIn.keep {s : Nat} {w w' : World} {v : Value} {rows : List (PMail × Nat)} (h : RowsIn s w v rows) (hb : Below w.heap.size w w') : RowsIn s w' v rows :=
  ⟨ownsRow_keeps h.row fun _g _cur e _ => below_some hb e, fun x hx => ownsRow_keeps (h.tos x hx) fun _g _cur e _ => below_some hb e, h.apart⟩
theorem RowsIn.mails {s : Nat} {w : World} {v : Value} {rows : List (PMail × Nat)} (h : RowsIn s w v rows) : MailsIn s w v (rows.map rowVal) :=
  ⟨by rw [List.length_map]; exact h.row, fun x hx => by
    obtain ⟨y, hy, rfl⟩ := List.mem_map.1 hx
    exact h.tos y hy⟩
theorem RowsIn.plus {s g : Nat} {w1 w9 w10 : World} {v v' : Value} {rows : List (PMail × Nat)} {m : PMail} {o : Obj} (h : RowsIn s w9 v rows) (hg : ∀ x ∈ rows, x.2 < g) (V9 : w9.ownsRow s 9 1 (rowVal (m, g)).2 m.tos.length (textCells m.tos)) (B9 : Below s w1 w9) (hz : s ≤ w9.heap.size)
    (hown : w10.ownsRow s 26 5 v' (rows.length + 1) (mailRow (rows.map rowVal) ++ (mailCells m (rowVal (m, g)).2).toList)) (hgrow : (w9.alloc o).grownBy w10 v.ownBlock) : RowsIn s w10 v' (rows ++ [(m, g)]) ∧ Below s w1 w10 := by
  obtain ⟨⟨a, b⟩, c⟩ := queue_put (rows := rows.map rowVal) (m := m) (vt := (rowVal (m, g)).2) (fun x hx => by
    obtain ⟨y, hy, rfl⟩ := List.mem_map.1 hx
    exact h.tos y hy) (by rw [List.length_map]; exact h.row) V9 B9 hz (by rw [List.length_map]; exact hown) hgrow
  refine ⟨⟨?_, fun x hx => ?_, ?_⟩, c⟩
  · rw [List.map_append]
    have : w10.ownsRow s 26 5 v' (rows.length + 1) (mailRow (rows.map rowVal ++ [(m, (rowVal (m, g)).2)])) := by simpa using a
    rw [List.length_append]
    exact this
  · rcases List.mem_append.1 hx with hx' | hx'
    · exact b (rowVal x) (List.mem_append.2 (.inl (List.mem_map.2 ⟨x, hx', rfl⟩)))
    · simp only [List.mem_singleton] at hx'
      subst hx'
      exact b (rowVal (m, g)) (List.mem_append.2 (.inr (by simp; rfl)))
  · rw [List.map_append, List.nodup_append]
    refine ⟨h.apart, by simp, fun x hx y hy => ?_⟩
    obtain ⟨z, hz', rfl⟩ := List.mem_map.1 hx
    simp only [List.map_cons, List.map_nil, List.mem_singleton] at hy
    have := hg z hz'
    omega

theorem ownsRow_grown_far {w9 w10 : World} {s n m sz sz' : Nat} {e e' : TypeId} {u v : Value} {xs ys : List Value} {o : Obj} (h : w9.ownsRow s e sz u n xs) (hv : w9.ownsRow s e' sz' v m ys) (hgrow : (w9.alloc o).grownBy w10 v.ownBlock) (hne : e ≠ e') : w10.ownsRow s e sz u n xs := by
  refine (h.alloc o).kept hgrow ?_
  rcases h.2 with ⟨e1, _⟩ | ⟨g, cap, cur, e1, _, hg, _⟩
  · subst e1; exact .inl rfl
  · refine .inr fun e2 => ?_
    rcases hv.2 with ⟨e3, _⟩ | ⟨g', cap', cur', e3, _, hg', _⟩
    · rw [e3, e1] at e2; cases e2
    · rw [e3, e1] at e2
      injection e2 with e2
      exact tag_ne hg hg' hne e2
theorem map_len {P : Program} {k e t ty : TypeId} {w : World} {b c : Nat} {q : Nat → Nat} {l : List Nat} (ht : P.underlying t = some (.map k e)) (h : MapIn w b q l c) : (Builtin.len_ #[t] ty #[.map (some b)]).run P w = .ok (.int .i64 l.length) w := by
  simp [Builtin.len_, run_underlying ht, MapKept.run_getObj_map h, ents, Result.andThen, goInt]

set_option maxHeartbeats 1000000 in
set_option maxRecDepth 100000 in
theorem bagQueue_any (base pb mb : Nat) (q : Nat → Nat) (vr : Value) (S : PStore) (w : World) (h : BagIn base w pb mb q vr S) (hok : S.Ok) (hn : S.items.length ≤ 1048576) :
    Calls Tryz.prog 18 #[.pointer (some ⟨pb, 0, none⟩)] w fun e w' => ∃ v rows, e = .returned v ∧ RowsIn w.heap.size w' v rows ∧ rows.map (·.1) = queueL S.items ∧ Below w.heap.size w w' := by
  have c3 : w.cell? ⟨pb, 3, none⟩ = some (.map (some mb)) := by rw [Lib.cell_of_heap h.bag]; rfl
  have hlen := live_len S
  have hln : ∀ ty, (Builtin.len_ #[85] ty #[.map (some mb)]).run Tryz.prog w = .ok (.int .i64 S.live.length) w := fun ty => map_len Tryz.underlying85 h.map
  obtain ⟨im, him, hzm0, hzm1, hzm2⟩ := info_parts info_mail
  have HH := Lib.hid h
  have HQ := Lib.hid (queueL_live hok)
  have HOK := Lib.hid hok
  have hpbs := h.pblt
  clear h hok
  go_enter Tryz.func18, Tryz.ntmps18
  go_wp2_with (first
    | (at_make; refine wpList_make_own _ rfl _ _ 40 rfl w.heap.size 26 im _ 5 Tryz.underlying40 him hzm0 hzm1 .i64 .i64 _ S.live.length rfl rfl rfl ?b2 ?b3 (Nat.le_refl _) ?_; rotate_left 2; intro w1 hown1 hgrow1; have B1 := Lib.hid ((Below.refl w.heap.size w).grown hgrow1 (Nat.le_refl _) (fun j hj => by cases hj)); have A1 := HH.out.keep B1.out; have c31 : w1.cell? ⟨pb, 3, none⟩ = some (.map (some mb)) := (by rw [Lib.cell_of_heap A1.bag]; rfl); have HA1 := Lib.hid A1; have HOW := Lib.hid hown1; clear A1 hown1 hgrow1)
    | fail)
  case b2 => rw [hzm2]; omega
  case b3 => unfold maxLen; omega
  refine (keys_any (some mb) w1).mono ?_
  rintro e w2 ⟨rfl, hw2⟩
  have HW2 := Lib.hid hw2
  clear hw2 c31 hln c3
  go_wp2_with fail
  rw [HW2.out]
  refine (sortedKeys_any w1 mb S.items.length q S.live HA1.out.map (fun i hi => live_lt hi) (live_pairwise S) hn hlen).mono ?_
  rintro e w3 ⟨vk, rfl, hk3, hb3⟩
  have B3 : Hid (Below w1.heap.size w1 w3) := Lib.hid (((Below.refl _ w1).alloc (Nat.le_refl _) _).trans (hb3.mono (by omega)))
  have HR3 : Hid (RowsIn w.heap.size w3 (.slice (some ⟨w.heap.size, 0, none⟩) 0 S.live.length) []) := Lib.hid ⟨ownsRow_keeps HOW.out fun g cur e _ => below_some B3.out e, fun x hx => by simp at hx, by simp⟩
  have HK3 : Hid (w3.ownsRow w.heap.size 3 1 vk S.live.length ((keysZ S.live).map fun (i : Int) => .int .i64 i)) := Lib.hid (hk3.mono (by have := B1.out.size; omega))
  have HB3 : Hid (Below w.heap.size w w3) := Lib.hid (B1.out.trans (B3.out.mono B1.out.size))
  obtain ⟨ak, ck, rfl⟩ : ∃ a c, vk = .slice a S.live.length c := by
    rcases hk3.2 with ⟨e, h0⟩ | ⟨g, cap, cur, e, _⟩
    · exact ⟨_, _, by rw [h0]; exact e⟩
    · exact ⟨_, _, e⟩
  clear hk3 hb3 HW2 HA1 B1 B3 HOW
  go_wp2_with fail
  go_loopw [3, 5, 19] (fun v _ i w' => ∃ (k : Nat) (rows : List (PMail × Nat)), k ≤ S.live.length ∧ i = .int .i64 k ∧ rows.length = k ∧ Hid (rows.map (·.1) = (S.live.take k).map S.toldOf) ∧ Hid (RowsIn w.heap.size w' v rows) ∧ Hid (w'.ownsRow w.heap.size 3 1 (.slice ak S.live.length ck) S.live.length ((keysZ S.live).map fun (i : Int) => .int .i64 i)) ∧ Hid (Below w.heap.size w w')) (fun _ _ i _ => S.live.length - (intOf i).toNat)
  case atStart => exact ⟨0, [], Nat.zero_le _, rfl, rfl, Lib.hid rfl, HR3, HK3, HB3⟩
  case round =>
    clear HR3 HK3 HB3
    obtain ⟨k, rows, hk, rfl, hrl, HE, HR, HK, HB⟩ := hrel
    by_cases hlt : k < S.live.length
    · have hlti : (k : Int) < (S.live.length : Int) := by omega
      obtain ⟨a', cap', ea, hc⟩ := (row_of_own' HK.out).one
      injection ea with ea1 _ ea3
      subst ea1 ea3
      obtain ⟨b, off, rfl, hbw, hcell⟩ := hc k hlt
      have hck : ((keysZ S.live).map fun (i : Int) => Value.int .i64 i)[k]? = some (.int .i64 ((S.live[k] : Int) + 1)) := by simp [keysZ, hlt]
      rw [hck] at hcell
      have hmem : S.live[k] ∈ S.live := List.getElem_mem hlt
      have HE2 : Hid ((S.live.take (k + 1)).map S.toldOf = rows.map (·.1) ++ [S.toldOf S.live[k]]) := Lib.hid (by rw [List.take_succ_eq_append_getElem hlt, List.map_append, HE.out]; rfl)
      generalize S.live[k] = i at hcell hmem HE2
      have hin := live_lt hmem
      have Ar := HH.out.keep HB.out
      have c3r : wr.cell? ⟨pb, 3, none⟩ = some (.map (some mb)) := by rw [Lib.cell_of_heap Ar.bag]; rfl
      have hlk : (Instr.lookup 85 (.map (some mb)) (.int .i64 ((i : Int) + 1)) false).run Tryz.prog wr = .ok (.pointer (some ⟨q i, 0, none⟩)) wr :=
        map_look (t := 85) (e := 96) und_int Tryz.underlying85 Ar.map (fun j hj => by have := live_lt hj; omega) i (by omega) hmem false
      obtain ⟨_, v0, x0, hbm, hrr⟩ := Ar.mail i hmem
      have hz : MailSz (S.mailOf i) := by rw [mailOf_lt hin]; exact (HOK.out.sz _ (List.getElem_mem hin)).1
      have hsl := stayOf_le HOK.out i
      have HTD := Lib.hid (told_any base (q i) (i + 1) _ _ _ v0 (S.stayOf i) x0 wr hbm hrr (by omega) hz.2.2.1 hz.2.2.2.2.2 (fun x hx => by
        unfold PStore.stayOf stay at hx
        obtain ⟨j, _, rfl⟩ := List.mem_map.1 hx
        exact getD_le hz.2.2.2.2.1 j))
      have hNl : (namesL (S.stayOf i)).length = (S.stayOf i).length := by simp [namesL]
      have HTO : Hid (S.toldOf i = ⟨i + 1, (S.mailOf i).time, (S.mailOf i).frm, namesL (S.stayOf i), (S.mailOf i).body⟩) := Lib.hid rfl
      obtain ⟨n, en⟩ : ∃ n, (S.stayOf i).length = n := ⟨_, rfl⟩
      rw [en] at HTD hsl hNl
      have hsw : w.heap.size ≤ wr.heap.size := HB.out.size
      clear Ar hbm hrr hc hck HE en
      go_wp2_with fail
      refine HTD.out.mono ?_
      rintro e w4 ⟨g, rfl, hg4, ho4, hb4⟩
      have R4 := HR.out.keep hb4
      have K4 := Lib.hid (ownsRow_keeps HK.out fun g cur e _ => below_some hb4 e)
      have B4 := Lib.hid (HB.out.trans (hb4.mono hsw))
      have HG : Hid (∀ x ∈ rows, x.2 < g) := Lib.hid (fun x hx => by
        have := (HR.out.tos x hx).lt x.2 rfl
        omega)
      have O4 := Lib.hid (ho4.mono hsw)
      have hs4 : wr.heap.size ≤ w4.heap.size := hb4.size
      have R4r := R4.row
      have HR4 := Lib.hid R4
      simp only [mailCells]
      clear hb4 ho4 R4 hlk c3r hcell
      go_wp2_with (first
        | (at_builtin; refine wpList_append_own _ rfl _ _ 40 rfl w.heap.size 26 im _ 5 72 Tryz.underlying40 him hzm0 hzm1 hzm2 rfl (by decide) _ _ _ rfl (R4r.alloc _) ⟨w4.heap.size, 0, none⟩ 1 1 [.int .i64 ((i + 1 : Nat) : Int), .int .i64 (S.mailOf i).time, .string (bs (S.mailOf i).frm), .slice (some ⟨g, 0, none⟩) n n, .string (bs (S.mailOf i).body)] rfl rfl ?c1 ?c2 ?c3 ?c4 ?c5 ?_)
        | fail)
      case c1 => exact World.news_of_block (cs := #[.int .i64 ((i + 1 : Nat) : Int), .int .i64 (S.mailOf i).time, .string (bs (S.mailOf i).frm), .slice (some ⟨g, 0, none⟩) n n, .string (bs (S.mailOf i).body)]) (t := 26) (fr := (0, 0)) (heap_alloc_new w4 _)
      case c2 => intro u hu; simp at hu; rcases hu with rfl | rfl | rfl | rfl | rfl <;> rfl
      case c3 => unfold maxLen; omega
      case c4 => omega
      case c5 => simp; omega
      · intro v' w10 hown hgrow _
        have eV : (rowVal (S.toldOf i, g)).2 = .slice (some ⟨g, 0, none⟩) n n := by
          show Value.slice (some ⟨g, 0, none⟩) (namesL (S.stayOf i)).length (namesL (S.stayOf i)).length = _
          rw [hNl]
        have K10 := Lib.hid (ownsRow_grown_far K4.out R4r hgrow (by decide))
        have D := Lib.hid (HR4.out.plus (m := S.toldOf i) (g := g) HG.out (by rw [eV]; show w4.ownsRow _ _ _ _ (namesL (S.stayOf i)).length _; rw [hNl]; exact O4.out) B4.out (by omega) (by rw [eV, hrl]; exact hown) hgrow)
        clear hown hgrow R4r
        go_wp2_with fail
        exact ⟨⟨k + 1, rows ++ [(S.toldOf i, g)], by omega, by go_num, by simp; omega, Lib.hid (by rw [HE2.out]; simp), Lib.hid D.out.1, K10, Lib.hid D.out.2⟩, by simp [intOf]; omega⟩
    · have hk9 : k = S.live.length := by omega
      subst hk9
      rw [List.take_length, ← HQ.out] at HE
      go_wp2_with fail
      go_ret
      exact ⟨_, rows, rfl, HR.out, HE.out, HB.out⟩
end Go.Proofs.YtgjjjdccbpjnfaaGreatDoor

/- A post's queue. -/
namespace Go.Proofs.YtgjjjdccbpjnfaaGreatDoor
open Go.RowKit

set_option maxHeartbeats 400000 in
theorem postQueue_any (base pp : Nat) (l : List UInt8) (w : World) (h : PostIn base w pp l) (hl : l.length ≤ 1048576) :
    Calls Tryz.prog 9 #[.pointer (some ⟨pp, 0, none⟩)] w fun e w' => ∃ v rows, e = .returned (.tuple #[v, .int .i64 0]) ∧ RowsIn w.heap.size w' v rows ∧ rows.map (·.1) = queueL (readS l).1.items ∧ Below w.heap.size w w' := by
  obtain ⟨pb, mb, q, vr, ⟨C, h1, hC⟩, h2, h3, h4, _⟩ := h
  have c0 : w.cell? ⟨pp, 9, none⟩ = some (.pointer (some ⟨pb, 0, none⟩)) := by rw [Lib.cell_of_heap h1]; exact hC
  have hz := readS_len l
  have HK := Lib.hid (bagQueue_any base pb mb q vr _ w h2 h3 (by omega))
  clear h1 h2 h3 h4 hz hC
  go_enter Tryz.func9, Tryz.ntmps9
  go_wp2_with fail
  refine HK.out.mono ?_
  rintro e w' ⟨v, rows, rfl, hr, he, hb⟩
  have HR := Lib.hid hr
  have HE := Lib.hid he
  have HB := Lib.hid hb
  clear hr he hb
  go_wp2_with fail
  go_ret2
  exact ⟨v, rows, rfl, HR.out, HE.out, HB.out⟩
end Go.Proofs.YtgjjjdccbpjnfaaGreatDoor

/- The law's marks: a text for a number. -/
namespace Go.Proofs.YtgjjjdccbpjnfaaGreatDoor
open Go.RowKit

def digitsR (n : Nat) : List UInt8 := if n = 0 then [] else UInt8.ofNat (48 + n % 10) :: digitsR (n / 10)
  termination_by n
  decreasing_by omega
theorem digitsR_pos {n : Nat} (h : 0 < n) : digitsR n = UInt8.ofNat (48 + n % 10) :: digitsR (n / 10) := by
  rw [digitsR, if_neg (by omega)]
theorem digitsR_zero : digitsR 0 = [] := by rw [digitsR, if_pos rfl]
theorem digitsR_len : ∀ (d n : Nat), n < 10 ^ d → (digitsR n).length ≤ d
  | 0, n, h => by
    have : n = 0 := by simpa using h
    subst this
    rw [digitsR_zero]
    exact Nat.le_refl _
  | d + 1, n, h => by
    rcases Nat.eq_zero_or_pos n with rfl | hn
    · rw [digitsR_zero]; simp
    · rw [digitsR_pos hn, List.length_cons]
      have := digitsR_len d (n / 10) (by rw [Nat.pow_succ] at h; omega)
      omega
def markL (n : Nat) : List UInt8 := [109, 97, 114, 107] ++ digitsR n

set_option maxHeartbeats 400000 in
set_option maxRecDepth 100000 in
theorem mark_any (N : Nat) (w : World) (hN : N ≤ maxLen) :
    Calls Tryz.prog 191 #[.int .i64 N] w fun e w' => e = .returned (.string (bs (markL N))) ∧ Below w.heap.size w w' := by
  have HL : Hid ((markL N).length ≤ 23) := Lib.hid (by
    have := digitsR_len 19 N (by unfold maxLen at hN; omega)
    unfold markL
    rw [List.length_append]
    show 4 + _ ≤ 23
    omega)
  unfold maxLen at hN
  go_enter Tryz.func191, Tryz.ntmps191
  go_wp2_with fail
  go_loopw [0, 3] (fun nv sv w' => ∃ (k : Nat) (S : List UInt8), nv = .int .i64 k ∧ sv = .string (bs S) ∧ k ≤ N ∧ S.length ≤ 24 ∧ Hid (S ++ digitsR k = markL N) ∧ Hid (Below w.heap.size w w')) (fun nv _ _ => (intOf nv).toNat)
  case atStart => exact ⟨N, [109, 97, 114, 107], rfl, rfl, Nat.le_refl _, by simp, Lib.hid rfl, Lib.hid (Below.refl _ _)⟩
  case round =>
    obtain ⟨k, S, rfl, rfl, hk, hS, HS, HB⟩ := hrel
    have hSz := bs_size S
    by_cases hlt : 0 < k
    · have hd10 : (k : Int) % 10 = ((k % 10 : Nat) : Int) := by omega
      have hconv : (convert 86 9 (.slice (some ⟨wr.heap.size, 0, none⟩) 1 1)).run Tryz.prog (wr.alloc (.cells #[.int .u8 (48 + (k : Int) % 10)] 5)) = .ok (.string (bs [UInt8.ofNat (48 + k % 10)])) (wr.alloc (.cells #[.int .u8 (48 + (k : Int) % 10)] 5)) := by
        refine bytes_back _ wr.heap.size 1 1 [UInt8.ofNat (48 + k % 10)] rfl (fun i hi => ?_)
        obtain rfl : i = 0 := by omega
        rw [show (⟨wr.heap.size, 0 + 0, none⟩ : Addr) = ⟨wr.heap.size, 0, none⟩ from rfl, World.cell?_alloc_mark]
        simp
        omega
      have hs1 : (bs [UInt8.ofNat (48 + k % 10)]).size = 1 := bs_size _
      have HD : Hid (digitsR k = UInt8.ofNat (48 + k % 10) :: digitsR (k / 10)) := Lib.hid (digitsR_pos hlt)
      obtain ⟨D, eD⟩ : ∃ D, UInt8.ofNat (48 + k % 10) = D := ⟨_, rfl⟩
      rw [eD] at hconv hs1 HD
      clear hd10 eD
      go_wp2_with fail
      have e := HS.out
      rw [HD.out] at e
      have hl := HL.out
      rw [← e, List.length_append, List.length_cons] at hl
      have hB := HB.out.size
      refine ⟨⟨k / 10, S ++ [D], congrArg (Value.int .i64) (by omega), by rw [bs_append], by omega, by rw [List.length_append]; simp; omega, Lib.hid (by rw [← e]; simp), Lib.hid (HB.out.alloc hB _)⟩, ?_⟩
      simp only [intOf]
      omega
    · have HK0 : Hid (k = 0) := Lib.hid (by omega)
      go_wp2_with fail
      go_ret
      have e := HS.out
      rw [HK0.out, digitsR_zero, List.append_nil] at e
      exact ⟨congrArg (fun x => Ending.returned (.string (bs x))) e, HB.out⟩
end Go.Proofs.YtgjjjdccbpjnfaaGreatDoor

/- append onto a list of one's own: in its own row, or in a new block while nothing that was there turns. -/
namespace Go.Proofs.YtgjjjdccbpjnfaaGreatDoor

section
variable {P : Program} (w : World)
theorem run_append_sharp (t ty : TypeId) (base : Nat) (e : TypeId) (i : TypeInfo) (z : Value) (size bytes : Nat) (ht : P.underlying t = some (.slice e)) (hi : P.info? e = some i) (hz : i.zero = some z)
    (hsize : i.size = size) (hby : i.bytes = bytes) (hzs : z.cells.size = size) (hsz : 0 < size)
    (v : Value) (n : Nat) (xs : List Value) (hown : w.ownsRow base e size v n xs)
    (ad : Addr) (m c : Nat) (news : List Value) (hl : news.length = m * size) (hnews : ∀ j u, news[j]? = some u → w.cell? (ad.add j) = some u) (h1 : ∀ u ∈ news, u.oneCell' = true)
    (hm : 0 < m) (h63 : n + m ≤ maxLen) (hbytes : (n + m) * bytes ≤ 140737488355328) (hbase : base ≤ w.heap.size) :
    ∃ g cap w', (Builtin.append_ #[t, t] ty #[v, .slice (some ad) m c]).run P w = .ok (.slice (some ⟨g, 0, none⟩) (n + m) cap) w' ∧
      w'.ownsRow base e size (.slice (some ⟨g, 0, none⟩) (n + m) cap) (n + m) (xs ++ news) ∧ ((v.ownBlock = some g ∧ w.grownBy w' (some g)) ∨ (g = w.heap.size ∧ w.grownBy w' none)) := by
  obtain ⟨g, cap, w', hr, h2, h3, h4, h5⟩ := run_append_lies (P := P) w t ty base e i z size bytes ht hi hz hsize hby hzs hsz v n xs hown ad m c news hl hnews h1 hm h63 hbytes hbase w.heap.size rfl
  refine ⟨g, cap, w', hr, h2, ?_⟩
  rcases hown.2 with ⟨rfl, _⟩ | ⟨g0, cap0, cur, rfl, hbg, hg, hnc, hcm, hcs, htake⟩
  · rcases h4 with h4 | h4
    · cases h4
    · exact .inr ⟨h4, h3⟩
  · have hb : (Value.slice (some ⟨g0, 0, none⟩) n cap0).ownBlock = some g0 := rfl
    subst hsize
    by_cases hroom : n + m ≤ cap0
    · have hfit : n * i.size + news.length ≤ cur.size := by rw [hl, hcs, ← Nat.add_mul]; exact Nat.mul_le_mul_right _ hroom
      have hr' := run_append_room (P := P) w t ty e i ht hi g0 n cap0 cur hg ad m c news hl hnews h1 hroom hfit
      rw [hr] at hr'
      injection hr' with e1 e2
      injection e1 with e1 _ _
      injection e1 with e1
      injection e1 with e1 _
      subst e1
      exact .inl ⟨rfl, h3⟩
    · subst hby
      have hr' := run_append_grow (P := P) w t ty e i z ht hi hz ⟨g0, 0, none⟩ n cap0 xs hown.1 (hown.cells (g := g0) rfl) ad m c news hl hnews (by omega) (by simp only [maxLen] at h63; omega) (growslice_fits (by omega) hbytes)
      rw [hr] at hr'
      injection hr' with e1 e2
      injection e1 with e1 _ _
      injection e1 with e1
      injection e1 with e1 _
      subst e1
      rw [e2]
      exact .inr ⟨rfl, ⟨rfl, rfl, rfl, by simp, fun k hk _ => (by first | exact heap_alloc_old w.drew _ k hk | exact heap_alloc_old w.drew _ hk)⟩⟩
theorem wpList_append_sharp {ops : Array Oper} {rest : List Oper} {o : Oper} {a : Act} {Q : Exit → Act → World → Prop} (hgd : o.guard = none) (s x : Operand) (t : TypeId)
    (ho : o.op = .call { callee := .builtin .append, args := #[s, x], argTypes := #[t, t] })
    (base : Nat) (e : TypeId) (i : TypeInfo) (z : Value) (size bytes : Nat) (ht : P.underlying t = some (.slice e)) (hi : P.info? e = some i) (hz : i.zero = some z)
    (hsize : i.size = size) (hby : i.bytes = bytes) (hzs : z.cells.size = size) (hsz : 0 < size)
    (v : Value) (n : Nat) (xs : List Value) (hs : a.eval s = v) (hown : w.ownsRow base e size v n xs)
    (ad : Addr) (m c : Nat) (news : List Value) (hx : a.eval x = .slice (some ad) m c) (hl : news.length = m * size) (hnews : ∀ j u, news[j]? = some u → w.cell? (ad.add j) = some u) (h1 : ∀ u ∈ news, u.oneCell' = true)
    (hm : 0 < m) (h63 : n + m ≤ maxLen) (hbytes : (n + m) * bytes ≤ 140737488355328) (hbase : base ≤ w.heap.size)
    (h : ∀ g cap w', w'.ownsRow base e size (.slice (some ⟨g, 0, none⟩) (n + m) cap) (n + m) (xs ++ news) → ((v.ownBlock = some g ∧ w.grownBy w' (some g)) ∨ (g = w.heap.size ∧ w.grownBy w' none)) → wpList P ops Q rest (a.put o.dst (.slice (some ⟨g, 0, none⟩) (n + m) cap)) w') : wpList P ops Q (o :: rest) a w := by
  refine wpList_plain hgd fun K hK => ?_
  obtain ⟨g, cap, w', hr, h2, h3⟩ := run_append_sharp (P := P) w t o.type base e i z size bytes ht hi hz hsize hby hzs hsz v n xs hown ad m c news hl hnews h1 hm h63 hbytes hbase
  unfold Oper.wp execOp
  simp only [ho, resolve, invoke, builtin, Sem.run_bind, Sem.run_pure, Result.andThen_ok, List.map_toArray, List.map_cons, List.map_nil, hs, hx, hr]
  exact hK _ _ (h g cap w' h2 h3)
theorem step_append_sharp {ops : Array Oper} {o : Oper} {a : Act} {K : Act → World → Prop} {Q : Exit → Act → World → Prop} {E : Prop} (hgd : o.guard = none) (s x : Operand) (t : TypeId)
    (ho : o.op = .call { callee := .builtin .append, args := #[s, x], argTypes := #[t, t] })
    (base : Nat) (e : TypeId) (i : TypeInfo) (z : Value) (size bytes : Nat) (ht : P.underlying t = some (.slice e)) (hi : P.info? e = some i) (hz : i.zero = some z)
    (hsize : i.size = size) (hby : i.bytes = bytes) (hzs : z.cells.size = size) (hsz : 0 < size)
    (v : Value) (n : Nat) (xs : List Value) (hs : a.eval s = v) (hown : w.ownsRow base e size v n xs)
    (ad : Addr) (m c : Nat) (news : List Value) (hx : a.eval x = .slice (some ad) m c) (hl : news.length = m * size) (hnews : ∀ j u, news[j]? = some u → w.cell? (ad.add j) = some u) (h1 : ∀ u ∈ news, u.oneCell' = true)
    (hm : 0 < m) (h63 : n + m ≤ maxLen) (hbytes : (n + m) * bytes ≤ 140737488355328) (hbase : base ≤ w.heap.size)
    (h : ∀ g cap w', w'.ownsRow base e size (.slice (some ⟨g, 0, none⟩) (n + m) cap) (n + m) (xs ++ news) → ((v.ownBlock = some g ∧ w.grownBy w' (some g)) ∨ (g = w.heap.size ∧ w.grownBy w' none)) → K (a.put o.dst (.slice (some ⟨g, 0, none⟩) (n + m) cap)) w') :
    if Region.wanted o (yielded ops a.tmps) = true then Oper.wp P o a w K Q else E := by
  have hw : Region.wanted o (yielded ops a.tmps) = true := by simp [Region.wanted, hgd]
  rw [if_pos hw]
  obtain ⟨g, cap, w', hr, h2, h3⟩ := run_append_sharp (P := P) w t o.type base e i z size bytes ht hi hz hsize hby hzs hsz v n xs hown ad m c news hl hnews h1 hm h63 hbytes hbase
  unfold Oper.wp execOp
  simp only [ho, resolve, invoke, builtin, Sem.run_bind, Sem.run_pure, Result.andThen_ok, List.map_toArray, List.map_cons, List.map_nil, hs, hx, hr]
  exact h g cap w' h2 h3
end
end Go.Proofs.YtgjjjdccbpjnfaaGreatDoor

/- The books: what lies where, and what a list more does. -/
namespace Go.Proofs.YtgjjjdccbpjnfaaGreatDoor
open Go.RowKit

/-- all blocks but those in A are as they were -/
structure Chg (A : Nat → Prop) (w w' : World) : Prop where
  size : w.heap.size ≤ w'.heap.size
  block : ∀ k, k < w.heap.size → ¬ A k → w'.heap[k]? = w.heap[k]?
  still : Still w w'
theorem Chg.refl (A : Nat → Prop) (w : World) : Chg A w w := ⟨Nat.le_refl _, fun _ _ _ => rfl, Still.refl w⟩
theorem Chg.trans {A A1 : Nat → Prop} {a b c : World} (h : Chg A a b) (h' : Chg A1 b c) (hs : ∀ k, k < a.heap.size → A1 k → A k) : Chg A a c :=
  ⟨Nat.le_trans h.size h'.size, fun k hk hn => (h'.block k (Nat.lt_of_lt_of_le hk h.size) (fun e => hn (hs k hk e))).trans (h.block k hk hn), h.still.trans h'.still⟩
theorem Chg.mono {A B : Nat → Prop} {a b : World} (h : Chg A a b) (hs : ∀ k, k < a.heap.size → A k → B k) : Chg B a b := ⟨h.size, fun k hk hn => h.block k hk (fun e => hn (hs k hk e)), h.still⟩
theorem Chg.below {A : Nat → Prop} {a b : World} (h : Below a.heap.size a b) : Chg A a b := ⟨h.size, fun k hk _ => h.block k hk, Still.of_below h⟩
theorem Chg.same {p : Nat} {a b : World} (h : Same p a b) : Chg (fun k => k = p) a b := ⟨by rw [h.1]; exact Nat.le_refl _, fun k _ hn => h.2 k hn, h.3⟩
theorem Chg.grown {a b : World} {row : Option Nat} (h : a.grownBy b row) : Chg (fun k => row = some k) a b := ⟨h.size, fun k hk hn => h.block k hk (fun e => hn e.symm), ⟨h.os, h.tape, h.output⟩⟩
theorem Chg.some_ {A : Nat → Prop} {a b : World} (h : Chg A a b) {k : Nat} {o : Obj} (e : a.heap[k]? = some o) (hn : ¬ A k) : b.heap[k]? = some o := (h.block k (heap_some_lt e) hn).trans e

structure TE where
  g : Nat
  n : Nat
  c : Nat
  s : List UInt8
structure ME where
  v : Value
  n : Nat
  k : Nat
def TE.val (x : TE) : Value := .slice (some ⟨x.g, 0, none⟩) x.n x.c
def markM (k : Nat) : List Value := [.int .i64 (-(k : Int)), .int .i64 0, .string (bs []), .slice none 0 0, .string (bs [])]
/-- a list of texts is full of its mark -/
def MarkT (w : World) (x : TE) : Prop := x.n ≤ 1048576 ∧ ∃ cur, w.heap[x.g]? = some (.cells cur 9 (0, 0)) ∧ ∀ j, j < x.n → cur[j]? = some (.string (bs x.s))
/-- a list of mail is full of its mark -/
def MarkMl (w : World) (x : ME) : Prop := (x.n ≤ 2097152 ∧ x.k ≤ 1099511627776) ∧ (∀ g, x.v.ownBlock = some g → g < w.heap.size) ∧ ∃ a c, x.v = .slice a x.n c ∧ (x.n = 0 ∨ ∃ g cur, a = some ⟨g, 0, none⟩ ∧ w.heap[g]? = some (.cells cur 26 (0, 0)) ∧ ∀ j i, j < x.n → i < 5 → cur[j * 5 + i]? = (markM x.k)[i]?)
theorem MarkT.chg {A : Nat → Prop} {w w' : World} {x : TE} (h : MarkT w x) (hc : Chg A w w') (hn : ¬ A x.g) : MarkT w' x := by
  obtain ⟨hz, cur, e, r⟩ := h
  exact ⟨hz, cur, hc.some_ e hn, r⟩
theorem MarkMl.chg {A : Nat → Prop} {w w' : World} {x : ME} (h : MarkMl w x) (hc : Chg A w w') (hn : ∀ g cur, w.heap[g]? = some (.cells cur 26 (0, 0)) → x.v.ownBlock = some g → ¬ A g) : MarkMl w' x := by
  obtain ⟨hz, hlt, a, c, e, r⟩ := h
  refine ⟨hz, fun g e => Nat.lt_of_lt_of_le (hlt g e) hc.size, a, c, e, ?_⟩
  rcases r with r | ⟨g, cur, ea, eg, r⟩
  · exact .inl r
  · exact .inr ⟨g, cur, ea, hc.some_ eg (hn g cur eg (by rw [e, ea]; rfl)), r⟩
theorem ownsRow_chg {A : Nat → Prop} {w w' : World} {base sz n : Nat} {e : TypeId} {v : Value} {xs : List Value} (h : w.ownsRow base e sz v n xs) (hc : Chg A w w') (hn : ∀ g cur, w.heap[g]? = some (.cells cur e (0, 0)) → v.ownBlock = some g → ¬ A g) : w'.ownsRow base e sz v n xs := by
  obtain ⟨h1, h2⟩ := h
  refine ⟨h1, ?_⟩
  rcases h2 with h2 | ⟨g, cap, cur, e1, e2, e3, r⟩
  · exact .inl h2
  · exact .inr ⟨g, cap, cur, e1, e2, hc.some_ e3 (hn g cur e3 (by rw [e1]; rfl)), r⟩
/-- the block that a list owns is one of its own type -/
theorem own_tag {w : World} {base sz n g : Nat} {e : TypeId} {v : Value} {xs : List Value} (h : w.ownsRow base e sz v n xs) (hg : v.ownBlock = some g) : ∃ cur, w.heap[g]? = some (.cells cur e (0, 0)) := by
  rcases h.2 with ⟨e1, _⟩ | ⟨g', cap, cur, e1, _, e3, _⟩
  · rw [e1] at hg; cases hg
  · rw [e1] at hg
    injection hg with hg
    subst hg
    exact ⟨cur, e3⟩

structure BkIn (w : World) (bb N came : Nat) (kv wv : Value) (ts : List TE) (ss : List (List UInt8)) (ms : List ME) (os : List Nat) (vM vO vT vS : Value) : Prop where
  blk : w.heap[bb]? = some (.cells #[.int .i64 N, .int .i64 came, .bool false, kv, wv, vM, vO, vT, vS] 64 (0, 0))
  rT : w.ownsRow 0 24 1 vT ts.length (ts.map TE.val)
  rS : w.ownsRow 0 9 1 vS ss.length (textCells ss)
  rM : w.ownsRow 0 40 1 vM ms.length (ms.map ME.v)
  rO : w.ownsRow 0 3 1 vO os.length (natCells os)
  mt : ∀ x ∈ ts, MarkT w x ∧ vS.ownBlock ≠ some x.g
  mm : ∀ x ∈ ms, MarkMl w x

section
variable {w w' w2 : World} {bb N came : Nat} {kv wv vM vO vT vS : Value} {ts : List TE} {ss : List (List UInt8)} {ms : List ME} {os : List Nat}

theorem BkIn.lt (h : BkIn w bb N came kv wv ts ss ms os vM vO vT vS) : bb < w.heap.size := heap_some_lt h.blk
/-- where nothing of the books is touched but their own block, which is told anew -/
theorem BkIn.reblk (h : BkIn w bb N came kv wv ts ss ms os vM vO vT vS) {N' came' : Nat} {kv' wv' : Value} (hs : Same bb w w') (hp : w'.heap[bb]? = some (.cells #[.int .i64 N', .int .i64 came', .bool false, kv', wv', vM, vO, vT, vS] 64 (0, 0))) : BkIn w' bb N' came' kv' wv' ts ss ms os vM vO vT vS := by
  have hc := Chg.same hs
  have nb : ∀ {g : Nat} {cur : Array Value} {e : TypeId}, e ≠ 64 → w.heap[g]? = some (.cells cur e (0, 0)) → ¬ g = bb := fun he e e' => by
    rw [e', h.blk] at e; injection e with e; injection e with _ e _; exact he e.symm
  refine ⟨hp, ownsRow_chg h.rT hc fun g cur e _ => nb (by decide) e, ownsRow_chg h.rS hc fun g cur e _ => nb (by decide) e, ownsRow_chg h.rM hc fun g cur e _ => nb (by decide) e, ownsRow_chg h.rO hc fun g cur e _ => nb (by decide) e, fun x hx => ⟨?_, (h.mt x hx).2⟩, fun x hx => ?_⟩
  · obtain ⟨_, cur, e, _⟩ := (h.mt x hx).1
    exact (h.mt x hx).1.chg hc (nb (by decide) e)
  · exact (h.mm x hx).chg hc fun g cur e _ => nb (by decide) e
theorem BkIn.keep (h : BkIn w bb N came kv wv ts ss ms os vM vO vT vS) (hb : Below w.heap.size w w') : BkIn w' bb N came kv wv ts ss ms os vM vO vT vS := by
  have hc : Chg (fun _ => False) w w' := Chg.below hb
  exact ⟨below_some hb h.blk, ownsRow_chg h.rT hc fun _ _ _ _ => id, ownsRow_chg h.rS hc fun _ _ _ _ => id, ownsRow_chg h.rM hc fun _ _ _ _ => id, ownsRow_chg h.rO hc fun _ _ _ _ => id, fun x hx => ⟨(h.mt x hx).1.chg hc id, (h.mt x hx).2⟩, fun x hx => (h.mm x hx).chg hc fun _ _ _ _ => id⟩
/-- blocks that the books know nothing of are written -/
theorem BkIn.chg {A : Nat → Prop} (h : BkIn w bb N came kv wv ts ss ms os vM vO vT vS) (hc : Chg A w w') (hbb : ¬ A bb) (h1 : ∀ g, vT.ownBlock = some g → ¬ A g) (h2 : ∀ g, vS.ownBlock = some g → ¬ A g) (h3 : ∀ g, vM.ownBlock = some g → ¬ A g) (h4 : ∀ g, vO.ownBlock = some g → ¬ A g) (h5 : ∀ x ∈ ts, ¬ A x.g) (h6 : ∀ x ∈ ms, ∀ g cur, w.heap[g]? = some (.cells cur 26 (0, 0)) → x.v.ownBlock = some g → ¬ A g) : BkIn w' bb N came kv wv ts ss ms os vM vO vT vS :=
  ⟨hc.some_ h.blk hbb, ownsRow_chg h.rT hc fun g _ _ e => h1 g e, ownsRow_chg h.rS hc fun g _ _ e => h2 g e, ownsRow_chg h.rM hc fun g _ _ e => h3 g e, ownsRow_chg h.rO hc fun g _ _ e => h4 g e, fun x hx => ⟨(h.mt x hx).1.chg hc (h5 x hx), (h.mt x hx).2⟩, fun x hx => (h.mm x hx).chg hc (h6 x hx)⟩
end
end Go.Proofs.YtgjjjdccbpjnfaaGreatDoor

/- The books: one of their lists is made longer. -/
namespace Go.Proofs.YtgjjjdccbpjnfaaGreatDoor
open Go.RowKit

theorem not_own {w : World} {base sz n g : Nat} {e e' : TypeId} {v : Value} {xs : List Value} {cur : Array Value} (h : w.ownsRow base e sz v n xs) (hg : w.heap[g]? = some (.cells cur e' (0, 0))) (hne : e ≠ e') : ¬ v.ownBlock = some g := fun e1 => by
  obtain ⟨c, e2⟩ := own_tag h e1
  rw [hg] at e2
  injection e2 with e2
  injection e2 with _ e2 _
  exact hne e2.symm
/-- an append's step: of what was there, at most the old row has turned -/
theorem app_chg {w w2 : World} {o : Obj} {v : Value} {g : Nat} (hgr : (v.ownBlock = some g ∧ (w.alloc o).grownBy w2 (some g)) ∨ (g = (w.alloc o).heap.size ∧ (w.alloc o).grownBy w2 none)) : Chg (fun k => v.ownBlock = some k) w w2 := by
  have ha : Chg (fun _ => False) w (w.alloc o) := Chg.below ((Below.refl _ _).alloc (Nat.le_refl _) _)
  rcases hgr with ⟨h1, h2⟩ | ⟨h1, h2⟩
  · exact (ha.mono (B := fun k => v.ownBlock = some k) (fun _ _ f => f.elim)).trans (Chg.grown h2) (fun k _ e => h1.trans e)
  · exact (ha.mono (B := fun k => v.ownBlock = some k) (fun _ _ f => f.elim)).trans (Chg.grown h2) (fun k _ e => by cases e)
theorem app_where {w w2 : World} {o : Obj} {v : Value} {g : Nat} (hgr : (v.ownBlock = some g ∧ (w.alloc o).grownBy w2 (some g)) ∨ (g = (w.alloc o).heap.size ∧ (w.alloc o).grownBy w2 none)) : v.ownBlock = some g ∨ w.heap.size < g := by
  rcases hgr with ⟨h1, _⟩ | ⟨h1, _⟩
  · exact .inl h1
  · right; rw [h1]; simp

section
variable {w w2 : World} {bb N came g : Nat} {kv wv vM vO vT vS v' : Value} {ts : List TE} {ss : List (List UInt8)} {ms : List ME} {os : List Nat} {o : Obj}

theorem BkIn.opT (h : BkIn w bb N came kv wv ts ss ms os vM vO vT vS) {x : TE} (hx : MarkT w x) (hxs : vS.ownBlock ≠ some x.g) (hown : w2.ownsRow 0 24 1 v' (ts.length + 1) (ts.map TE.val ++ [x.val]))
    (hgr : (vT.ownBlock = some g ∧ (w.alloc o).grownBy w2 (some g)) ∨ (g = (w.alloc o).heap.size ∧ (w.alloc o).grownBy w2 none)) : BkIn (w2.setCell ⟨bb, 7, none⟩ v') bb N came kv wv (ts ++ [x]) ss ms os vM vO v' vS ∧ Chg (fun k => k = bb ∨ vT.ownBlock = some k) w (w2.setCell ⟨bb, 7, none⟩ v') := by
  have hc2 := app_chg hgr
  have b2 := hc2.some_ h.blk (not_own h.rT h.blk (by decide))
  have S3 : Same bb w2 (w2.setCell ⟨bb, 7, none⟩ v') := (Same.refl _ _).setCell _
  have hc3 : Chg (fun k => k = bb ∨ vT.ownBlock = some k) w (w2.setCell ⟨bb, 7, none⟩ v') := (hc2.mono (fun _ _ e => .inr e)).trans (Chg.same S3) (fun _ _ e => .inl e)
  have far : ∀ {k : Nat} {cur : Array Value} {e : TypeId}, e ≠ 64 → 24 ≠ e → w.heap[k]? = some (.cells cur e (0, 0)) → ¬ (k = bb ∨ vT.ownBlock = some k) := fun h1 h2 e e' => by
    rcases e' with e' | e'
    · rw [e', h.blk] at e; injection e with e; injection e with _ e _; exact h1 e.symm
    · exact not_own h.rT e h2 e'
  have fT : ∀ {y : TE}, MarkT w y → MarkT (w2.setCell ⟨bb, 7, none⟩ v') y := fun hy => by
    obtain ⟨_, cur, e, _⟩ := id hy
    exact hy.chg hc3 (far (by decide) (by decide) e)
  refine ⟨⟨heap_setCell_same w2 bb 7 _ _ v' b2, ?_, ownsRow_chg h.rS hc3 fun k cur e _ => far (by decide) (by decide) e, ownsRow_chg h.rM hc3 fun k cur e _ => far (by decide) (by decide) e, ownsRow_chg h.rO hc3 fun k cur e _ => far (by decide) (by decide) e, fun y hy => ?_, fun y hy => ?_⟩, hc3⟩
  · rw [List.length_append, List.map_append]
    refine ownsRow_chg hown (Chg.same S3) fun k cur e _ e' => ?_
    rw [e', b2] at e; simp at e
  · rcases List.mem_append.1 hy with hy | hy
    · exact ⟨fT (h.mt y hy).1, (h.mt y hy).2⟩
    · simp only [List.mem_singleton] at hy
      subst hy
      exact ⟨fT hx, hxs⟩
  · exact (h.mm y hy).chg hc3 fun g cur e _ => far (by decide) (by decide) e
theorem BkIn.opS (h : BkIn w bb N came kv wv ts ss ms os vM vO vT vS) {t : List UInt8} (hv : v'.ownBlock = some g) (hown : w2.ownsRow 0 9 1 v' (ss.length + 1) (textCells ss ++ [.string (bs t)]))
    (hgr : (vS.ownBlock = some g ∧ (w.alloc o).grownBy w2 (some g)) ∨ (g = (w.alloc o).heap.size ∧ (w.alloc o).grownBy w2 none)) : BkIn (w2.setCell ⟨bb, 8, none⟩ v') bb N came kv wv ts (ss ++ [t]) ms os vM vO vT v' ∧ Chg (fun k => k = bb ∨ vS.ownBlock = some k) w (w2.setCell ⟨bb, 8, none⟩ v') := by
  have hc2 := app_chg hgr
  have b2 := hc2.some_ h.blk (not_own h.rS h.blk (by decide))
  have S3 : Same bb w2 (w2.setCell ⟨bb, 8, none⟩ v') := (Same.refl _ _).setCell _
  have hc3 : Chg (fun k => k = bb ∨ vS.ownBlock = some k) w (w2.setCell ⟨bb, 8, none⟩ v') := (hc2.mono (fun _ _ e => .inr e)).trans (Chg.same S3) (fun _ _ e => .inl e)
  have far : ∀ {k : Nat} {cur : Array Value} {e : TypeId}, e ≠ 64 → 9 ≠ e → w.heap[k]? = some (.cells cur e (0, 0)) → ¬ (k = bb ∨ vS.ownBlock = some k) := fun h1 h2 e e' => by
    rcases e' with e' | e'
    · rw [e', h.blk] at e; injection e with e; injection e with _ e _; exact h1 e.symm
    · exact not_own h.rS e h2 e'
  refine ⟨⟨heap_setCell_same w2 bb 8 _ _ v' b2, ownsRow_chg h.rT hc3 fun k cur e _ => far (by decide) (by decide) e, ?_, ownsRow_chg h.rM hc3 fun k cur e _ => far (by decide) (by decide) e, ownsRow_chg h.rO hc3 fun k cur e _ => far (by decide) (by decide) e, fun y hy => ?_, fun y hy => ?_⟩, hc3⟩
  · rw [List.length_append]
    have : textCells (ss ++ [t]) = textCells ss ++ [.string (bs t)] := by simp [textCells]
    rw [this]
    refine ownsRow_chg hown (Chg.same S3) fun k cur e _ e' => ?_
    rw [e', b2] at e; simp at e
  · obtain ⟨_, cur, e, _⟩ := id (h.mt y hy).1
    have hlt := heap_some_lt e
    refine ⟨(h.mt y hy).1.chg hc3 ?_, ?_⟩
    · rintro (e' | e')
      · rw [e', h.blk] at e; simp at e
      · exact (h.mt y hy).2 e'
    · rw [hv]
      intro e'
      injection e' with e'
      rcases app_where hgr with h1 | h1
      · exact (h.mt y hy).2 (by rw [h1, e'])
      · omega
  · exact (h.mm y hy).chg hc3 fun g cur e _ => far (by decide) (by decide) e
theorem BkIn.opM (h : BkIn w bb N came kv wv ts ss ms os vM vO vT vS) {x : ME} (hx : MarkMl w x) (hown : w2.ownsRow 0 40 1 v' (ms.length + 1) (ms.map ME.v ++ [x.v]))
    (hgr : (vM.ownBlock = some g ∧ (w.alloc o).grownBy w2 (some g)) ∨ (g = (w.alloc o).heap.size ∧ (w.alloc o).grownBy w2 none)) : BkIn (w2.setCell ⟨bb, 5, none⟩ v') bb N came kv wv ts ss (ms ++ [x]) os v' vO vT vS ∧ Chg (fun k => k = bb ∨ vM.ownBlock = some k) w (w2.setCell ⟨bb, 5, none⟩ v') := by
  have hc2 := app_chg hgr
  have b2 := hc2.some_ h.blk (not_own h.rM h.blk (by decide))
  have S3 : Same bb w2 (w2.setCell ⟨bb, 5, none⟩ v') := (Same.refl _ _).setCell _
  have hc3 : Chg (fun k => k = bb ∨ vM.ownBlock = some k) w (w2.setCell ⟨bb, 5, none⟩ v') := (hc2.mono (fun _ _ e => .inr e)).trans (Chg.same S3) (fun _ _ e => .inl e)
  have far : ∀ {k : Nat} {cur : Array Value} {e : TypeId}, e ≠ 64 → 40 ≠ e → w.heap[k]? = some (.cells cur e (0, 0)) → ¬ (k = bb ∨ vM.ownBlock = some k) := fun h1 h2 e e' => by
    rcases e' with e' | e'
    · rw [e', h.blk] at e; injection e with e; injection e with _ e _; exact h1 e.symm
    · exact not_own h.rM e h2 e'
  have fM : ∀ {y : ME}, MarkMl w y → MarkMl (w2.setCell ⟨bb, 5, none⟩ v') y := fun hy => hy.chg hc3 fun g cur e _ => far (by decide) (by decide) e
  refine ⟨⟨heap_setCell_same w2 bb 5 _ _ v' b2, ownsRow_chg h.rT hc3 fun k cur e _ => far (by decide) (by decide) e, ownsRow_chg h.rS hc3 fun k cur e _ => far (by decide) (by decide) e, ?_, ownsRow_chg h.rO hc3 fun k cur e _ => far (by decide) (by decide) e, fun y hy => ?_, fun y hy => ?_⟩, hc3⟩
  · rw [List.length_append, List.map_append]
    refine ownsRow_chg hown (Chg.same S3) fun k cur e _ e' => ?_
    rw [e', b2] at e; simp at e
  · obtain ⟨_, cur, e, _⟩ := id (h.mt y hy).1
    exact ⟨(h.mt y hy).1.chg hc3 (far (by decide) (by decide) e), (h.mt y hy).2⟩
  · rcases List.mem_append.1 hy with hy | hy
    · exact fM (h.mm y hy)
    · simp only [List.mem_singleton] at hy
      subst hy
      exact fM hx
theorem BkIn.opO (h : BkIn w bb N came kv wv ts ss ms os vM vO vT vS) {k0 : Nat} (hown : w2.ownsRow 0 3 1 v' (os.length + 1) (natCells os ++ [.int .i64 (k0 : Int)]))
    (hgr : (vO.ownBlock = some g ∧ (w.alloc o).grownBy w2 (some g)) ∨ (g = (w.alloc o).heap.size ∧ (w.alloc o).grownBy w2 none)) : BkIn (w2.setCell ⟨bb, 6, none⟩ v') bb N came kv wv ts ss ms (os ++ [k0]) vM v' vT vS ∧ Chg (fun k => k = bb ∨ vO.ownBlock = some k) w (w2.setCell ⟨bb, 6, none⟩ v') := by
  have hc2 := app_chg hgr
  have b2 := hc2.some_ h.blk (not_own h.rO h.blk (by decide))
  have S3 : Same bb w2 (w2.setCell ⟨bb, 6, none⟩ v') := (Same.refl _ _).setCell _
  have hc3 : Chg (fun k => k = bb ∨ vO.ownBlock = some k) w (w2.setCell ⟨bb, 6, none⟩ v') := (hc2.mono (fun _ _ e => .inr e)).trans (Chg.same S3) (fun _ _ e => .inl e)
  have far : ∀ {k : Nat} {cur : Array Value} {e : TypeId}, e ≠ 64 → 3 ≠ e → w.heap[k]? = some (.cells cur e (0, 0)) → ¬ (k = bb ∨ vO.ownBlock = some k) := fun h1 h2 e e' => by
    rcases e' with e' | e'
    · rw [e', h.blk] at e; injection e with e; injection e with _ e _; exact h1 e.symm
    · exact not_own h.rO e h2 e'
  refine ⟨⟨heap_setCell_same w2 bb 6 _ _ v' b2, ownsRow_chg h.rT hc3 fun k cur e _ => far (by decide) (by decide) e, ownsRow_chg h.rS hc3 fun k cur e _ => far (by decide) (by decide) e, ownsRow_chg h.rM hc3 fun k cur e _ => far (by decide) (by decide) e, ?_, fun y hy => ?_, fun y hy => ?_⟩, hc3⟩
  · rw [List.length_append, natCells_snoc]
    refine ownsRow_chg hown (Chg.same S3) fun k cur e _ e' => ?_
    rw [e', b2] at e; simp at e
  · obtain ⟨_, cur, e, _⟩ := id (h.mt y hy).1
    exact ⟨(h.mt y hy).1.chg hc3 (far (by decide) (by decide) e), (h.mt y hy).2⟩
  · exact (h.mm y hy).chg hc3 fun g cur e _ => far (by decide) (by decide) e
end
end Go.Proofs.YtgjjjdccbpjnfaaGreatDoor
