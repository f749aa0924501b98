import Derived.Test.YtgjjjdccbpjnfaaGreatDoorS33
import Derived.Test.YtgjjjdccbpjnfaaGreatDoorS15
import Derived.Test.YtgjjjdccbpjnfaaGreatDoorS23
import Derived.Test.YtgjjjdccbpjnfaaGreatDoorS22
import Derived.Test.YtgjjjdccbpjnfaaGreatDoorS26
import Derived.Test.YtgjjjdccbpjnfaaGreatDoorS07
import Derived.Test.YtgjjjdccbpjnfaaGreatDoorS29
import Derived.Deep.RegionLaw

/- The law: the script. -/
namespace Go.Proofs.YtgjjjdccbpjnfaaGreatDoor
open Go.RowKit

/-- a step as it came, with the values of its lists -/
structure POp where
  kind : Int
  p : Int
  n : Int
  odd : Bool
  S : List UInt8
  c : Cfg
  vD : Value
  vN : Value
  vU : Value
  vW : Value
def POp.cells (o : POp) : Array Value := opCells o.kind o.p o.n o.odd o.S o.c o.vD o.vN o.vU o.vW
def in64 (n : Int) : Prop := -9223372036854775808 ≤ n ∧ n ≤ 9223372036854775807
structure POp.Ok (w : World) (o : POp) : Prop where
  cfg : CfgAt w o.c o.vD o.vN o.vU o.vW
  sz : CfgSz o.c
  rm : CfgRm o.c
  len : o.S.length ≤ 1048576
  k : in64 o.kind
  p : in64 o.p
  n : in64 o.n
def scriptCells (l : List POp) : List Value := l.flatMap fun o => o.cells.toList
def ScriptAt (w : World) (v : Value) (l : List POp) : Prop := RowAt w v l.length 14 (scriptCells l) ∧ ∀ o ∈ l, POp.Ok w o
theorem script_at (l : List POp) (k i : Nat) (h : k < l.length) (hi : i < 14) : (scriptCells l)[k * 14 + i]? = l[k].cells[i]? := by
  induction l generalizing k with
  | nil => simp at h
  | cons x l ih =>
    show (x.cells.toList ++ scriptCells l)[k * 14 + i]? = _
    have h5 : x.cells.toList.length = 14 := rfl
    cases k with
    | zero =>
      rw [List.getElem?_append_left (by rw [h5]; omega), Array.getElem?_toList]
      simp
    | succ k =>
      rw [List.getElem?_append_right (by rw [h5]; omega), h5, show (k + 1) * 14 + i - 14 = k * 14 + i by omega]
      exact ih k (by simpa using h)
def twCells (l : List (Value × Value)) : List Value := l.flatMap fun t => [t.1, t.2]
theorem twCells_snoc (l : List (Value × Value)) (x : Value × Value) : twCells (l ++ [x]) = twCells l ++ [x.1, x.2] := by simp [twCells]
theorem twCells_at (l : List (Value × Value)) (k : Nat) (h : k < l.length) : (twCells l)[k * 2]? = some l[k].1 ∧ (twCells l)[k * 2 + 1]? = some l[k].2 := by
  induction l generalizing k with
  | nil => simp at h
  | cons x l ih =>
    show ([x.1, x.2] ++ twCells l)[k * 2]? = _ ∧ ([x.1, x.2] ++ twCells l)[k * 2 + 1]? = _
    cases k with
    | zero => exact ⟨rfl, rfl⟩
    | succ k =>
      have := ih k (by simpa using h)
      rw [List.getElem?_append_right (by simp only [List.length_cons, List.length_nil]; omega), List.getElem?_append_right (by simp only [List.length_cons, List.length_nil]; omega)]
      simp only [List.length_cons, List.length_nil]
      rw [show (k + 1) * 2 - (0 + 1 + 1) = k * 2 by omega, show (k + 1) * 2 + 1 - (0 + 1 + 1) = k * 2 + 1 by omega]
      exact this
theorem info_twin : (Tryz.prog.info? 69).map (fun i => (i.zero, i.size, i.bytes)) = some (some (.agg #[.pointer none, .pointer none]), 2, 16) := by kernel_rfl
/-- the script's state -/
structure HSt (w w' : World) (bb B : Nat) (v : Value) (tw : List (Value × Value)) : Prop where
  all : w'.ownsRow w.heap.size 69 2 v tw.length (twCells tw)
  tws : ∀ t ∈ tw, TwinIn w' t.1 t.2
  bk : Bk w.heap.size w' bb B
  below : Below w.heap.size w w'
theorem HSt.keep {w w1 w2 : World} {bb B : Nat} {v : Value} {tw : List (Value × Value)} (h : HSt w w1 bb B v tw) (hb : Below w1.heap.size w1 w2) : HSt w w2 bb B v tw :=
  ⟨ownsRow_keeps h.all fun _g _cur e _ => below_some hb e, fun t ht => (h.tws t ht).below hb, h.bk.keep hb, h.below.trans (hb.mono h.below.size)⟩
theorem HSt.looked {w w1 w2 : World} {bb B B' : Nat} {v : Value} {tw : List (Value × Value)} (h : HSt w w1 bb B v tw) (hk : Bk w.heap.size w2 bb B') (ht : Touch bkTypes w1 w2) (hb : Below w.heap.size w1 w2) : HSt w w2 bb B' v tw :=
  ⟨ownsRow_touch ht (by decide) h.all, fun t hm => (h.tws t hm).books ht, hk, h.below.trans hb⟩
theorem HSt.mono {w w1 : World} {bb B B' : Nat} {v : Value} {tw : List (Value × Value)} (h : HSt w w1 bb B v tw) (hB : B ≤ B') : HSt w w1 bb B' v tw := ⟨h.all, h.tws, h.bk.mono hB, h.below⟩
/-- one twin more -/
theorem HSt.more {w w1 w2 : World} {bb B : Nat} {v v' : Value} {tw : List (Value × Value)} {t : Value × Value} {o : Obj} (h : HSt w w1 bb B v tw) (ht : TwinIn w1 t.1 t.2) (hown : w2.ownsRow w.heap.size 69 2 v' (tw.length + 1) (twCells tw ++ [t.1, t.2])) (hgrow : (w1.alloc o).grownBy w2 v.ownBlock) : HSt w w2 bb B v' (tw ++ [t]) := by
  have T2 : Touch [69] w1 w2 := by
    refine ((Touch.refl _ w1).alloc o).grown hgrow fun k hk => ?_
    obtain ⟨cur, e⟩ := own_tag h.all hk
    exact ⟨cur, 69, (0, 0), below_some ((Below.refl _ _).alloc (Nat.le_refl _) o) e, by simp⟩
  refine ⟨by rw [List.length_append, twCells_snoc]; exact hown, fun x hx => ?_, h.bk.touch T2 (by decide), ?_⟩
  · rcases List.mem_append.1 hx with hx | hx
    · exact (h.tws x hx).touch T2 (by decide) (by decide)
    · simp only [List.mem_singleton] at hx
      subst hx
      exact ht.touch T2 (by decide) (by decide)
  · exact (h.below.alloc h.below.size o).grown hgrow (by simp; have := h.below.size; omega) (fun j hj => (h.all.lt j hj).1)
theorem script_cells {w : World} {v : Value} {l : List POp} (h : ScriptAt w v l) : ∃ a cap, v = .slice a l.length cap ∧ ∀ (k : Nat) (hk : k < l.length), ∃ b off, a = some ⟨b, off, none⟩ ∧ ∀ i, i < 14 → w.cell? ⟨b, off + k * 14 + i, none⟩ = l[k].cells[i]? := by
  obtain ⟨a, cap, e, hc⟩ := h.1.shape
  refine ⟨a, cap, e, fun k hk => ?_⟩
  obtain ⟨b, off, ea, _, _⟩ := hc k 0 hk (by omega)
  refine ⟨b, off, ea, fun i hi => ?_⟩
  obtain ⟨b', off', ea', _, h'⟩ := hc k i hk hi
  rw [ea] at ea'
  injection ea' with ea'
  injection ea' with e1 e2
  subst e1 e2
  rw [Nat.add_assoc, h', script_at l k i hk hi]
theorem POp.Ok.below {w w' : World} {o : POp} (h : POp.Ok w o) (hb : Below w.heap.size w w') : POp.Ok w' o := ⟨h.cfg.below hb, h.sz, h.rm, h.len, h.k, h.p, h.n⟩

theorem op14 {W : World} {b X : Nat} {kind p n : Int} {odd : Bool} {S : List UInt8} {c : Cfg} {vD vN vU vW : Value} (h : ∀ i u, i < 14 → (opCells kind p n odd S c vD vN vU vW)[i]? = some u → W.cell? ⟨b, X + i, none⟩ = some u) :
    W.cell? ⟨b, X, none⟩ = some (.int .i64 kind) ∧ W.cell? ⟨b, X + 1, none⟩ = some (.int .i64 p) ∧ W.cell? ⟨b, X + 2, none⟩ = some (.int .i64 n) ∧ W.cell? ⟨b, X + 3, none⟩ = some (.bool odd) ∧ W.cell? ⟨b, X + 4, none⟩ = some (.string (bs S)) ∧ W.cell? ⟨b, X + 5, none⟩ = some (.string c.host) ∧ W.cell? ⟨b, X + 6, none⟩ = some vD ∧ W.cell? ⟨b, X + 7, none⟩ = some vN ∧ W.cell? ⟨b, X + 8, none⟩ = some vU ∧ W.cell? ⟨b, X + 9, none⟩ = some (.int .i64 c.most) ∧ W.cell? ⟨b, X + 10, none⟩ = some (.int .i64 c.size) ∧ W.cell? ⟨b, X + 11, none⟩ = some vW ∧ W.cell? ⟨b, X + 12, none⟩ = some (.int .i64 c.life) ∧ W.cell? ⟨b, X + 13, none⟩ = some (.int .i64 c.room) :=
  ⟨h 0 _ (by omega) rfl, h 1 _ (by omega) rfl, h 2 _ (by omega) rfl, h 3 _ (by omega) rfl, h 4 _ (by omega) rfl, h 5 _ (by omega) rfl, h 6 _ (by omega) rfl, h 7 _ (by omega) rfl, h 8 _ (by omega) rfl, h 9 _ (by omega) rfl, h 10 _ (by omega) rfl, h 11 _ (by omega) rfl, h 12 _ (by omega) rfl, h 13 _ (by omega) rfl⟩

theorem own_len {w : World} {base sz n : Nat} {e : TypeId} {v : Value} {xs : List Value} (h : w.ownsRow base e sz v n xs) : ∃ a c, v = .slice a n c := by
  rcases h.2 with ⟨e, h0⟩ | ⟨g, cap, cur, e, _⟩
  · exact ⟨_, _, by rw [h0]; exact e⟩
  · exact ⟨_, _, e⟩
theorem twin_to {base : Nat} {w : World} {v : Value} {tw : List (Value × Value)} (h : w.ownsRow base 69 2 v tw.length (twCells tw)) {j : Nat} (hj : j < tw.length) : ∃ g cap, v = .slice (some ⟨g, 0, none⟩) tw.length cap ∧ w.cell? ⟨g, j * 2, none⟩ = some tw[j].1 ∧ w.cell? ⟨g, j * 2 + 1, none⟩ = some tw[j].2 := by
  rcases h.2 with ⟨_, h0⟩ | ⟨g, cap, cur, e, _, hg, _, _, hs, ht⟩
  · omega
  · refine ⟨g, cap, e, ?_, ?_⟩
    · rw [Lib.cell_of_heap hg, ← Array.getElem?_toList, ← List.getElem?_take_of_lt (show j * 2 < tw.length * 2 by omega), ht]
      exact (twCells_at tw j hj).1
    · rw [Lib.cell_of_heap hg, ← Array.getElem?_toList, ← List.getElem?_take_of_lt (show j * 2 + 1 < tw.length * 2 by omega), ht]
      exact (twCells_at tw j hj).2
theorem HSt.boxed {w w1 w2 : World} {bb B x : Nat} {cur : Array Value} {v : Value} {tw : List (Value × Value)} (h : HSt w w1 bb B v tw) (hx : w1.heap[x]? = some (.cells cur 69 (0, 0))) (hn : v.ownBlock ≠ some x) (hlo : w.heap.size ≤ x) (hs : Same x w1 w2) : HSt w w2 bb B v tw := by
  have T2 : Touch [69] w1 w2 := (Touch.refl _ w1).same hx (by decide) hs
  exact ⟨ownsRow_chg h.all (Chg.same hs) fun y cur9 _ e' e9 => hn (by rw [e', e9]), fun t ht => (h.tws t ht).touch T2 (by decide) (by decide), h.bk.touch T2 (by decide), h.below.trans (hs.below hlo)⟩
end Go.Proofs.YtgjjjdccbpjnfaaGreatDoor

/- The law: a post of a record that is cut; and a mail's record, by the document. -/
namespace Go.Proofs.YtgjjjdccbpjnfaaGreatDoor
open Go.RowKit

set_option maxHeartbeats 1000000 in
set_option maxRecDepth 100000 in
theorem record_any (m : PMail) (v : Value) (w : World) (h : RowAt w v m.tos.length 1 (textCells m.tos)) (hz : MailSz m) (hl : (mailE m).length ≤ 1048576) :
    Calls Tryz.prog 5 #[.agg (mailCells m v)] w fun e w' => e = .returned (.string (bs (frameE (mailE m)))) ∧ Below w.heap.size w w' := by
  obtain ⟨W0, hW0⟩ : ∃ W0 : World, w.alloc (.cells (mailCells m v) 26) = W0 := ⟨_, rfl⟩
  have B0 : Below w.heap.size w W0 := by rw [← hW0]; exact (Below.refl _ _).alloc (Nat.le_refl _) _
  have X0 : W0.heap[w.heap.size]? = some (.cells (mailCells m v) 26 (0, 0)) := by rw [← hW0]; exact heap_alloc_new w _
  have x0 : W0.cell? ⟨w.heap.size, 0, none⟩ = some (.int .i64 m.id) := by rw [Lib.cell_of_heap X0]; rfl
  have x1 : W0.cell? ⟨w.heap.size, 1, none⟩ = some (.int .i64 m.time) := by rw [Lib.cell_of_heap X0]; rfl
  have x2 : W0.cell? ⟨w.heap.size, 2, none⟩ = some (.string (bs m.frm)) := by rw [Lib.cell_of_heap X0]; rfl
  have x3 : W0.cell? ⟨w.heap.size, 3, none⟩ = some v := by rw [Lib.cell_of_heap X0]; rfl
  have x4 : W0.cell? ⟨w.heap.size, 4, none⟩ = some (.string (bs m.body)) := by rw [Lib.cell_of_heap X0]; rfl
  have HC := Lib.hid (refMailed_any m v W0 (h.below B0) hz)
  have HB0 := Lib.hid B0
  have HW0 := Lib.hid hW0
  obtain ⟨a, cap, ev⟩ := slice_of h
  subst ev
  clear h hz B0 X0 hW0
  simp only [mailCells] at HC HW0 ⊢
  go_enter Tryz.func5, Tryz.ntmps5
  go_wp2_with fail
  rw [HW0.out]
  go_wp2_with fail
  refine HC.out.mono ?_
  rintro e w1 ⟨rfl, hb1⟩
  have HB1 := Lib.hid (HB0.out.trans (hb1.mono HB0.out.size))
  clear hb1 x0 x1 x2 x3 x4
  go_wp2_with fail
  refine (refFramed_any _ _ hl).mono ?_
  rintro e w2 ⟨rfl, hb2⟩
  go_wp2_with fail
  go_ret
  exact ⟨rfl, HB1.out.trans (hb2.mono HB1.out.size)⟩

set_option maxHeartbeats 1000000 in
set_option maxRecDepth 100000 in
theorem stored_any (m : Int) (w : World) (hm : w.cell? ⟨0, 0, none⟩ = some (.int .i64 m)) :
    Calls Tryz.prog 4 #[] w fun e w' => e = .returned (.bool true) ∧ Below w.heap.size w w' := by
  have HM := Lib.hid hm
  have HS : Hid ((⟨#[0, 0, 0, 21, 116, 192, 93, 43]⟩ : ByteArray) = bs cutText) := Lib.hid rfl
  clear hm
  go_enter Tryz.func4, Tryz.ntmps4
  go_wp2_with fail
  refine (plain_any _).mono ?_
  rintro e w1 ⟨vD, vN, vU, vW, rfl, hc, hb1⟩
  have HOP := Lib.hid (open_any plainCfg _ _ _ _ cutText m w1 hc plain_size (by decide) ((hb1.cell (by exact block_lt HM.out)).trans HM.out))
  have HB1 := Lib.hid hb1
  obtain ⟨aD, cD, eD⟩ := slice_of hc.1
  obtain ⟨aN, cN, eN⟩ := slice_of hc.2.1
  obtain ⟨aU, cU, eU⟩ := slice_of hc.2.2.1
  obtain ⟨aW, cW, eW⟩ := slice_of hc.2.2.2
  subst eD eN eU eW
  clear hc hb1
  simp only [Cfg.val]
  go_wp2_with fail
  rw [HS.out]
  refine HOP.out.mono ?_
  rintro e w2 ⟨h | ⟨pp, _, rfl, hP⟩, hb2⟩
  · exact absurd h.1 (by rw [plain_may]; decide)
  have HP := Lib.hid hP
  have HB2 := Lib.hid (HB1.out.trans (hb2.mono HB1.out.size))
  clear hP hb2 HOP
  go_wp2_with fail
  refine (postKept_any _ _ _ _ HP.out).mono ?_
  rintro e w3 ⟨rfl, rfl⟩
  have t0 : cutText.take (readS cutText).2 = [] := by rw [read_cut]; rfl
  rw [t0]
  go_wp2_with fail
  refine (postQueue_any _ _ _ _ HP.out (by decide)).mono ?_
  rintro e w4 ⟨v4, rows, rfl, hr4, he4, hb4⟩
  have hr0 : rows = [] := by
    rw [read_cut] at he4
    exact List.map_eq_nil_iff.1 he4
  subst hr0
  obtain ⟨a4, c4, e4⟩ := own_len hr4.row
  subst e4
  have HB4 := Lib.hid (HB2.out.trans (hb4.mono HB2.out.size))
  have tb : (bs ([] : List UInt8)).toList = [] := by first | rfl | decide | (unfold bs; simp)
  clear hr4 he4 hb4 t0
  go_wp2_with fail
  all_goals go_ret
  exact ⟨rfl, HB4.out⟩
end Go.Proofs.YtgjjjdccbpjnfaaGreatDoor

/- The law: the script's rounds, the frame (written by wip/mkholds.py). -/
namespace Go.Proofs.YtgjjjdccbpjnfaaGreatDoor
open Go.RowKit

def firstLoop : Code → Option Code
  | .loop c => some c
  | .seq a b => match firstLoop a with
    | some c => some c
    | none => firstLoop b
  | .block _ c => firstLoop c
  | .scope c => firstLoop c
  | .cond _ a b => match firstLoop a with
    | some c => some c
    | none => firstLoop b
  | _ => none
noncomputable def hBody : Code := ((Tryz.f11.body.bind firstLoop).getD .skip)
set_option maxRecDepth 1000000 in
def HFr (l : List POp) (asl : Option Addr) (csl : Nat) (w : World) (c15 c16 : Value) (k : Nat) (v : Value) (a : Act) : Prop := ∃ u4 u8 u9 u10 u11 u12 u13 u14 u17 u18 u19 u20 u21 u22 u23 u24 u25 u26 u27 u28 u29 u30 u31 u32 u33 u34 u35 u36 u37 u38 u39 u40 u41 u42 u43 u44 u45 u46 u47 u48 u49 u50 u51 u52 u53 u54 u55 u56 u57 u58 u59 u60 u61 u62 u63 u64 u65 u66 u67 u68 u69 u70 u71 u72 u73 u74 u75 u76 u77 u78 u79 u80 u81 u82 u83 u84 u85 u86 u87 u88 u89 u90 u91 u92 u93 u94 u95 u96 u97 u98 u99 u100 u101 u102 u103 u104 u105 u106 u107 u108 u109 u110 u111 u112 u113 u114 u115 u116 u117 u118 u119 u120 u121 u122 u123 u124 u125 u126 u127 u128 u129 u130 u131 u132 u133 u134 u135 u136 u137 u138 u139 u140 u141 u142 u143 u144 u145 u146 u147 u148 u149 u150 u151 u152 u153 i : Value, i = .int .i64 (k : Int) ∧ a = ⟨#[.slice asl l.length csl, .int .i64 4, undef, undef, u4, v, .pointer (some ⟨w.heap.size, 0, none⟩), i, u8, u9, u10, u11, u12, u13, u14, c15, c16, u17, u18, u19, u20, u21, u22, u23, u24, u25, u26, u27, u28, u29, u30, u31, u32, u33, u34, u35, u36, u37, u38, u39, u40, u41, u42, u43, u44, u45, u46, u47, u48, u49, u50, u51, u52, u53, u54, u55, u56, u57, u58, u59, u60, u61, u62, u63, u64, u65, u66, u67, u68, u69, u70, u71, u72, u73, u74, u75, u76, u77, u78, u79, u80, u81, u82, u83, u84, u85, u86, u87, u88, u89, u90, u91, u92, u93, u94, u95, u96, u97, u98, u99, u100, u101, u102, u103, u104, u105, u106, u107, u108, u109, u110, u111, u112, u113, u114, u115, u116, u117, u118, u119, u120, u121, u122, u123, u124, u125, u126, u127, u128, u129, u130, u131, u132, u133, u134, u135, u136, u137, u138, u139, u140, u141, u142, u143, u144, u145, u146, u147, u148, u149, u150, u151, u152, u153], []⟩
/-- what a round has to meet -/
structure HIn (l : List POp) (w wr : World) (b off csl k : Nat) (v : Value) (tw : List (Value × Value)) (m : Int) (c15 c16 : Value) (kind p n : Int) (odd : Bool) (S : List UInt8) (c : Cfg) (aD aN aU aW : Option Addr) (cD cN cU cW : Nat) (K : Act → World → Prop) : Prop where
  st : HSt w wr w.heap.size (k * 2097152) v tw
  tk : tw.length ≤ k
  lt : k < l.length
  ll : l.length ≤ 65536
  ok : POp.Ok w ⟨kind, p, n, odd, S, c, .slice aD c.doms.length cD, .slice aN c.nets.length cN, .slice aU c.users.length cU, .slice aW c.waits.length cW⟩
  cell : ∀ i u, i < 14 → (opCells kind p n odd S c (.slice aD c.doms.length cD) (.slice aN c.nets.length cN) (.slice aU c.users.length cU) (.slice aW c.waits.length cW))[i]? = some u → w.cell? ⟨b, off + k * 14 + i, none⟩ = some u
  mm : w.cell? ⟨0, 0, none⟩ = some (.int .i64 m)
  next : ∀ (a' : Act) (w' : World) (v' : Value) (tw' : List (Value × Value)), HFr l (some ⟨b, off, none⟩) csl w c15 c16 (k + 1) v' a' → tw'.length ≤ k + 1 → HSt w w' w.heap.size ((k + 1) * 2097152) v' tw' → K a' w'
end Go.Proofs.YtgjjjdccbpjnfaaGreatDoor

/- The law: the script's rounds, where nothing is done (written by wip/mkholds.py). -/
namespace Go.Proofs.YtgjjjdccbpjnfaaGreatDoor
open Go.RowKit

set_option maxHeartbeats 8000000 in
set_option maxRecDepth 100000 in
theorem hold_far (l : List POp) (w wr : World) (b off csl k : Nat) (v : Value) (tw : List (Value × Value)) (m : Int) (c15 c16 : Value) (kind p n : Int) (odd : Bool) (S : List UInt8) (c : Cfg) (aD aN aU aW : Option Addr) (cD cN cU cW : Nat) (K K0 : Act → World → Prop) (u4 u8 u9 u10 u11 u12 u13 u14 u17 u18 u19 u20 u21 u22 u23 u24 u25 u26 u27 u28 u29 u30 u31 u32 u33 u34 u35 u36 u37 u38 u39 u40 u41 u42 u43 u44 u45 u46 u47 u48 u49 u50 u51 u52 u53 u54 u55 u56 u57 u58 u59 u60 u61 u62 u63 u64 u65 u66 u67 u68 u69 u70 u71 u72 u73 u74 u75 u76 u77 u78 u79 u80 u81 u82 u83 u84 u85 u86 u87 u88 u89 u90 u91 u92 u93 u94 u95 u96 u97 u98 u99 u100 u101 u102 u103 u104 u105 u106 u107 u108 u109 u110 u111 u112 u113 u114 u115 u116 u117 u118 u119 u120 u121 u122 u123 u124 u125 u126 u127 u128 u129 u130 u131 u132 u133 u134 u135 u136 u137 u138 u139 u140 u141 u142 u143 u144 u145 u146 u147 u148 u149 u150 u151 u152 u153 : Value) (hin : HIn l w wr b off csl k v tw m c15 c16 kind p n odd S c aD aN aU aW cD cN cU cW K) (hA : 4 < kind) (hB : kind ≠ 12) :
    Code.wp Tryz.prog hBody (Exit.then K (Exit.inBlock 0 (Exit.then K0 (bodyPost Tryz.prog Tryz.f11 fun e w' => e = Ending.returned (.bool true) ∧ Below w.heap.size w w')))) ⟨#[.slice (some ⟨b, off, none⟩) l.length csl, .int .i64 4, undef, undef, u4, v, .pointer (some ⟨w.heap.size, 0, none⟩), .int .i64 (k : Int), u8, u9, u10, u11, u12, u13, u14, c15, c16, u17, u18, u19, u20, u21, u22, u23, u24, u25, u26, u27, u28, u29, u30, u31, u32, u33, u34, u35, u36, u37, u38, u39, u40, u41, u42, u43, u44, u45, u46, u47, u48, u49, u50, u51, u52, u53, u54, u55, u56, u57, u58, u59, u60, u61, u62, u63, u64, u65, u66, u67, u68, u69, u70, u71, u72, u73, u74, u75, u76, u77, u78, u79, u80, u81, u82, u83, u84, u85, u86, u87, u88, u89, u90, u91, u92, u93, u94, u95, u96, u97, u98, u99, u100, u101, u102, u103, u104, u105, u106, u107, u108, u109, u110, u111, u112, u113, u114, u115, u116, u117, u118, u119, u120, u121, u122, u123, u124, u125, u126, u127, u128, u129, u130, u131, u132, u133, u134, u135, u136, u137, u138, u139, u140, u141, u142, u143, u144, u145, u146, u147, u148, u149, u150, u151, u152, u153], []⟩ wr := by
  have HS := Lib.hid hin.st
  have htk := hin.tk
  have hlt := hin.lt
  have hl := hin.ll
  have HO := Lib.hid hin.ok
  have HM := Lib.hid hin.mm
  have HK := Lib.hid hin.next
  have hlti : (k : Int) < (l.length : Int) := by omega
  have mv : ∀ i u, i < 14 → (opCells kind p n odd S c (.slice aD c.doms.length cD) (.slice aN c.nets.length cN) (.slice aU c.users.length cU) (.slice aW c.waits.length cW))[i]? = some u → wr.cell? ⟨b, off + k * 14 + i, none⟩ = some u := fun i u hi e => (HS.out.below.cell (p := ⟨b, off + k * 14 + i, none⟩) (by exact block_lt (hin.cell i u hi e))).trans (hin.cell i u hi e)
  obtain ⟨c0, c1, c2, c3, c4, c5, c6, c7, c8, c9, c10, c11, c12, c13⟩ := op14 mv
  obtain ⟨W1, hW1⟩ : ∃ W1 : World, wr.alloc (.cells (opCells kind p n odd S c (.slice aD c.doms.length cD) (.slice aN c.nets.length cN) (.slice aU c.users.length cU) (.slice aW c.waits.length cW)) 66) = W1 := ⟨_, rfl⟩
  have B1 : Below wr.heap.size wr W1 := by rw [← hW1]; exact (Below.refl _ _).alloc (Nat.le_refl _) _
  have X1 := Lib.hid (show W1.heap[wr.heap.size]? = some (.cells (opCells kind p n odd S c (.slice aD c.doms.length cD) (.slice aN c.nets.length cN) (.slice aU c.users.length cU) (.slice aW c.waits.length cW)) 66 (0, 0)) from by rw [← hW1]; exact heap_alloc_new wr _)
  obtain ⟨KB, eKB⟩ : ∃ KB, k * 2097152 = KB := ⟨_, rfl⟩
  have hKB : KB ≤ 137438953472 := by omega
  have HKN : Hid (KB + 2097152 ≤ (k + 1) * 2097152) := Lib.hid (by omega)
  rw [eKB] at HS
  have HS1 := Lib.hid (HS.out.keep B1)
  have HW1 := Lib.hid hW1
  have HM1 : Hid (∀ W, Below w.heap.size w W → W.cell? ⟨0, 0, none⟩ = some (.int .i64 m)) := Lib.hid (fun W hW => (hW.cell (by exact block_lt HM.out)).trans HM.out)
  simp only [opCells] at HW1
  clear hin mv hW1 B1 HS HM eKB
  have t1 : decide (4 < kind) = true := decide_eq_true hA
  have t2 : (kind == 12) = false := by rw [beq_eq_false_iff_ne]; exact hB
  have t3 : (kind != 12) = true := by rw [bne, t2]; rfl
  conv => arg 2; whnf
  go_wp2_with fail
  rw [HW1.out]
  clear c0 c1 c2 c3 c4 c5 c6 c7 c8 c9 c10 c11 c12 c13
  refine (bkStill_any _ _ _ _ HS1.out.bk (by omega)).mono ?_
  rintro e w9 ⟨rfl, hb9⟩
  have HS9 := Lib.hid (HS1.out.keep hb9)
  go_wp2_with fail
  refine HK.out _ _ _ (tw) ?_ (by omega) (HS9.out.mono (by have := HKN.out; omega))
  exact ⟨_, _, _, _, _, _, _, _, _, _, _, _, _, _, _, _, _, _, _, _, _, _, _, _, _, _, _, _, _, _, _, _, _, _, _, _, _, _, _, _, _, _, _, _, _, _, _, _, _, _, _, _, _, _, _, _, _, _, _, _, _, _, _, _, _, _, _, _, _, _, _, _, _, _, _, _, _, _, _, _, _, _, _, _, _, _, _, _, _, _, _, _, _, _, _, _, _, _, _, _, _, _, _, _, _, _, _, _, _, _, _, _, _, _, _, _, _, _, _, _, _, _, _, _, _, _, _, _, _, _, _, _, _, _, _, _, _, _, _, _, _, _, _, _, _, _, by go_num, rfl⟩
set_option maxHeartbeats 8000000 in
set_option maxRecDepth 100000 in
theorem hold_none12 (l : List POp) (w wr : World) (b off csl k : Nat) (v : Value) (tw : List (Value × Value)) (m : Int) (c15 c16 : Value) (kind p n : Int) (odd : Bool) (S : List UInt8) (c : Cfg) (aD aN aU aW : Option Addr) (cD cN cU cW : Nat) (K K0 : Act → World → Prop) (u4 u8 u9 u10 u11 u12 u13 u14 u17 u18 u19 u20 u21 u22 u23 u24 u25 u26 u27 u28 u29 u30 u31 u32 u33 u34 u35 u36 u37 u38 u39 u40 u41 u42 u43 u44 u45 u46 u47 u48 u49 u50 u51 u52 u53 u54 u55 u56 u57 u58 u59 u60 u61 u62 u63 u64 u65 u66 u67 u68 u69 u70 u71 u72 u73 u74 u75 u76 u77 u78 u79 u80 u81 u82 u83 u84 u85 u86 u87 u88 u89 u90 u91 u92 u93 u94 u95 u96 u97 u98 u99 u100 u101 u102 u103 u104 u105 u106 u107 u108 u109 u110 u111 u112 u113 u114 u115 u116 u117 u118 u119 u120 u121 u122 u123 u124 u125 u126 u127 u128 u129 u130 u131 u132 u133 u134 u135 u136 u137 u138 u139 u140 u141 u142 u143 u144 u145 u146 u147 u148 u149 u150 u151 u152 u153 : Value) (hin : HIn l w wr b off csl k v tw m c15 c16 kind p n odd S c aD aN aU aW cD cN cU cW K) (hk : kind = 12) (htw : tw.length = 0) :
    Code.wp Tryz.prog hBody (Exit.then K (Exit.inBlock 0 (Exit.then K0 (bodyPost Tryz.prog Tryz.f11 fun e w' => e = Ending.returned (.bool true) ∧ Below w.heap.size w w')))) ⟨#[.slice (some ⟨b, off, none⟩) l.length csl, .int .i64 4, undef, undef, u4, v, .pointer (some ⟨w.heap.size, 0, none⟩), .int .i64 (k : Int), u8, u9, u10, u11, u12, u13, u14, c15, c16, u17, u18, u19, u20, u21, u22, u23, u24, u25, u26, u27, u28, u29, u30, u31, u32, u33, u34, u35, u36, u37, u38, u39, u40, u41, u42, u43, u44, u45, u46, u47, u48, u49, u50, u51, u52, u53, u54, u55, u56, u57, u58, u59, u60, u61, u62, u63, u64, u65, u66, u67, u68, u69, u70, u71, u72, u73, u74, u75, u76, u77, u78, u79, u80, u81, u82, u83, u84, u85, u86, u87, u88, u89, u90, u91, u92, u93, u94, u95, u96, u97, u98, u99, u100, u101, u102, u103, u104, u105, u106, u107, u108, u109, u110, u111, u112, u113, u114, u115, u116, u117, u118, u119, u120, u121, u122, u123, u124, u125, u126, u127, u128, u129, u130, u131, u132, u133, u134, u135, u136, u137, u138, u139, u140, u141, u142, u143, u144, u145, u146, u147, u148, u149, u150, u151, u152, u153], []⟩ wr := by
  have HS := Lib.hid hin.st
  have htk := hin.tk
  have hlt := hin.lt
  have hl := hin.ll
  have HO := Lib.hid hin.ok
  have HM := Lib.hid hin.mm
  have HK := Lib.hid hin.next
  have hlti : (k : Int) < (l.length : Int) := by omega
  have mv : ∀ i u, i < 14 → (opCells kind p n odd S c (.slice aD c.doms.length cD) (.slice aN c.nets.length cN) (.slice aU c.users.length cU) (.slice aW c.waits.length cW))[i]? = some u → wr.cell? ⟨b, off + k * 14 + i, none⟩ = some u := fun i u hi e => (HS.out.below.cell (p := ⟨b, off + k * 14 + i, none⟩) (by exact block_lt (hin.cell i u hi e))).trans (hin.cell i u hi e)
  obtain ⟨c0, c1, c2, c3, c4, c5, c6, c7, c8, c9, c10, c11, c12, c13⟩ := op14 mv
  obtain ⟨W1, hW1⟩ : ∃ W1 : World, wr.alloc (.cells (opCells kind p n odd S c (.slice aD c.doms.length cD) (.slice aN c.nets.length cN) (.slice aU c.users.length cU) (.slice aW c.waits.length cW)) 66) = W1 := ⟨_, rfl⟩
  have B1 : Below wr.heap.size wr W1 := by rw [← hW1]; exact (Below.refl _ _).alloc (Nat.le_refl _) _
  have X1 := Lib.hid (show W1.heap[wr.heap.size]? = some (.cells (opCells kind p n odd S c (.slice aD c.doms.length cD) (.slice aN c.nets.length cN) (.slice aU c.users.length cU) (.slice aW c.waits.length cW)) 66 (0, 0)) from by rw [← hW1]; exact heap_alloc_new wr _)
  obtain ⟨KB, eKB⟩ : ∃ KB, k * 2097152 = KB := ⟨_, rfl⟩
  have hKB : KB ≤ 137438953472 := by omega
  have HKN : Hid (KB + 2097152 ≤ (k + 1) * 2097152) := Lib.hid (by omega)
  rw [eKB] at HS
  have HS1 := Lib.hid (HS.out.keep B1)
  have HW1 := Lib.hid hW1
  have HM1 : Hid (∀ W, Below w.heap.size w W → W.cell? ⟨0, 0, none⟩ = some (.int .i64 m)) := Lib.hid (fun W hW => (hW.cell (by exact block_lt HM.out)).trans HM.out)
  simp only [opCells] at HW1
  clear hin mv hW1 B1 HS HM eKB
  subst hk
  obtain ⟨a5, cc5, e5⟩ := own_len HS1.out.all
  rw [htw] at e5
  subst e5
  conv => arg 2; whnf
  go_wp2_with fail
  rw [HW1.out]
  clear c0 c1 c2 c3 c4 c5 c6 c7 c8 c9 c10 c11 c12 c13
  refine (bkStill_any _ _ _ _ HS1.out.bk (by omega)).mono ?_
  rintro e w9 ⟨rfl, hb9⟩
  have HS9 := Lib.hid (HS1.out.keep hb9)
  go_wp2_with fail
  refine HK.out _ _ _ (tw) ?_ (by omega) (HS9.out.mono (by have := HKN.out; omega))
  exact ⟨_, _, _, _, _, _, _, _, _, _, _, _, _, _, _, _, _, _, _, _, _, _, _, _, _, _, _, _, _, _, _, _, _, _, _, _, _, _, _, _, _, _, _, _, _, _, _, _, _, _, _, _, _, _, _, _, _, _, _, _, _, _, _, _, _, _, _, _, _, _, _, _, _, _, _, _, _, _, _, _, _, _, _, _, _, _, _, _, _, _, _, _, _, _, _, _, _, _, _, _, _, _, _, _, _, _, _, _, _, _, _, _, _, _, _, _, _, _, _, _, _, _, _, _, _, _, _, _, _, _, _, _, _, _, _, _, _, _, _, _, _, _, _, _, _, _, by go_num, rfl⟩
end Go.Proofs.YtgjjjdccbpjnfaaGreatDoor

/- The law: the script's rounds, where nothing is done (written by wip/mkholds.py). -/
namespace Go.Proofs.YtgjjjdccbpjnfaaGreatDoor
open Go.RowKit

set_option maxHeartbeats 8000000 in
set_option maxRecDepth 100000 in
theorem hold_none (l : List POp) (w wr : World) (b off csl k : Nat) (v : Value) (tw : List (Value × Value)) (m : Int) (c15 c16 : Value) (kind p n : Int) (odd : Bool) (S : List UInt8) (c : Cfg) (aD aN aU aW : Option Addr) (cD cN cU cW : Nat) (K K0 : Act → World → Prop) (u4 u8 u9 u10 u11 u12 u13 u14 u17 u18 u19 u20 u21 u22 u23 u24 u25 u26 u27 u28 u29 u30 u31 u32 u33 u34 u35 u36 u37 u38 u39 u40 u41 u42 u43 u44 u45 u46 u47 u48 u49 u50 u51 u52 u53 u54 u55 u56 u57 u58 u59 u60 u61 u62 u63 u64 u65 u66 u67 u68 u69 u70 u71 u72 u73 u74 u75 u76 u77 u78 u79 u80 u81 u82 u83 u84 u85 u86 u87 u88 u89 u90 u91 u92 u93 u94 u95 u96 u97 u98 u99 u100 u101 u102 u103 u104 u105 u106 u107 u108 u109 u110 u111 u112 u113 u114 u115 u116 u117 u118 u119 u120 u121 u122 u123 u124 u125 u126 u127 u128 u129 u130 u131 u132 u133 u134 u135 u136 u137 u138 u139 u140 u141 u142 u143 u144 u145 u146 u147 u148 u149 u150 u151 u152 u153 : Value) (hin : HIn l w wr b off csl k v tw m c15 c16 kind p n odd S c aD aN aU aW cD cN cU cW K) (hA : kind ≤ 4) (hk1 : kind ≠ 1) (hk2 : kind ≠ 2) (htw : tw.length = 0) :
    Code.wp Tryz.prog hBody (Exit.then K (Exit.inBlock 0 (Exit.then K0 (bodyPost Tryz.prog Tryz.f11 fun e w' => e = Ending.returned (.bool true) ∧ Below w.heap.size w w')))) ⟨#[.slice (some ⟨b, off, none⟩) l.length csl, .int .i64 4, undef, undef, u4, v, .pointer (some ⟨w.heap.size, 0, none⟩), .int .i64 (k : Int), u8, u9, u10, u11, u12, u13, u14, c15, c16, u17, u18, u19, u20, u21, u22, u23, u24, u25, u26, u27, u28, u29, u30, u31, u32, u33, u34, u35, u36, u37, u38, u39, u40, u41, u42, u43, u44, u45, u46, u47, u48, u49, u50, u51, u52, u53, u54, u55, u56, u57, u58, u59, u60, u61, u62, u63, u64, u65, u66, u67, u68, u69, u70, u71, u72, u73, u74, u75, u76, u77, u78, u79, u80, u81, u82, u83, u84, u85, u86, u87, u88, u89, u90, u91, u92, u93, u94, u95, u96, u97, u98, u99, u100, u101, u102, u103, u104, u105, u106, u107, u108, u109, u110, u111, u112, u113, u114, u115, u116, u117, u118, u119, u120, u121, u122, u123, u124, u125, u126, u127, u128, u129, u130, u131, u132, u133, u134, u135, u136, u137, u138, u139, u140, u141, u142, u143, u144, u145, u146, u147, u148, u149, u150, u151, u152, u153], []⟩ wr := by
  have HS := Lib.hid hin.st
  have htk := hin.tk
  have hlt := hin.lt
  have hl := hin.ll
  have HO := Lib.hid hin.ok
  have HM := Lib.hid hin.mm
  have HK := Lib.hid hin.next
  have hlti : (k : Int) < (l.length : Int) := by omega
  have mv : ∀ i u, i < 14 → (opCells kind p n odd S c (.slice aD c.doms.length cD) (.slice aN c.nets.length cN) (.slice aU c.users.length cU) (.slice aW c.waits.length cW))[i]? = some u → wr.cell? ⟨b, off + k * 14 + i, none⟩ = some u := fun i u hi e => (HS.out.below.cell (p := ⟨b, off + k * 14 + i, none⟩) (by exact block_lt (hin.cell i u hi e))).trans (hin.cell i u hi e)
  obtain ⟨c0, c1, c2, c3, c4, c5, c6, c7, c8, c9, c10, c11, c12, c13⟩ := op14 mv
  obtain ⟨W1, hW1⟩ : ∃ W1 : World, wr.alloc (.cells (opCells kind p n odd S c (.slice aD c.doms.length cD) (.slice aN c.nets.length cN) (.slice aU c.users.length cU) (.slice aW c.waits.length cW)) 66) = W1 := ⟨_, rfl⟩
  have B1 : Below wr.heap.size wr W1 := by rw [← hW1]; exact (Below.refl _ _).alloc (Nat.le_refl _) _
  have X1 := Lib.hid (show W1.heap[wr.heap.size]? = some (.cells (opCells kind p n odd S c (.slice aD c.doms.length cD) (.slice aN c.nets.length cN) (.slice aU c.users.length cU) (.slice aW c.waits.length cW)) 66 (0, 0)) from by rw [← hW1]; exact heap_alloc_new wr _)
  obtain ⟨KB, eKB⟩ : ∃ KB, k * 2097152 = KB := ⟨_, rfl⟩
  have hKB : KB ≤ 137438953472 := by omega
  have HKN : Hid (KB + 2097152 ≤ (k + 1) * 2097152) := Lib.hid (by omega)
  rw [eKB] at HS
  have HS1 := Lib.hid (HS.out.keep B1)
  have HW1 := Lib.hid hW1
  have HM1 : Hid (∀ W, Below w.heap.size w W → W.cell? ⟨0, 0, none⟩ = some (.int .i64 m)) := Lib.hid (fun W hW => (hW.cell (by exact block_lt HM.out)).trans HM.out)
  simp only [opCells] at HW1
  clear hin mv hW1 B1 HS HM eKB
  have t1 : (kind == 1) = false := by rw [beq_eq_false_iff_ne]; exact hk1
  have t2 : (kind == 2) = false := by rw [beq_eq_false_iff_ne]; exact hk2
  have t4 : decide (4 < kind) = false := decide_eq_false (by omega)
  obtain ⟨a5, cc5, e5⟩ := own_len HS1.out.all
  rw [htw] at e5
  subst e5
  conv => arg 2; whnf
  go_wp2_with fail
  rw [HW1.out]
  clear c0 c1 c2 c3 c4 c5 c6 c7 c8 c9 c10 c11 c12 c13
  refine (bkStill_any _ _ _ _ HS1.out.bk (by omega)).mono ?_
  rintro e w9 ⟨rfl, hb9⟩
  have HS9 := Lib.hid (HS1.out.keep hb9)
  go_wp2_with fail
  refine HK.out _ _ _ (tw) ?_ (by omega) (HS9.out.mono (by have := HKN.out; omega))
  exact ⟨_, _, _, _, _, _, _, _, _, _, _, _, _, _, _, _, _, _, _, _, _, _, _, _, _, _, _, _, _, _, _, _, _, _, _, _, _, _, _, _, _, _, _, _, _, _, _, _, _, _, _, _, _, _, _, _, _, _, _, _, _, _, _, _, _, _, _, _, _, _, _, _, _, _, _, _, _, _, _, _, _, _, _, _, _, _, _, _, _, _, _, _, _, _, _, _, _, _, _, _, _, _, _, _, _, _, _, _, _, _, _, _, _, _, _, _, _, _, _, _, _, _, _, _, _, _, _, _, _, _, _, _, _, _, _, _, _, _, _, _, _, _, _, _, _, _, by go_num, rfl⟩
set_option maxHeartbeats 8000000 in
set_option maxRecDepth 100000 in
theorem hold_low (l : List POp) (w wr : World) (b off csl k : Nat) (v : Value) (tw : List (Value × Value)) (m : Int) (c15 c16 : Value) (kind p n : Int) (odd : Bool) (S : List UInt8) (c : Cfg) (aD aN aU aW : Option Addr) (cD cN cU cW : Nat) (K K0 : Act → World → Prop) (u4 u8 u9 u10 u11 u12 u13 u14 u17 u18 u19 u20 u21 u22 u23 u24 u25 u26 u27 u28 u29 u30 u31 u32 u33 u34 u35 u36 u37 u38 u39 u40 u41 u42 u43 u44 u45 u46 u47 u48 u49 u50 u51 u52 u53 u54 u55 u56 u57 u58 u59 u60 u61 u62 u63 u64 u65 u66 u67 u68 u69 u70 u71 u72 u73 u74 u75 u76 u77 u78 u79 u80 u81 u82 u83 u84 u85 u86 u87 u88 u89 u90 u91 u92 u93 u94 u95 u96 u97 u98 u99 u100 u101 u102 u103 u104 u105 u106 u107 u108 u109 u110 u111 u112 u113 u114 u115 u116 u117 u118 u119 u120 u121 u122 u123 u124 u125 u126 u127 u128 u129 u130 u131 u132 u133 u134 u135 u136 u137 u138 u139 u140 u141 u142 u143 u144 u145 u146 u147 u148 u149 u150 u151 u152 u153 : Value) (hin : HIn l w wr b off csl k v tw m c15 c16 kind p n odd S c aD aN aU aW cD cN cU cW K) (hk1 : kind ≠ 1) (hk2 : kind ≠ 2) (hk0 : kind < 3) (htw : tw.length ≠ 0) :
    Code.wp Tryz.prog hBody (Exit.then K (Exit.inBlock 0 (Exit.then K0 (bodyPost Tryz.prog Tryz.f11 fun e w' => e = Ending.returned (.bool true) ∧ Below w.heap.size w w')))) ⟨#[.slice (some ⟨b, off, none⟩) l.length csl, .int .i64 4, undef, undef, u4, v, .pointer (some ⟨w.heap.size, 0, none⟩), .int .i64 (k : Int), u8, u9, u10, u11, u12, u13, u14, c15, c16, u17, u18, u19, u20, u21, u22, u23, u24, u25, u26, u27, u28, u29, u30, u31, u32, u33, u34, u35, u36, u37, u38, u39, u40, u41, u42, u43, u44, u45, u46, u47, u48, u49, u50, u51, u52, u53, u54, u55, u56, u57, u58, u59, u60, u61, u62, u63, u64, u65, u66, u67, u68, u69, u70, u71, u72, u73, u74, u75, u76, u77, u78, u79, u80, u81, u82, u83, u84, u85, u86, u87, u88, u89, u90, u91, u92, u93, u94, u95, u96, u97, u98, u99, u100, u101, u102, u103, u104, u105, u106, u107, u108, u109, u110, u111, u112, u113, u114, u115, u116, u117, u118, u119, u120, u121, u122, u123, u124, u125, u126, u127, u128, u129, u130, u131, u132, u133, u134, u135, u136, u137, u138, u139, u140, u141, u142, u143, u144, u145, u146, u147, u148, u149, u150, u151, u152, u153], []⟩ wr := by
  have HS := Lib.hid hin.st
  have htk := hin.tk
  have hlt := hin.lt
  have hl := hin.ll
  have HO := Lib.hid hin.ok
  have HM := Lib.hid hin.mm
  have HK := Lib.hid hin.next
  have hlti : (k : Int) < (l.length : Int) := by omega
  have mv : ∀ i u, i < 14 → (opCells kind p n odd S c (.slice aD c.doms.length cD) (.slice aN c.nets.length cN) (.slice aU c.users.length cU) (.slice aW c.waits.length cW))[i]? = some u → wr.cell? ⟨b, off + k * 14 + i, none⟩ = some u := fun i u hi e => (HS.out.below.cell (p := ⟨b, off + k * 14 + i, none⟩) (by exact block_lt (hin.cell i u hi e))).trans (hin.cell i u hi e)
  obtain ⟨c0, c1, c2, c3, c4, c5, c6, c7, c8, c9, c10, c11, c12, c13⟩ := op14 mv
  obtain ⟨W1, hW1⟩ : ∃ W1 : World, wr.alloc (.cells (opCells kind p n odd S c (.slice aD c.doms.length cD) (.slice aN c.nets.length cN) (.slice aU c.users.length cU) (.slice aW c.waits.length cW)) 66) = W1 := ⟨_, rfl⟩
  have B1 : Below wr.heap.size wr W1 := by rw [← hW1]; exact (Below.refl _ _).alloc (Nat.le_refl _) _
  have X1 := Lib.hid (show W1.heap[wr.heap.size]? = some (.cells (opCells kind p n odd S c (.slice aD c.doms.length cD) (.slice aN c.nets.length cN) (.slice aU c.users.length cU) (.slice aW c.waits.length cW)) 66 (0, 0)) from by rw [← hW1]; exact heap_alloc_new wr _)
  obtain ⟨KB, eKB⟩ : ∃ KB, k * 2097152 = KB := ⟨_, rfl⟩
  have hKB : KB ≤ 137438953472 := by omega
  have HKN : Hid (KB + 2097152 ≤ (k + 1) * 2097152) := Lib.hid (by omega)
  rw [eKB] at HS
  have HS1 := Lib.hid (HS.out.keep B1)
  have HW1 := Lib.hid hW1
  have HM1 : Hid (∀ W, Below w.heap.size w W → W.cell? ⟨0, 0, none⟩ = some (.int .i64 m)) := Lib.hid (fun W hW => (hW.cell (by exact block_lt HM.out)).trans HM.out)
  simp only [opCells] at HW1
  clear hin mv hW1 B1 HS HM eKB
  have t1 : (kind == 1) = false := by rw [beq_eq_false_iff_ne]; exact hk1
  have t2 : (kind == 2) = false := by rw [beq_eq_false_iff_ne]; exact hk2
  obtain ⟨a5, cc5, e5⟩ := own_len HS1.out.all
  subst e5
  have t5 : ((tw.length : Int) == 0) = false := by rw [beq_eq_false_iff_ne]; omega
  have t5' : decide ((tw.length : Int) = 0) = false := decide_eq_false (by omega)
  have t4 : decide (4 < kind) = false := decide_eq_false (by omega)
  have t6 : (kind == 3) = false := by rw [beq_eq_false_iff_ne]; omega
  have t7 : (kind == 4) = false := by rw [beq_eq_false_iff_ne]; omega
  have t8 : decide (5 ≤ kind) = false := decide_eq_false (by omega)
  have t9 : decide (8 ≤ kind) = false := decide_eq_false (by omega)
  have t10 : (kind == 12) = false := by rw [beq_eq_false_iff_ne]; omega
  conv => arg 2; whnf
  go_wp2_with fail
  rw [HW1.out]
  clear c0 c1 c2 c3 c4 c5 c6 c7 c8 c9 c10 c11 c12 c13
  refine (bkStill_any _ _ _ _ HS1.out.bk (by omega)).mono ?_
  rintro e w9 ⟨rfl, hb9⟩
  have HS9 := Lib.hid (HS1.out.keep hb9)
  go_wp2_with fail
  refine HK.out _ _ _ (tw) ?_ (by omega) (HS9.out.mono (by have := HKN.out; omega))
  exact ⟨_, _, _, _, _, _, _, _, _, _, _, _, _, _, _, _, _, _, _, _, _, _, _, _, _, _, _, _, _, _, _, _, _, _, _, _, _, _, _, _, _, _, _, _, _, _, _, _, _, _, _, _, _, _, _, _, _, _, _, _, _, _, _, _, _, _, _, _, _, _, _, _, _, _, _, _, _, _, _, _, _, _, _, _, _, _, _, _, _, _, _, _, _, _, _, _, _, _, _, _, _, _, _, _, _, _, _, _, _, _, _, _, _, _, _, _, _, _, _, _, _, _, _, _, _, _, _, _, _, _, _, _, _, _, _, _, _, _, _, _, _, _, _, _, _, _, by go_num, rfl⟩
end Go.Proofs.YtgjjjdccbpjnfaaGreatDoor
