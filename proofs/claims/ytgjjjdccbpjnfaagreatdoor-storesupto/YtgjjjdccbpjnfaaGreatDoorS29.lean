import Derived.Test.YtgjjjdccbpjnfaaGreatDoorS27
import Derived.Test.YtgjjjdccbpjnfaaGreatDoorS22
import Derived.Test.YtgjjjdccbpjnfaaGreatDoorS26
import Derived.Test.YtgjjjdccbpjnfaaGreatDoorS28
import Derived.Test.YtgjjjdccbpjnfaaGreatDoorS18
import Derived.BigRegion

/- The books: mail in lists of its own. -/
namespace Go.Proofs.YtgjjjdccbpjnfaaGreatDoor
open Go.RowKit

def TosOk (ms : List PMail) : Prop := ∀ m ∈ ms, 1 ≤ m.tos.length ∧ m.tos.length ≤ 255
theorem own_lt {w : World} {base sz n g : Nat} {e : TypeId} {v : Value} {xs : List Value} (h : w.ownsRow base e sz v n xs) (hg : v.ownBlock = some g) : g < w.heap.size := (h.lt g hg).2

set_option maxHeartbeats 2000000 in
set_option maxRecDepth 100000 in
theorem copied_any (ms : List PMail) (v : Value) (w : World) (h : MailsAt w v ms) (hl : ms.length ≤ 1048576) (hz : TosOk ms) :
    Calls Tryz.prog 85 #[v] w fun e w' => ∃ v' rows, e = .returned v' ∧ MailsIn w.heap.size w' v' rows ∧ rows.map (·.1) = ms ∧ Below w.heap.size w w' := by
  obtain ⟨ax, nx, cx, rfl⟩ : ∃ a n c, v = .slice a n c := by obtain ⟨l, _, hr, _⟩ := h; obtain ⟨a, c, e, _⟩ := hr.shape; exact ⟨_, _, _, e⟩
  obtain ⟨ex, px⟩ := h.cells
  subst ex
  have HPX := Lib.hid px
  have HZ := Lib.hid hz
  obtain ⟨im, him, hzm0, hzm1, hzm2⟩ := info_parts info_mail
  obtain ⟨is, his, hzs0, hzs1, hzs2⟩ := info_parts info_str'
  clear h px hz
  go_enter Tryz.func85, Tryz.ntmps85
  go_wp2_with fail
  go_loopw [3, 4] (fun o i w' => ∃ (k : Nat) (rows : List (PMail × Value)), k ≤ ms.length ∧ i = .int .i64 k ∧ rows.length = k ∧ Hid (rows.map (·.1) = ms.take k) ∧ Hid (MailsIn w.heap.size w' o rows) ∧ Hid (Below w.heap.size w w')) (fun _ i _ => ms.length - (intOf i).toNat)
  case atStart => exact ⟨0, [], Nat.zero_le _, rfl, rfl, Lib.hid rfl, Lib.hid ⟨World.ownsRow_nil _ _ _ _, fun x hx => by simp at hx⟩, Lib.hid (Below.refl _ _)⟩
  case round =>
    obtain ⟨k, rows, hk, rfl, hrl, HE, HM, HB⟩ := hrel
    by_cases hlt : k < ms.length
    · have hlti : (k : Int) < (ms.length : Int) := by omega
      obtain ⟨b, off, at_, ct, rfl, hb, p0, p1, p2, p3, p4, pt⟩ := HPX.out k hlt
      have htl := HZ.out ms[k] (List.getElem_mem hlt)
      have HE2 : Hid (∀ M, ms[k] = M → ms.take (k + 1) = rows.map (·.1) ++ [M]) := Lib.hid (fun M e => by rw [List.take_succ_eq_append_getElem hlt, HE.out, e])
      have HE3 := Lib.hid (HE2.out _ rfl)
      generalize ms[k] = M at p0 p1 p2 p3 p4 pt htl HE3
      obtain ⟨I, T, F, Ts, Bd⟩ := M
      simp only at p0 p1 p2 p3 p4 pt htl
      have mv : ∀ (c o : Nat) (u : Value), w.cell? ⟨c, o, none⟩ = some u → wr.cell? ⟨c, o, none⟩ = some u := fun c o u h => (HB.out.cell (p := ⟨c, o, none⟩) (by exact block_lt h)).trans h
      have q0 := mv _ _ _ p0
      have q1 := mv _ _ _ p1
      have q2 := mv _ _ _ p2
      have q3 := mv _ _ _ p3
      have q4 := mv _ _ _ p4
      obtain ⟨c, o, rfl, hcl, _⟩ := pt 0 (by omega)
      have tcell : Hid (∀ (W : World), Below wr.heap.size wr W → ∀ j u, (textCells Ts)[j]? = some u → W.cell? ((⟨c, o, none⟩ : Addr).add j) = some u) := Lib.hid (fun W hW j u hj => by
        have hjl : j < Ts.length := by have := (List.getElem?_eq_some_iff.1 hj).1; simpa [textCells] using this
        obtain ⟨c', o', e', hc', hcell⟩ := pt j hjl
        injection e' with e'
        injection e' with e1 e2
        subst e1 e2
        rw [textCells_get _ _ hjl] at hj
        rw [show (⟨c, o, none⟩ : Addr).add j = ⟨c, o + j, none⟩ by simp [Addr.add], hW.cell (p := ⟨c, o + j, none⟩) (by exact block_lt (mv _ _ _ hcell)), mv _ _ _ hcell, ← hj])
      have hsw : w.heap.size ≤ wr.heap.size := HB.out.size
      have M1 := HM.out.1
      have HMT := Lib.hid HM.out.2
      clear p0 p1 p2 p3 p4 pt mv HE HE2
      go_wp2_with (first
        | (at_builtin; refine wpList_append_own _ rfl _ _ 24 rfl w.heap.size 9 is _ 1 16 Tryz.underlying24 his hzs0 hzs1 hzs2 rfl (by decide) _ _ _ rfl (World.ownsRow_nil _ _ _ _) ⟨c, o, none⟩ Ts.length ct (textCells Ts) rfl ?a0 ?a1 ?a2 ?a3 ?a4 ?a5 ?_)
        | fail)
      case a0 => simp [textCells]
      case a1 => exact tcell.out _ ((Below.refl _ _).alloc (Nat.le_refl _) _)
      case a2 => intro u hu; simp only [textCells, List.mem_map] at hu; obtain ⟨t, _, rfl⟩ := hu; rfl
      case a3 => unfold maxLen; omega
      case a4 => omega
      case a5 => simp; omega
      intro v2 w2 hown2 hgrow2 _
      have hc2 : Below (wr.heap.size + 1) (wr.alloc (.cells #[.int .i64 I, .int .i64 T, .string (bs F), .slice (some ⟨c, o, none⟩) Ts.length ct, .string (bs Bd)] 26)) w2 := ⟨hgrow2.os, hgrow2.tape, hgrow2.output, hgrow2.size, fun y hy => hgrow2.block y (by simp; exact hy) (by intro e; cases e)⟩
      have b2 : w2.heap[wr.heap.size]? = some (.cells #[.int .i64 I, .int .i64 T, .string (bs F), .slice (some ⟨c, o, none⟩) Ts.length ct, .string (bs Bd)] 26 (0, 0)) := (hc2.block _ (by omega)).trans (heap_alloc_new wr _)
      have B02 : Below wr.heap.size wr w2 := ((Below.refl _ wr).alloc (Nat.le_refl _) _).trans (hc2.mono (by omega))
      obtain ⟨a2, n2, c2, e2⟩ := own_slice hown2
      subst e2
      obtain ⟨w3, hw3⟩ : ∃ w3, w2.setCell ⟨wr.heap.size, 3, none⟩ (.slice a2 n2 c2) = w3 := ⟨_, rfl⟩
      have S3 : Same wr.heap.size w2 w3 := by rw [← hw3]; exact (Same.refl _ _).setCell _
      have b3 : w3.heap[wr.heap.size]? = some (.cells #[.int .i64 I, .int .i64 T, .string (bs F), .slice a2 n2 c2, .string (bs Bd)] 26 (0, 0)) := by rw [← hw3]; exact heap_setCell_same w2 _ 3 _ _ _ b2
      have r3 : w2.cell? ⟨wr.heap.size, 3, none⟩ = some (.slice (some ⟨c, o, none⟩) Ts.length ct) := by rw [Lib.cell_of_heap b2]; rfl
      have f3 := Lib.frozen_of_heap b2 3
      have s0 : w3.cell? ⟨wr.heap.size, 0, none⟩ = some (.int .i64 I) := by rw [Lib.cell_of_heap b3]; rfl
      have s1 : w3.cell? ⟨wr.heap.size, 1, none⟩ = some (.int .i64 T) := by rw [Lib.cell_of_heap b3]; rfl
      have s2 : w3.cell? ⟨wr.heap.size, 2, none⟩ = some (.string (bs F)) := by rw [Lib.cell_of_heap b3]; rfl
      have s3 : w3.cell? ⟨wr.heap.size, 3, none⟩ = some (.slice a2 n2 c2) := by rw [Lib.cell_of_heap b3]; rfl
      have s4 : w3.cell? ⟨wr.heap.size, 4, none⟩ = some (.string (bs Bd)) := by rw [Lib.cell_of_heap b3]; rfl
      have V3 := Lib.hid (ownsRow_keeps hown2 fun y cur9 e _ => same_some S3 e (fun e' => by rw [e', b2] at e; simp at e))
      have M3 : w3.ownsRow w.heap.size 26 5 u3 rows.length (mailRow rows) := by
        have m2 := ownsRow_keeps M1 fun y cur9 e _ => below_some B02 e
        refine ownsRow_chg m2 (Chg.same S3) fun y cur9 e e' e9 => ?_
        have := own_lt M1 e'
        omega
      have T3 := Lib.hid (fun x hx => ownsRow_keeps (HMT.out x hx) fun y cur9 e _ => same_some S3 (below_some B02 e) (fun e' => by have := heap_some_lt e; omega))
      have B3 := Lib.hid ((HB.out.trans (B02.mono hsw)).trans (S3.below hsw))
      have hz3 : w.heap.size ≤ w3.heap.size := by have := B3.out.size; omega
      clear hown2 hgrow2 hc2 b2 B02 S3 b3 M1 q0 q1 q2 q3 q4
      go_wp2_with (first
        | (at_builtin; refine wpList_append_own _ rfl _ _ 40 rfl w.heap.size 26 im _ 5 72 Tryz.underlying40 him hzm0 hzm1 hzm2 rfl (by decide) _ _ _ rfl (M3.alloc _) ⟨w3.heap.size, 0, none⟩ 1 1 [.int .i64 I, .int .i64 T, .string (bs F), .slice a2 n2 c2, .string (bs Bd)] rfl rfl ?c1 ?c2 ?c3 ?c4 ?c5 ?_)
        | fail)
      case c1 => exact World.news_of_block (cs := #[.int .i64 I, .int .i64 T, .string (bs F), .slice a2 n2 c2, .string (bs Bd)]) (t := 26) (fr := (0, 0)) (heap_alloc_new w3 _)
      case c2 => intro u hu; simp at hu; rcases hu with rfl | rfl | rfl | rfl | rfl <;> rfl
      case c3 => unfold maxLen; omega
      case c4 => omega
      case c5 => simp; omega
      intro v' w10 hown hgrow _
      have D := Lib.hid (queue_put (m := ⟨I, T, F, Ts, Bd⟩) (vt := .slice a2 n2 c2) T3.out M3 V3.out B3.out hz3 (by rw [hrl]; exact hown) hgrow)
      clear hown hgrow M3 s0 s1 s2 s3 s4 r3 f3 hw3
      go_wp2_with fail
      exact ⟨⟨k + 1, rows ++ [(⟨I, T, F, Ts, Bd⟩, .slice a2 n2 c2)], by omega, by go_num, by simp; omega, Lib.hid (by rw [HE3.out]; simp), Lib.hid D.out.1, Lib.hid D.out.2⟩, by simp [intOf]; omega⟩
    · have hk9 : k = ms.length := by omega
      subst hk9
      rw [List.take_length] at HE
      go_wp2_with fail
      go_ret
      exact ⟨_, rows, rfl, HM.out, HE.out, HB.out⟩
end Go.Proofs.YtgjjjdccbpjnfaaGreatDoor

/- The books as a whole. -/
namespace Go.Proofs.YtgjjjdccbpjnfaaGreatDoor
open Go.RowKit

/-- all that the books know lies at lo or above it -/
structure Low (lo bb : Nat) (kv vM vO vT vS : Value) (ts : List TE) (ms : List ME) (rows : List (PMail × Nat)) : Prop where
  b : lo ≤ bb
  k : ∀ g, kv.ownBlock = some g → lo ≤ g
  m : ∀ g, vM.ownBlock = some g → lo ≤ g
  o : ∀ g, vO.ownBlock = some g → lo ≤ g
  t : ∀ g, vT.ownBlock = some g → lo ≤ g
  s : ∀ g, vS.ownBlock = some g → lo ≤ g
  ts : ∀ x ∈ ts, lo ≤ x.g
  r : ∀ r ∈ rows, lo ≤ r.2
structure BkS (lo : Nat) (w : World) (bb B N came : Nat) (kv wv vM vO vT vS : Value) (ts : List TE) (ms : List ME) (s : Nat) (rows : List (PMail × Nat)) : Prop where
  bk : BkIn w bb N came kv wv ts (ts.map TE.s) ms (ms.map ME.k) vM vO vT vS
  kept : RowsIn s w kv rows
  were : ∃ s' rowsW, MailsIn s' w wv rowsW ∧ rowsW.map (·.1) = rows.map (·.1)
  f1 : ∀ x ∈ ts, ∀ r ∈ rows, x.g ≠ r.2
  f2 : ∀ r ∈ rows, vS.ownBlock ≠ some r.2
  f3 : ∀ x ∈ ms, ∀ g, x.v.ownBlock = some g → kv.ownBlock ≠ some g
  z1 : rows.length ≤ 131072
  z2 : ∀ r ∈ rows, 1 ≤ r.1.tos.length ∧ r.1.tos.length ≤ 255
  n1 : N ≤ B
  n2 : came ≤ B
  n3 : ts.length ≤ B
  n4 : ms.length ≤ B
  low : Low lo bb kv vM vO vT vS ts ms rows
def Bk (lo : Nat) (w : World) (bb B : Nat) : Prop := ∃ N came kv wv vM vO vT vS ts ms s rows, BkS lo w bb B N came kv wv vM vO vT vS ts ms s rows

theorem MailsAt.below {w w' : World} {v : Value} {ms : List PMail} (h : MailsAt w v ms) (hb : Below w.heap.size w w') : MailsAt w' v ms := by
  obtain ⟨l, e, r, t⟩ := h
  exact ⟨l, e, r.below hb, fun x hx => (t x hx).below hb⟩
theorem BkS.keep {lo : Nat} {w w' : World} {bb B N came s : Nat} {kv wv vM vO vT vS : Value} {ts : List TE} {ms : List ME} {rows : List (PMail × Nat)} (h : BkS lo w bb B N came kv wv vM vO vT vS ts ms s rows) (hb : Below w.heap.size w w') : BkS lo w' bb B N came kv wv vM vO vT vS ts ms s rows :=
  ⟨h.bk.keep hb, h.kept.keep hb, by
    obtain ⟨s', rowsW, a, b⟩ := h.were
    exact ⟨s', rowsW, ⟨ownsRow_keeps a.1 fun g cur e _ => below_some hb e, fun x hx => ownsRow_keeps (a.2 x hx) fun g cur e _ => below_some hb e⟩, b⟩, h.f1, h.f2, h.f3, h.z1, h.z2, h.n1, h.n2, h.n3, h.n4, h.low⟩
theorem Bk.keep {lo : Nat} {w w' : World} {bb B : Nat} (h : Bk lo w bb B) (hb : Below w.heap.size w w') : Bk lo w' bb B := by
  obtain ⟨N, came, kv, wv, vM, vO, vT, vS, ts, ms, s, rows, h⟩ := h
  exact ⟨N, came, kv, wv, vM, vO, vT, vS, ts, ms, s, rows, h.keep hb⟩
theorem Bk.mono {lo : Nat} {w : World} {bb B B' : Nat} (h : Bk lo w bb B) (hB : B ≤ B') : Bk lo w bb B' := by
  obtain ⟨N, came, kv, wv, vM, vO, vT, vS, ts, ms, s, rows, h⟩ := h
  exact ⟨N, came, kv, wv, vM, vO, vT, vS, ts, ms, s, rows, h.bk, h.kept, h.were, h.f1, h.f2, h.f3, h.z1, h.z2, Nat.le_trans h.n1 hB, Nat.le_trans h.n2 hB, Nat.le_trans h.n3 hB, Nat.le_trans h.n4 hB, h.low⟩
theorem RowsIn.at {s : Nat} {w : World} {v : Value} {rows : List (PMail × Nat)} (h : RowsIn s w v rows) : MailsAt w v (rows.map (·.1)) := by
  have := h.mails.at
  rw [List.map_map] at this
  exact this
theorem RowsIn.chg {A : Nat → Prop} {s : Nat} {w w' : World} {v : Value} {rows : List (PMail × Nat)} (h : RowsIn s w v rows) (hc : Chg A w w') (hA : ∀ k, A k → k < s) : RowsIn s w' v rows :=
  ⟨ownsRow_keeps h.row fun g cur e hg => hc.some_ e (fun a => by have := hA g a; omega), fun x hx => ownsRow_keeps (h.tos x hx) fun g cur e hg => hc.some_ e (fun a => by have := hA g a; omega), h.apart⟩
theorem MailsIn.chg {A : Nat → Prop} {s : Nat} {w w' : World} {v : Value} {rows : List (PMail × Value)} (h : MailsIn s w v rows) (hc : Chg A w w') (hA : ∀ k, A k → k < s) : MailsIn s w' v rows :=
  ⟨ownsRow_keeps h.1 fun g cur e hg => hc.some_ e (fun a => by have := hA g a; omega), fun x hx => ownsRow_keeps (h.2 x hx) fun g cur e hg => hc.some_ e (fun a => by have := hA g a; omega)⟩
theorem RowsIn.ge {s : Nat} {w : World} {v : Value} {rows : List (PMail × Nat)} (h : RowsIn s w v rows) {x : PMail × Nat} (hx : x ∈ rows) : s ≤ x.2 ∧ x.2 < w.heap.size := (h.tos x hx).lt x.2 rfl
/-- the types of the blocks that the books write -/
def bkTypes : List TypeId := [64, 9, 26, 24, 40, 3]
theorem Chg.touch {A : Nat → Prop} {ts : List TypeId} {w w' : World} (h : Chg A w w') (hA : ∀ k, A k → ∀ o, w.heap[k]? = some o → ∃ t ∈ ts, tagOf o = some t) : Touch ts w w' :=
  ⟨h.size, fun k o e hn => h.some_ e (fun a => by
    obtain ⟨t, ht, e1⟩ := hA k a o e
    exact hn t ht e1), h.still⟩
/-- a post's books are at their beginning -/
theorem Bk.nil {lo : Nat} {w : World} {bb : Nat} (h : w.heap[bb]? = some (.cells #[.int .i64 0, .int .i64 0, .bool false, .slice none 0 0, .slice none 0 0, .slice none 0 0, .slice none 0 0, .slice none 0 0, .slice none 0 0] 64 (0, 0))) (hlo : lo ≤ bb) : Bk lo w bb 0 :=
  ⟨0, 0, _, _, _, _, _, _, [], [], 0, [], ⟨⟨h, World.ownsRow_nil _ _ _ _, World.ownsRow_nil _ _ _ _, World.ownsRow_nil _ _ _ _, World.ownsRow_nil _ _ _ _, fun x hx => by simp at hx, fun x hx => by simp at hx⟩, ⟨World.ownsRow_nil _ _ _ _, fun x hx => by simp at hx, by simp⟩, ⟨0, [], ⟨World.ownsRow_nil _ _ _ _, fun x hx => by simp at hx⟩, rfl⟩, fun x hx => by simp at hx, fun x hx => by simp at hx, fun x hx => by simp at hx, by simp, fun x hx => by simp at hx, Nat.le_refl _, Nat.le_refl _, by simp, by simp, ⟨hlo, fun g e => (by cases e), fun g e => (by cases e), fun g e => (by cases e), fun g e => (by cases e), fun g e => (by cases e), fun x hx => by simp at hx, fun x hx => by simp at hx⟩⟩⟩
theorem BkS.wereAt {lo : Nat} {w : World} {bb B N came s : Nat} {kv wv vM vO vT vS : Value} {ts : List TE} {ms : List ME} {rows : List (PMail × Nat)} (h : BkS lo w bb B N came kv wv vM vO vT vS ts ms s rows) : MailsAt w wv (rows.map (·.1)) := by
  obtain ⟨s', rowsW, a, b⟩ := h.were
  rw [← b]
  exact a.at
theorem MarkT.touch {ts : List TypeId} {w w' : World} {x : TE} (h : MarkT w x) (ht : Touch ts w w') (hn : 9 ∉ ts) : MarkT w' x := by
  obtain ⟨hz, cur, e, r⟩ := h
  exact ⟨hz, cur, ht.cells e hn, r⟩
theorem MarkMl.touch {ts : List TypeId} {w w' : World} {x : ME} (h : MarkMl w x) (ht : Touch ts w w') (hn : 26 ∉ ts) : MarkMl w' x := by
  obtain ⟨hz, hlt, a, c, e, r⟩ := h
  refine ⟨hz, fun g e => Nat.lt_of_lt_of_le (hlt g e) ht.size, a, c, e, ?_⟩
  rcases r with r | ⟨g, cur, ea, eg, r⟩
  · exact .inl r
  · exact .inr ⟨g, cur, ea, ht.cells eg hn, r⟩
/-- where none of their types is written, the books are as they were -/
theorem Bk.touch {lo : Nat} {tys : List TypeId} {w w' : World} {bb B : Nat} (h : Bk lo w bb B) (ht : Touch tys w w') (hd : ∀ t ∈ tys, t ∉ bkTypes) : Bk lo w' bb B := by
  have nd : ∀ {t : TypeId}, t ∈ bkTypes → t ∉ tys := fun hm h => hd _ h hm
  obtain ⟨N, came, kv, wv, vM, vO, vT, vS, ts, ms, s, rows, h⟩ := h
  refine ⟨N, came, kv, wv, vM, vO, vT, vS, ts, ms, s, rows, ⟨⟨ht.cells h.bk.blk (nd (by decide)), ownsRow_touch ht (nd (by decide)) h.bk.rT, ownsRow_touch ht (nd (by decide)) h.bk.rS, ownsRow_touch ht (nd (by decide)) h.bk.rM, ownsRow_touch ht (nd (by decide)) h.bk.rO, fun x hx => ⟨(h.bk.mt x hx).1.touch ht (nd (by decide)), (h.bk.mt x hx).2⟩, fun x hx => (h.bk.mm x hx).touch ht (nd (by decide))⟩, ⟨ownsRow_touch ht (nd (by decide)) h.kept.row, fun x hx => ownsRow_touch ht (nd (by decide)) (h.kept.tos x hx), h.kept.apart⟩, ?_, h.f1, h.f2, h.f3, h.z1, h.z2, h.n1, h.n2, h.n3, h.n4, h.low⟩⟩
  obtain ⟨s', rowsW, a, b⟩ := h.were
  exact ⟨s', rowsW, a.touch ht (nd (by decide)) (nd (by decide)), b⟩
theorem bkStill_any (lo bb B : Nat) (w : World) (h : Bk lo w bb B) (hB : B ≤ 549755813888) : Calls Tryz.prog 25 #[.pointer (some ⟨bb, 0, none⟩)] w fun e w' => e = .returned (.bool true) ∧ Below w.heap.size w w' := by
  obtain ⟨N, came, kv, wv, vM, vO, vT, vS, ts, ms, s, rows, h⟩ := h
  have h3 := h.n3
  have h4 := h.n4
  have h1 := h.z1
  exact still_any bb N came kv wv vM vO vT vS ts ms _ w h.bk h.kept.at h.wereAt ⟨by rw [List.length_map]; omega, fun m hm => by
    obtain ⟨r, hr, rfl⟩ := List.mem_map.1 hm
    exact (h.z2 r hr).2⟩ (by omega) (by omega)
end Go.Proofs.YtgjjjdccbpjnfaaGreatDoor

/- Plain mathematics: what was read is read again as it was. -/
namespace Go.Proofs.YtgjjjdccbpjnfaaGreatDoor

theorem cutS_nil : cutS [] = none := rfl
theorem cutS_take {l : List UInt8} {c : List UInt8 × List UInt8} (h : cutS l = some c) (n : Nat) : cutS (l.take (8 + c.1.length + n)) = some (c.1, c.2.take n) := by
  have hl := cutS_len h
  have h2 := cutS_drop h
  rw [cut_doc] at h ⊢
  split at h
  · cases h
  · rename_i hn
    simp only [not_or, Nat.not_lt, Classical.not_not] at hn
    injection h with h
    have e1 : c.1 = (l.drop 8).take (be (l.take 4)) := by rw [← h]
    have eN : c.1.length = be (l.take 4) := by rw [e1, List.length_take, List.length_drop]; omega
    have t4 : (l.take (8 + c.1.length + n)).take 4 = l.take 4 := by rw [List.take_take]; congr 1; omega
    have d4 : ((l.take (8 + c.1.length + n)).drop 4).take 4 = (l.drop 4).take 4 := by
      rw [List.drop_take, List.take_take]; congr 1; omega
    have d8 : ((l.take (8 + c.1.length + n)).drop 8).take c.1.length = (l.drop 8).take c.1.length := by
      rw [List.drop_take, List.take_take]; congr 1; omega
    have d9 : ((l.take (8 + c.1.length + n)).drop 8).drop c.1.length = c.2.take n := by
      rw [List.drop_drop, h2, List.drop_take]; congr 1; omega
    rw [t4, d4, ← eN, d8, d9]
    have e1' : (l.drop 8).take c.1.length = c.1 := by rw [eN, ← e1]
    rw [if_neg]
    · rw [e1']
    · simp only [not_or, Nat.not_lt, Classical.not_not]
      refine ⟨by rw [List.length_take]; omega, ?_⟩
      rw [e1', hn.2, ← e1]
theorem readF_ge : ∀ (f : Nat) (S : PStore) (k : Nat) (l : List UInt8), k ≤ (readF f S k l).2
  | 0, S, k, l => Nat.le_refl _
  | f + 1, S, k, l => by
    cases hc : cutS l with
    | none => rw [readF_no hc]; exact Nat.le_refl _
    | some c =>
      cases ht : S.takes c.1 with
      | none => rw [readF_not hc ht]; exact Nat.le_refl _
      | some S' => rw [readF_yes hc ht]; have := readF_ge f S' (k + 8 + c.1.length) c.2; omega
theorem readF_take : ∀ (f : Nat) (S : PStore) (k : Nat) (l : List UInt8) (f' : Nat), (l.take ((readF f S k l).2 - k)).length < f' → readF f' S k (l.take ((readF f S k l).2 - k)) = readF f S k l
  | 0, S, k, l, f', h => by
    obtain ⟨f', rfl⟩ : ∃ g, f' = g + 1 := ⟨f' - 1, by omega⟩
    show readF (f' + 1) S k (l.take (k - k)) = (S, k)
    rw [Nat.sub_self, List.take_zero, readF_no cutS_nil]
  | f + 1, S, k, l, f', h => by
    obtain ⟨f', rfl⟩ : ∃ g, f' = g + 1 := ⟨f' - 1, by omega⟩
    cases hc : cutS l with
    | none =>
      rw [readF_no hc]
      show readF (f' + 1) S k (l.take (k - k)) = (S, k)
      rw [Nat.sub_self, List.take_zero, readF_no cutS_nil]
    | some c =>
      cases ht : S.takes c.1 with
      | none =>
        rw [readF_not hc ht]
        show readF (f' + 1) S k (l.take (k - k)) = (S, k)
        rw [Nat.sub_self, List.take_zero, readF_no cutS_nil]
      | some S' =>
        rw [readF_yes hc ht] at h ⊢
        have hge := readF_ge f S' (k + 8 + c.1.length) c.2
        have hl := cutS_len hc
        obtain ⟨R, hR⟩ : ∃ R, readF f S' (k + 8 + c.1.length) c.2 = R := ⟨_, rfl⟩
        have ih := readF_take f S' (k + 8 + c.1.length) c.2 f'
        rw [hR] at h hge ih ⊢
        have e1 : R.2 - k = 8 + c.1.length + (R.2 - (k + 8 + c.1.length)) := by omega
        rw [e1] at h ⊢
        rw [readF_yes (cutS_take hc _) ht]
        refine ih ?_
        rw [List.length_take] at h ⊢
        omega
theorem readS_take (l : List UInt8) : readS (l.take (readS l).2) = readS l := by
  have h := readF_take (l.length + 1) ⟨[], 0⟩ 0 l ((l.take (readS l).2).length + 1) (by
    show (l.take ((readS l).2 - 0)).length < _
    rw [Nat.sub_zero]; omega)
  rw [Nat.sub_zero] at h
  exact h
end Go.Proofs.YtgjjjdccbpjnfaaGreatDoor

/- The document's post is opened. -/
namespace Go.Proofs.YtgjjjdccbpjnfaaGreatDoor
open Go.RowKit

set_option maxHeartbeats 1000000 in
set_option maxRecDepth 100000 in
theorem refOpen_any (c : Cfg) (vD vN vU vW : Value) (all : List UInt8) (w : World) (h : CfgAt w c vD vN vU vW) (hz : CfgSz c) (hr : CfgRm c) (hl : all.length ≤ 1048576) (hm : mayB c = true) :
    Calls Tryz.prog 43 #[.agg #[.string c.host, vD, vN, vU, .int .i64 c.most, .int .i64 c.size, vW, .int .i64 c.life, .int .i64 c.room], .string (bs all)] w fun e w' => ∃ p A vDue vFails k, e = .returned (.tuple #[.pointer (some ⟨p, 0, none⟩), .int .i64 0]) ∧ PostAt w.heap.size w' p A vDue vFails (List.replicate k (readS all).1.time) (List.replicate k 0) ∧ A[9]? = some (.string (bs (all.take (readS all).2))) ∧ A[10]? = some (.int .i64 (readS all).1.time) ∧ Below w.heap.size w w' := by
  obtain ⟨host, doms, nets, users, most, size, waits, life, room⟩ := c
  have hck := fun w' h' => refCheck_any ⟨host, doms, nets, users, most, size, waits, life, room⟩ vD vN vU vW w' h' hz
  rw [hm] at hck
  have hrd := fun w' => refRead_any all w' hl
  have hsz := readS_len all
  obtain ⟨S, eS⟩ : ∃ S, (readS all).1 = S := ⟨_, rfl⟩
  obtain ⟨M, eM⟩ : ∃ M, (readS all).2 = M := ⟨_, rfl⟩
  rw [eS, eM] at hrd hsz
  rw [eS, eM]
  obtain ⟨aD, cD, eD⟩ := slice_of h.1
  obtain ⟨aN, cN, eN⟩ := slice_of h.2.1
  obtain ⟨aU, cU, eU⟩ := slice_of h.2.2.1
  obtain ⟨aW, cW, eW⟩ := slice_of h.2.2.2
  simp only at eD eN eU eW hck ⊢
  subst eD eN eU eW
  have HA := Lib.hid h
  have HCK := Lib.hid hck
  have HRD := Lib.hid hrd
  have sA := bs_size all
  clear h hck hrd eS eM hm
  go_enter Tryz.func43, Tryz.ntmps43
  go_wp2_with fail
  obtain ⟨b0, hb0⟩ : ∃ b0, w.heap.size = b0 := ⟨_, rfl⟩
  obtain ⟨W0, hW0⟩ : ∃ W0 : World, w.alloc (.cells #[.string host, .slice aD doms.length cD, .slice aN nets.length cN, .slice aU users.length cU, .int .i64 most, .int .i64 size, .slice aW waits.length cW, .int .i64 life, .int .i64 room] 36) = W0 := ⟨_, rfl⟩
  have B0 : Below b0 w W0 := by rw [← hW0]; exact (Below.refl _ _).alloc (by omega) _
  have z0 : W0.heap.size = b0 + 1 := by rw [← hW0, ← hb0]; simp
  have K0 : W0.heap[b0]? = some (.cells #[.string host, .slice aD doms.length cD, .slice aN nets.length cN, .slice aU users.length cU, .int .i64 most, .int .i64 size, .slice aW waits.length cW, .int .i64 life, .int .i64 room] 36 (0, 0)) := by rw [← hW0, ← hb0]; exact heap_alloc_new w _
  have A0 : CfgAt W0 ⟨host, doms, nets, users, most, size, waits, life, room⟩ (.slice aD doms.length cD) (.slice aN nets.length cN) (.slice aU users.length cU) (.slice aW waits.length cW) := HA.out.below (by rw [hb0]; exact B0)
  rw [hW0]
  refine (HCK.out W0 A0).mono ?_
  rintro e w1 ⟨rfl, hb1⟩
  have B1 : Below b0 w w1 := B0.trans (hb1.mono (by omega))
  have K1 : w1.heap[b0]? = some (.cells #[.string host, .slice aD doms.length cD, .slice aN nets.length cN, .slice aU users.length cU, .int .i64 most, .int .i64 size, .slice aW waits.length cW, .int .i64 life, .int .i64 room] 36 (0, 0)) := by rw [hb1.block b0 (by omega)]; exact K0
  have Z1 : b0 + 1 ≤ w1.heap.size := by have := hb1.size; omega
  have HB1 := Lib.hid B1
  have HK1 := Lib.hid K1
  have HRD1 := Lib.hid (HRD.out w1)
  have HB0 := Lib.hid hb0
  have er : errB true = 0 := rfl
  clear hb1 B0 K0 A0 z0 hW0 HCK HRD B1 K1
  rw [er]
  go_wp2_with fail
  refine HRD1.out.mono ?_
  rintro e w2 ⟨q, rfl, hs2, hb2⟩
  obtain ⟨aL, capL, _, qt, hql⟩ := hs2.head
  have B2 : Below b0 w w2 := HB1.out.trans (hb2.mono (by omega))
  have K2 : w2.heap[b0]? = some (.cells #[.string host, .slice aD doms.length cD, .slice aN nets.length cN, .slice aU users.length cU, .int .i64 most, .int .i64 size, .slice aW waits.length cW, .int .i64 life, .int .i64 room] 36 (0, 0)) := by rw [hb2.block b0 (by omega)]; exact HK1.out
  have Z2 : b0 + 1 ≤ w2.heap.size := by have := hb2.size; omega
  have k0 : w2.cell? ⟨b0, 0, none⟩ = some (.string host) := by rw [Lib.cell_of_heap K2]; rfl
  have k1 : w2.cell? ⟨b0, 1, none⟩ = some (.slice aD doms.length cD) := by rw [Lib.cell_of_heap K2]; rfl
  have k2 : w2.cell? ⟨b0, 2, none⟩ = some (.slice aN nets.length cN) := by rw [Lib.cell_of_heap K2]; rfl
  have k3 : w2.cell? ⟨b0, 3, none⟩ = some (.slice aU users.length cU) := by rw [Lib.cell_of_heap K2]; rfl
  have k4 : w2.cell? ⟨b0, 4, none⟩ = some (.int .i64 most) := by rw [Lib.cell_of_heap K2]; rfl
  have k5 : w2.cell? ⟨b0, 5, none⟩ = some (.int .i64 size) := by rw [Lib.cell_of_heap K2]; rfl
  have k6 : w2.cell? ⟨b0, 6, none⟩ = some (.slice aW waits.length cW) := by rw [Lib.cell_of_heap K2]; rfl
  have k7 : w2.cell? ⟨b0, 7, none⟩ = some (.int .i64 life) := by rw [Lib.cell_of_heap K2]; rfl
  have k8 : w2.cell? ⟨b0, 8, none⟩ = some (.int .i64 room) := by rw [Lib.cell_of_heap K2]; rfl
  have hMi : (M : Int) ≤ (all.length : Int) := by omega
  have HB2 := Lib.hid B2
  have HK2 := Lib.hid K2
  clear hs2 hb2 B2 K2 HRD1 HB1 HK1
  go_wp2_with fail
  go_region
  obtain ⟨p, hp⟩ : ∃ p, w2.heap.size = p := ⟨_, rfl⟩
  obtain ⟨A3, eA3⟩ : ∃ A3 : Array Value, A3 = #[.string host, .slice aD doms.length cD, .slice aN nets.length cN, .slice aU users.length cU, .int .i64 most, .int .i64 size, .slice aW waits.length cW, .int .i64 life, .int .i64 room, .string ((bs all).extract 0 M), .int .i64 S.time, .slice none 0 0, .slice none 0 0, .slice none 0 0, .pointer none] := ⟨_, rfl⟩
  rw [← eA3]
  obtain ⟨W3, hW3⟩ : ∃ W3 : World, (w2.alloc (.cells A3 150)).drew = W3 := ⟨_, rfl⟩
  have hP3 : W3.heap[p]? = some (.cells A3 150 (0, 0)) := by rw [← hW3, ← hp]; exact heap_alloc_new w2 _
  have hN3 : But p w2 W3 := by rw [← hW3]; exact ⟨by simp, fun k hk _ => ((Below.refl w2.heap.size w2).alloc (Nat.le_refl _) _).block k hk, ⟨rfl, rfl, rfl⟩⟩
  rw [hW3]
  obtain ⟨r1, r2, r3, r4⟩ := hr
  simp only at r1 r2 r3 r4
  have s3 : A3.size = 15 := by rw [eA3]; rfl
  have g9 : A3[9]? = some (.string ((bs all).extract 0 M)) := by rw [eA3]; rfl
  have g10 : A3[10]? = some (.int .i64 S.time) := by rw [eA3]; rfl
  have g12 : A3[12]? = some (.slice none 0 0) := by rw [eA3]; rfl
  have g13 : A3[13]? = some (.slice none 0 0) := by rw [eA3]; rfl
  rw [hp]
  have HP3 := Lib.hid hP3
  have HN3 := Lib.hid hN3
  have HPP := Lib.hid hp
  clear hP3 hN3 hW3 k0 k1 k2 k3 k4 k5 k6 k7 k8 eA3 hp qt hql
  have hbp : ¬ b0 = p := by have := HPP.out; omega
  have hpb : ¬ p = b0 := by have := HPP.out; omega
  have bw4 : Below w.heap.size w W3 := (by rw [HB0.out]; exact HB2.out.trans (HN3.out.below (by have := HPP.out; omega) (by omega)))
  have cf4 := HA.out.below bw4
  have kb4 : W3.cell? ⟨b0, 1, none⟩ = some (.slice aD doms.length cD) := by
    rw [World.cell?_of_block (HN3.out.block b0 (by omega) hbp), Lib.cell_of_heap HK2.out]; rfl
  have nw4 : (W3.alloc (.cells #[] 9)).heap[W3.heap.size]? = some (.cells #[] 9 (0, 0)) := heap_alloc_new W3 _
  obtain ⟨gg4, cp4, W4a, hr4, ho4, hg4, _⟩ := append_all (P := Tryz.prog) (W3.alloc (.cells #[] 9)) 24 24 9 (.string ⟨#[]⟩) 1 16 Tryz.underlying24 info_str rfl (by decide) (W3.heap.size) nw4 (.slice aD doms.length cD) doms.length (strCellsOf doms) (cf4.1.below ((Below.refl _ _).alloc (Nat.le_refl _) _)) (one_strs doms) (by unfold maxLen; omega) (by omega)
  obtain ⟨hp4a, hp4, hn4⟩ := open_step (j := 1) (v := (.slice (some ⟨gg4, 0, none⟩) doms.length cp4)) HP3.out hg4
  have kc4 : (W3.alloc (.cells #[] 9)).cell? ⟨b0, 1, none⟩ = some (.slice aD doms.length cD) := (((Below.refl W3.heap.size W3).alloc (Nat.le_refl _) _).cell (block_lt kb4)).trans kb4
  have there4 : ∃ u, W4a.cell? ⟨p, 1, none⟩ = some u := by
    rw [Lib.cell_of_heap hp4a]
    exact ⟨_, Array.getElem?_eq_getElem (by first | omega | (simp; omega))⟩
  obtain ⟨u4, tu4⟩ := there4
  have fr4 := Lib.frozen_of_heap hp4a 1
  have HP4 := Lib.hid hp4
  have HN4 := Lib.hid (HN3.out.trans hn4)
  have HR4 := Lib.hid hr4
  clear hp4 hn4 hr4 ho4 hg4 hp4a bw4 cf4 nw4
  have bw5 : Below w.heap.size w (W4a.setCell ⟨p, 1, none⟩ (.slice (some ⟨gg4, 0, none⟩) doms.length cp4)) := (by rw [HB0.out]; exact HB2.out.trans (HN4.out.below (by have := HPP.out; omega) (by omega)))
  have cf5 := HA.out.below bw5
  have kb5 : (W4a.setCell ⟨p, 1, none⟩ (.slice (some ⟨gg4, 0, none⟩) doms.length cp4)).cell? ⟨b0, 2, none⟩ = some (.slice aN nets.length cN) := by
    rw [World.cell?_of_block (HN4.out.block b0 (by omega) hbp), Lib.cell_of_heap HK2.out]; rfl
  have zz5 : (W4a.setCell ⟨p, 1, none⟩ (.slice (some ⟨gg4, 0, none⟩) doms.length cp4)).heap.size = W4a.heap.size := by simp
  have nw5 : ((W4a.setCell ⟨p, 1, none⟩ (.slice (some ⟨gg4, 0, none⟩) doms.length cp4)).alloc (.cells #[] 82)).heap[W4a.heap.size]? = some (.cells #[] 82 (0, 0)) := by
    have h := heap_alloc_new (W4a.setCell ⟨p, 1, none⟩ (.slice (some ⟨gg4, 0, none⟩) doms.length cp4)) (.cells #[] 82)
    rwa [zz5] at h
  obtain ⟨gg5, cp5, W5a, hr5, ho5, hg5, _⟩ := append_all (P := Tryz.prog) ((W4a.setCell ⟨p, 1, none⟩ (.slice (some ⟨gg4, 0, none⟩) doms.length cp4)).alloc (.cells #[] 82)) 32 32 82 (.agg #[.int .i64 0, .int .i64 0]) 2 16 Tryz.underlying32 info_net rfl (by decide) (W4a.heap.size) nw5 (.slice aN nets.length cN) nets.length (netCells nets) (cf5.2.1.below ((Below.refl _ _).alloc (Nat.le_refl _) _)) (one_nets nets) (by unfold maxLen; omega) (by omega)
  obtain ⟨hp5a, hp5, hn5⟩ := open_step (j := 2) (v := (.slice (some ⟨gg5, 0, none⟩) nets.length cp5)) HP4.out (by rw [zz5]; exact hg5)
  have kc5 : ((W4a.setCell ⟨p, 1, none⟩ (.slice (some ⟨gg4, 0, none⟩) doms.length cp4)).alloc (.cells #[] 82)).cell? ⟨b0, 2, none⟩ = some (.slice aN nets.length cN) := (((Below.refl (W4a.setCell ⟨p, 1, none⟩ (.slice (some ⟨gg4, 0, none⟩) doms.length cp4)).heap.size (W4a.setCell ⟨p, 1, none⟩ (.slice (some ⟨gg4, 0, none⟩) doms.length cp4))).alloc (Nat.le_refl _) _).cell (block_lt kb5)).trans kb5
  have there5 : ∃ u, W5a.cell? ⟨p, 2, none⟩ = some u := by
    rw [Lib.cell_of_heap hp5a]
    exact ⟨_, Array.getElem?_eq_getElem (by first | omega | (simp; omega))⟩
  obtain ⟨u5, tu5⟩ := there5
  have fr5 := Lib.frozen_of_heap hp5a 2
  have HP5 := Lib.hid hp5
  have HN5 := Lib.hid (HN4.out.trans hn5)
  have HR5 := Lib.hid hr5
  clear hp5 hn5 hr5 ho5 hg5 hp5a bw5 cf5 nw5 zz5
  have bw6 : Below w.heap.size w (W5a.setCell ⟨p, 2, none⟩ (.slice (some ⟨gg5, 0, none⟩) nets.length cp5)) := (by rw [HB0.out]; exact HB2.out.trans (HN5.out.below (by have := HPP.out; omega) (by omega)))
  have cf6 := HA.out.below bw6
  have kb6 : (W5a.setCell ⟨p, 2, none⟩ (.slice (some ⟨gg5, 0, none⟩) nets.length cp5)).cell? ⟨b0, 3, none⟩ = some (.slice aU users.length cU) := by
    rw [World.cell?_of_block (HN5.out.block b0 (by omega) hbp), Lib.cell_of_heap HK2.out]; rfl
  have zz6 : (W5a.setCell ⟨p, 2, none⟩ (.slice (some ⟨gg5, 0, none⟩) nets.length cp5)).heap.size = W5a.heap.size := by simp
  have nw6 : ((W5a.setCell ⟨p, 2, none⟩ (.slice (some ⟨gg5, 0, none⟩) nets.length cp5)).alloc (.cells #[] 56)).heap[W5a.heap.size]? = some (.cells #[] 56 (0, 0)) := by
    have h := heap_alloc_new (W5a.setCell ⟨p, 2, none⟩ (.slice (some ⟨gg5, 0, none⟩) nets.length cp5)) (.cells #[] 56)
    rwa [zz6] at h
  obtain ⟨gg6, cp6, W6a, hr6, ho6, hg6, _⟩ := append_all (P := Tryz.prog) ((W5a.setCell ⟨p, 2, none⟩ (.slice (some ⟨gg5, 0, none⟩) nets.length cp5)).alloc (.cells #[] 56)) 33 33 56 (.agg #[.string ⟨#[]⟩, .string ⟨#[]⟩]) 2 32 Tryz.underlying33 info_user rfl (by decide) (W5a.heap.size) nw6 (.slice aU users.length cU) users.length (userCells users) (cf6.2.2.1.below ((Below.refl _ _).alloc (Nat.le_refl _) _)) (one_users users) (by unfold maxLen; omega) (by omega)
  obtain ⟨hp6a, hp6, hn6⟩ := open_step (j := 3) (v := (.slice (some ⟨gg6, 0, none⟩) users.length cp6)) HP5.out (by rw [zz6]; exact hg6)
  have kc6 : ((W5a.setCell ⟨p, 2, none⟩ (.slice (some ⟨gg5, 0, none⟩) nets.length cp5)).alloc (.cells #[] 56)).cell? ⟨b0, 3, none⟩ = some (.slice aU users.length cU) := (((Below.refl (W5a.setCell ⟨p, 2, none⟩ (.slice (some ⟨gg5, 0, none⟩) nets.length cp5)).heap.size (W5a.setCell ⟨p, 2, none⟩ (.slice (some ⟨gg5, 0, none⟩) nets.length cp5))).alloc (Nat.le_refl _) _).cell (block_lt kb6)).trans kb6
  have there6 : ∃ u, W6a.cell? ⟨p, 3, none⟩ = some u := by
    rw [Lib.cell_of_heap hp6a]
    exact ⟨_, Array.getElem?_eq_getElem (by first | omega | (simp; omega))⟩
  obtain ⟨u6, tu6⟩ := there6
  have fr6 := Lib.frozen_of_heap hp6a 3
  have HP6 := Lib.hid hp6
  have HN6 := Lib.hid (HN5.out.trans hn6)
  have HR6 := Lib.hid hr6
  clear hp6 hn6 hr6 ho6 hg6 hp6a bw6 cf6 nw6 zz6
  have bw7 : Below w.heap.size w (W6a.setCell ⟨p, 3, none⟩ (.slice (some ⟨gg6, 0, none⟩) users.length cp6)) := (by rw [HB0.out]; exact HB2.out.trans (HN6.out.below (by have := HPP.out; omega) (by omega)))
  have cf7 := HA.out.below bw7
  have kb7 : (W6a.setCell ⟨p, 3, none⟩ (.slice (some ⟨gg6, 0, none⟩) users.length cp6)).cell? ⟨b0, 6, none⟩ = some (.slice aW waits.length cW) := by
    rw [World.cell?_of_block (HN6.out.block b0 (by omega) hbp), Lib.cell_of_heap HK2.out]; rfl
  have zz7 : (W6a.setCell ⟨p, 3, none⟩ (.slice (some ⟨gg6, 0, none⟩) users.length cp6)).heap.size = W6a.heap.size := by simp
  have nw7 : ((W6a.setCell ⟨p, 3, none⟩ (.slice (some ⟨gg6, 0, none⟩) users.length cp6)).alloc (.cells #[] 3)).heap[W6a.heap.size]? = some (.cells #[] 3 (0, 0)) := by
    have h := heap_alloc_new (W6a.setCell ⟨p, 3, none⟩ (.slice (some ⟨gg6, 0, none⟩) users.length cp6)) (.cells #[] 3)
    rwa [zz7] at h
  obtain ⟨gg7, cp7, W7a, hr7, ho7, hg7, _⟩ := append_all (P := Tryz.prog) ((W6a.setCell ⟨p, 3, none⟩ (.slice (some ⟨gg6, 0, none⟩) users.length cp6)).alloc (.cells #[] 3)) 34 34 3 (.int .i64 0) 1 8 Tryz.underlying34 info_int rfl (by decide) (W6a.heap.size) nw7 (.slice aW waits.length cW) waits.length (intCells waits) (cf7.2.2.2.below ((Below.refl _ _).alloc (Nat.le_refl _) _)) (one_ints waits) (by unfold maxLen; omega) (by omega)
  obtain ⟨hp7a, hp7, hn7⟩ := open_step (j := 6) (v := (.slice (some ⟨gg7, 0, none⟩) waits.length cp7)) HP6.out (by rw [zz7]; exact hg7)
  have kc7 : ((W6a.setCell ⟨p, 3, none⟩ (.slice (some ⟨gg6, 0, none⟩) users.length cp6)).alloc (.cells #[] 3)).cell? ⟨b0, 6, none⟩ = some (.slice aW waits.length cW) := (((Below.refl (W6a.setCell ⟨p, 3, none⟩ (.slice (some ⟨gg6, 0, none⟩) users.length cp6)).heap.size (W6a.setCell ⟨p, 3, none⟩ (.slice (some ⟨gg6, 0, none⟩) users.length cp6))).alloc (Nat.le_refl _) _).cell (block_lt kb7)).trans kb7
  have there7 : ∃ u, W7a.cell? ⟨p, 6, none⟩ = some u := by
    rw [Lib.cell_of_heap hp7a]
    exact ⟨_, Array.getElem?_eq_getElem (by first | omega | (simp; omega))⟩
  obtain ⟨u7, tu7⟩ := there7
  have fr7 := Lib.frozen_of_heap hp7a 6
  have HP7 := Lib.hid hp7
  have HN7 := Lib.hid (HN6.out.trans hn7)
  have HR7 := Lib.hid hr7
  clear hp7 hn7 hr7 ho7 hg7 hp7a bw7 cf7 nw7 zz7
  go_wp2_with (first
    | (at_builtin; refine wpList_append_run rfl _ _ 24 rfl _ _ (.slice (some ⟨gg4, 0, none⟩) doms.length cp4) W4a rfl rfl HR4.out ?_)
    | (at_builtin; refine wpList_append_run rfl _ _ 32 rfl _ _ (.slice (some ⟨gg5, 0, none⟩) nets.length cp5) W5a rfl rfl HR5.out ?_)
    | (at_builtin; refine wpList_append_run rfl _ _ 33 rfl _ _ (.slice (some ⟨gg6, 0, none⟩) users.length cp6) W6a rfl rfl HR6.out ?_)
    | (at_builtin; refine wpList_append_run rfl _ _ 34 rfl _ _ (.slice (some ⟨gg7, 0, none⟩) waits.length cp7) W7a rfl rfl HR7.out ?_)
    | fail)
  have hP := HP7.out
  have hN := HN7.out
  obtain ⟨W7, eW7⟩ : ∃ W7 : World, W7a.setCell ⟨p, 6, none⟩ (.slice (some ⟨gg7, 0, none⟩) waits.length cp7) = W7 := ⟨_, rfl⟩
  rw [eW7] at hP hN
  rw [eW7]
  obtain ⟨A7, eA7⟩ : ∃ A7 : Array Value, ((((A3.setIfInBounds 1 (.slice (some ⟨gg4, 0, none⟩) doms.length cp4)).setIfInBounds 2 (.slice (some ⟨gg5, 0, none⟩) nets.length cp5)).setIfInBounds 3 (.slice (some ⟨gg6, 0, none⟩) users.length cp6)).setIfInBounds 6 (.slice (some ⟨gg7, 0, none⟩) waits.length cp7)) = A7 := ⟨_, rfl⟩
  rw [eA7] at hP
  have same7 : ∀ i, i ≠ 1 → i ≠ 2 → i ≠ 3 → i ≠ 6 → A7[i]? = A3[i]? := fun i h1 h2 h3 h6 => by
    rw [← eA7, Array.getElem?_setIfInBounds_ne (Ne.symm h6), Array.getElem?_setIfInBounds_ne (Ne.symm h3), Array.getElem?_setIfInBounds_ne (Ne.symm h2), Array.getElem?_setIfInBounds_ne (Ne.symm h1)]
  have hs7 : A7.size = 15 := by rw [← eA7]; simp [s3]
  have hb7 : Below b0 w W7 := HB2.out.trans (hN.below (by have := HPP.out; omega) (by omega))
  have hpost : PostAt b0 W7 p A7 (.slice none 0 0) (.slice none 0 0) [] [] := ⟨by have := HPP.out; omega, hP, hs7, by rw [same7 12 (by decide) (by decide) (by decide) (by decide)]; exact g12, by rw [same7 13 (by decide) (by decide) (by decide) (by decide)]; exact g13, World.ownsRow_nil _ _ _ _, World.ownsRow_nil _ _ _ _, .inl rfl⟩
  have q9 : A7[9]? = some (.string (bs (all.take M))) := by
    rw [same7 9 (by decide) (by decide) (by decide) (by decide), g9, bs_extract, List.drop_zero]
  have q10 : A7[10]? = some (.int .i64 S.time) := by
    rw [same7 10 (by decide) (by decide) (by decide) (by decide), g10]
  have hdu := refDues_any b0 p S.time A7 (all.take M) _ _ [] [] W7 hpost q9 q10 (by rw [List.length_take]; omega) (by simp) rfl
  have HB7 := Lib.hid hb7
  have HQ9 := Lib.hid q9
  have HQ10 := Lib.hid q10
  clear hP hN eW7 eA7 same7 hs7 hb7 hpost q9 q10 HP4 HP5 HP6 HP7 HN4 HN5 HN6 HN7 HR4 HR5 HR6 HR7 kb4 kb5 kb6 kb7 kc4 kc5 kc6 kc7 tu4 tu5 tu6 tu7 fr4 fr5 fr6 fr7 g9 g10 g12 g13
  refine hdu.mono ?_
  rintro e w8 ⟨A', vD', vF', k, rfl, d1, d2, _, d4⟩
  have HD1 := Lib.hid d1
  have HD2 := Lib.hid d2
  have HD4 := Lib.hid (HB7.out.trans d4)
  clear d1 d2 d4 hdu
  go_wp2_with fail
  go_ret2
  refine ⟨p, A', vD', vF', k, rfl, ?_, ?_, ?_, ?_⟩
  · rw [HB0.out]; simpa using HD1.out
  · rw [HD2.out 9 (by decide) (by decide)]; exact HQ9.out
  · rw [HD2.out 10 (by decide) (by decide)]; exact HQ10.out
  · rw [HB0.out]; exact HD4.out

set_option maxHeartbeats 400000 in
set_option maxRecDepth 100000 in
theorem refOpen_no (c : Cfg) (vD vN vU vW : Value) (all : List UInt8) (w : World) (h : CfgAt w c vD vN vU vW) (hz : CfgSz c) (hm : mayB c = false) :
    Calls Tryz.prog 43 #[.agg #[.string c.host, vD, vN, vU, .int .i64 c.most, .int .i64 c.size, vW, .int .i64 c.life, .int .i64 c.room], .string (bs all)] w fun e w' => e = .returned (.tuple #[.pointer none, .int .i64 2]) ∧ Below w.heap.size w w' := by
  obtain ⟨host, doms, nets, users, most, size, waits, life, room⟩ := c
  have hck := fun w' h' => refCheck_any ⟨host, doms, nets, users, most, size, waits, life, room⟩ vD vN vU vW w' h' hz
  rw [hm] at hck
  obtain ⟨aD, cD, eD⟩ := slice_of h.1
  obtain ⟨aN, cN, eN⟩ := slice_of h.2.1
  obtain ⟨aU, cU, eU⟩ := slice_of h.2.2.1
  obtain ⟨aW, cW, eW⟩ := slice_of h.2.2.2
  simp only at eD eN eU eW hck ⊢
  subst eD eN eU eW
  have HA := Lib.hid h
  have HCK := Lib.hid hck
  clear h hck hm
  go_enter Tryz.func43, Tryz.ntmps43
  go_wp2_with fail
  have B0 : Below w.heap.size w (w.alloc (.cells #[.string host, .slice aD doms.length cD, .slice aN nets.length cN, .slice aU users.length cU, .int .i64 most, .int .i64 size, .slice aW waits.length cW, .int .i64 life, .int .i64 room] 36)) := (Below.refl _ _).alloc (Nat.le_refl _) _
  refine (HCK.out _ (HA.out.below B0)).mono ?_
  rintro e w1 ⟨rfl, hb1⟩
  have HB1 := Lib.hid (B0.trans (hb1.mono (by simp)))
  have er : errB false = 2 := rfl
  clear hb1 B0 HCK
  rw [er]
  go_wp2_with fail
  go_ret2
  exact ⟨rfl, HB1.out⟩
end Go.Proofs.YtgjjjdccbpjnfaaGreatDoor

/- What is asked of the document's post: Kept, Queue. -/
namespace Go.Proofs.YtgjjjdccbpjnfaaGreatDoor
open Go.RowKit

/-- the document's post at p holds these records -/
def RefHas (w : World) (p : Nat) (l : List UInt8) : Prop := ∃ A : Array Value, w.heap[p]? = some (.cells A 150 (0, 0)) ∧ A[9]? = some (.string (bs l))
theorem RefHas.below {w w' : World} {p : Nat} {l : List UInt8} (h : RefHas w p l) (hb : Below w.heap.size w w') : RefHas w' p l := by
  obtain ⟨A, h1, h2⟩ := h
  exact ⟨A, (hb.block p (heap_lt h1)).trans h1, h2⟩
theorem RefHas.touch {w w' : World} {p : Nat} {l : List UInt8} {ts : List TypeId} (h : RefHas w p l) (ht : Touch ts w w') (hn : 150 ∉ ts) : RefHas w' p l := by
  obtain ⟨A, h1, h2⟩ := h
  exact ⟨A, ht.cells h1 hn, h2⟩

set_option maxHeartbeats 400000 in
set_option maxRecDepth 100000 in
theorem refPostKept_any (p : Nat) (l : List UInt8) (w : World) (h : RefHas w p l) :
    Calls Tryz.prog 44 #[.pointer (some ⟨p, 0, none⟩)] w fun e w' => e = .returned (.tuple #[.string (bs l), .int .i64 0]) ∧ Below w.heap.size w w' := by
  obtain ⟨A, h1, h2⟩ := h
  have k9 : w.cell? ⟨p, 9, none⟩ = some (.string (bs l)) := by rw [Lib.cell_of_heap h1]; exact h2
  clear h1 h2
  go_enter Tryz.func44, Tryz.ntmps44
  go_wp2_with fail
  go_ret2
  exact ⟨rfl, Below.refl _ _⟩
set_option maxHeartbeats 400000 in
set_option maxRecDepth 100000 in
theorem refPostKept_nil (w : World) :
    Calls Tryz.prog 44 #[.pointer none] w fun e w' => e = .returned (.tuple #[.string (bs []), .int .i64 1]) ∧ Below w.heap.size w w' := by
  go_enter Tryz.func44, Tryz.ntmps44
  go_wp2_with fail
  go_ret2
  exact ⟨rfl, Below.refl _ _⟩
set_option maxHeartbeats 400000 in
set_option maxRecDepth 100000 in
theorem refPostQueue_any (p : Nat) (l : List UInt8) (w : World) (h : RefHas w p l) (hl : l.length ≤ 1048576) :
    Calls Tryz.prog 45 #[.pointer (some ⟨p, 0, none⟩)] w fun e w' => ∃ v, e = .returned (.tuple #[v, .int .i64 0]) ∧ MailsAt w' v (queueL (readS l).1.items) ∧ Below w.heap.size w w' := by
  obtain ⟨A, h1, h2⟩ := h
  have k9 : w.cell? ⟨p, 9, none⟩ = some (.string (bs l)) := by rw [Lib.cell_of_heap h1]; exact h2
  have hq := refQueue_any l w hl
  clear h1 h2
  go_enter Tryz.func45, Tryz.ntmps45
  go_wp2_with fail
  refine hq.mono ?_
  rintro e w1 ⟨v, rfl, h1, h2⟩
  have H1 := Lib.hid h1
  have H2 := Lib.hid h2
  obtain ⟨a, c, rfl⟩ : ∃ a c, v = .slice a (queueL (readS l).1.items).length c := by
    obtain ⟨ls, e, hr, _⟩ := h1
    obtain ⟨a, c, e2⟩ := slice_of hr
    exact ⟨a, c, by rw [← e, List.length_map]; exact e2⟩
  clear h1 h2 hq
  go_wp2_with fail
  go_ret2
  exact ⟨_, rfl, H1.out, H2.out⟩
set_option maxHeartbeats 400000 in
set_option maxRecDepth 100000 in
theorem refPostQueue_nil (w : World) :
    Calls Tryz.prog 45 #[.pointer none] w fun e w' => e = .returned (.tuple #[.slice none 0 0, .int .i64 1]) ∧ Below w.heap.size w w' := by
  go_enter Tryz.func45, Tryz.ntmps45
  go_wp2_with fail
  go_ret2
  exact ⟨rfl, Below.refl _ _⟩
end Go.Proofs.YtgjjjdccbpjnfaaGreatDoor
