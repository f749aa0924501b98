import Derived.Test.YtgjjjdccbpjnfaaGreatDoorS13

/- The document's queue of what is kept. -/
namespace Go.Proofs.YtgjjjdccbpjnfaaGreatDoor
open Go.RowKit

/-- a mail as it is told: with those who are still there -/
def PItem.now (x : PItem) : PMail := ⟨x.m.id, x.m.time, x.m.frm, (leftOf x.out x.out.length).map fun i => x.m.tos.getD i [], x.m.body⟩
def queueL (l : List PItem) : List PMail := (l.map PItem.now).filter fun m => !m.tos.isEmpty
theorem queueL_snoc (l : List PItem) (x : PItem) : queueL (l ++ [x]) = queueL l ++ (if x.now.tos.isEmpty then [] else [x.now]) := by
  unfold queueL
  rw [List.map_append, List.filter_append]
  cases h : x.now.tos.isEmpty <;> simp [h]
/-- mails in a row, each with the list of its recipients -/
def mailRow (l : List (PMail × Value)) : List Value := l.flatMap fun x => (mailCells x.1 x.2).toList
theorem mailRow_snoc (l : List (PMail × Value)) (x : PMail × Value) : mailRow (l ++ [x]) = mailRow l ++ (mailCells x.1 x.2).toList := by
  simp [mailRow]
/-- mails that can be read -/
def MailsAt (w : World) (v : Value) (ms : List PMail) : Prop :=
  ∃ l : List (PMail × Value), l.map (·.1) = ms ∧ RowAt w v l.length 5 (mailRow l) ∧ ∀ x ∈ l, RowAt w x.2 x.1.tos.length 1 (textCells x.1.tos)
/-- mails in memory of their own -/
def MailsIn (base : Nat) (w : World) (v : Value) (l : List (PMail × Value)) : Prop :=
  w.ownsRow base 26 5 v l.length (mailRow l) ∧ ∀ x ∈ l, w.ownsRow base 9 1 x.2 x.1.tos.length (textCells x.1.tos)
theorem info_mail : (Tryz.prog.info? 26).map (fun i => (i.zero, i.size, i.bytes)) = some (some (.agg #[.int .i64 0, .int .i64 0, .string ⟨#[]⟩, .slice none 0 0, .string ⟨#[]⟩]), 5, 72) := by kernel_rfl
theorem row_of_own' {w : World} {base n sz : Nat} {e : TypeId} {v : Value} {xs : List Value} (h : w.ownsRow base e sz v n xs) : RowAt w v n sz xs := by
  refine ⟨h.1, ?_⟩
  rcases h.2 with ⟨e1, h0⟩ | ⟨g, cp, cur, e1, _, hg, hle, _, _, htk⟩
  · exact .inl ⟨h0, none, 0, e1⟩
  · refine .inr ⟨g, 0, cp, e1, hle, fun j hj => ?_⟩
    rw [Nat.zero_add, Lib.cell_of_heap hg, ← Array.getElem?_toList, ← List.getElem?_take_of_lt hj, htk]
theorem MailsIn.at {base : Nat} {w : World} {v : Value} {l : List (PMail × Value)} (h : MailsIn base w v l) : MailsAt w v (l.map (·.1)) :=
  ⟨l, rfl, row_of_own' h.1, fun x hx => row_of_own' (h.2 x hx)⟩
theorem MailsIn.touch {base : Nat} {w w' : World} {v : Value} {l : List (PMail × Value)} {ts : List TypeId} (h : MailsIn base w v l) (ht : Touch ts w w') (h1 : 26 ∉ ts) (h2 : 9 ∉ ts) : MailsIn base w' v l :=
  ⟨ownsRow_touch ht h1 h.1, fun x hx => ownsRow_touch ht h2 (h.2 x hx)⟩

/-- one entry of the store, cell by cell -/
structure Entry (base : Nat) (w : World) (p K n : Nat) (x : PItem) (g cL gt ct bo : Nat) : Prop where
  head : w.cell? ⟨p, 0, none⟩ = some (.slice (some ⟨g, 0, none⟩) n cL)
  k0 : w.cell? ⟨g, K * 6, none⟩ = some (.int .i64 x.m.id)
  k1 : w.cell? ⟨g, K * 6 + 1, none⟩ = some (.int .i64 x.m.time)
  k2 : w.cell? ⟨g, K * 6 + 2, none⟩ = some (.string (bs x.m.frm))
  k3 : w.cell? ⟨g, K * 6 + 3, none⟩ = some (.slice (some ⟨gt, 0, none⟩) x.m.tos.length ct)
  k4 : w.cell? ⟨g, K * 6 + 4, none⟩ = some (.string (bs x.m.body))
  k5 : w.cell? ⟨g, K * 6 + 5, none⟩ = some (.slice (some ⟨bo, 0, none⟩) x.out.length x.out.length)
  item : ItemIn base w (x, .slice (some ⟨gt, 0, none⟩) x.m.tos.length ct, bo)
theorem StoreIn.entry {base p K : Nat} {S : PStore} {w : World} (h : StoreIn base w p S) (hK : K < S.items.length) : ∃ g cL gt ct bo, Entry base w p K S.items.length S.items[K] g cL gt ct bo := by
  obtain ⟨vL, l, hl, hp, hP, hrow, hnd, hit⟩ := h
  have hlen : S.items.length = l.length := by rw [← hl, List.length_map]
  have hKl : K < l.length := by omega
  have hx1 : l[K].1 = S.items[K] := by
    have : (l.map (·.1))[K]'(by simpa using hKl) = S.items[K] := by simp only [hl]
    simpa using this
  have hI := hit l[K] (List.getElem_mem hKl)
  obtain ⟨gt, ct, et⟩ : ∃ gt ct, l[K].2.1 = .slice (some ⟨gt, 0, none⟩) l[K].1.m.tos.length ct := by
    rcases hI.1.2 with ⟨_, h0⟩ | ⟨g, cp, cur, e, _⟩
    · have := hI.2.2.2.2.1; omega
    · exact ⟨g, cp, e⟩
  rcases hrow.2 with ⟨_, h0⟩ | ⟨g, cL, cur, e, _, hg, hle, _, _, htk⟩
  · omega
  · subst e
    have hc : ∀ i, i < 6 → w.cell? ⟨g, K * 6 + i, none⟩ = (itemCells l[K])[i]? := fun i hi => by
      rw [Lib.cell_of_heap hg, ← Array.getElem?_toList, ← List.getElem?_take_of_lt (show K * 6 + i < l.length * 6 by omega), htk, rowCells_at l K i hKl hi]
    have c0 := hc 0 (by decide)
    have c1 := hc 1 (by decide)
    have c2 := hc 2 (by decide)
    have c3 := hc 3 (by decide)
    have c4 := hc 4 (by decide)
    have c5 := hc 5 (by decide)
    simp only [itemCells, List.getElem?_cons_zero, List.getElem?_cons_succ, Nat.add_zero, et, hx1] at c0 c1 c2 c3 c4 c5
    refine ⟨g, cL, gt, ct, l[K].2.2, ?_, c0, c1, c2, c3, c4, c5, ?_⟩
    · rw [hlen, Lib.cell_of_heap hP]; rfl
    · have e : (S.items[K], Value.slice (some ⟨gt, 0, none⟩) S.items[K].m.tos.length ct, l[K].2.2) = l[K] := by
        rw [← hx1, ← et]
      rw [e]
      exact hI

structure QueueNext (wo w11 : World) (q id time : Nat) (frm body : List UInt8) (v vl : Value) (n : Nat) (xs : List Value) (k : Nat) (Ts : List (List UInt8)) : Prop where
  mail : MailAt w11 q id time frm v body
  own : w11.ownsRow (q + 1) 9 1 v k (textCells Ts)
  ints : w11.ownsRow (q + 1) 3 1 vl n xs
  below : Below q wo w11
  size : q + 1 ≤ w11.heap.size
theorem queue_step {wo w9 w10 : World} {q id time n k : Nat} {frm body t : List UInt8} {v v' vl : Value} {xs : List Value} {Ts : List (List UInt8)} {o : Obj} (M9 : MailAt w9 q id time frm v body) (O9 : w9.ownsRow (q + 1) 9 1 v k (textCells Ts)) (I9 : w9.ownsRow (q + 1) 3 1 vl n xs) (B9 : Below q wo w9) (Z9 : q + 1 ≤ w9.heap.size)
    (hown : w10.ownsRow (q + 1) 9 1 v' (k + 1) (textCells Ts ++ [.string (bs t)])) (hgrow : (w9.alloc o).drew.grownBy w10 v.ownBlock) :
    QueueNext wo (w10.setCell ⟨q, 3, none⟩ v') q id time frm body v' vl n xs (k + 1) (Ts ++ [t]) := by
  have hrow : ∀ j, v.ownBlock = some j → q + 1 ≤ j := fun j hj => (O9.lt j hj).1
  have hsz : q + 1 ≤ w10.heap.size := by have := hgrow.size; simp at this; omega
  have hB : Below w9.heap.size w9 (w9.alloc o).drew := ((Below.refl _ _).alloc (Nat.le_refl _) o).drew
  have hM : w10.heap[q]? = some (.cells #[.int .i64 id, .int .i64 time, .string (bs frm), v, .string (bs body)] 26 (0, 0)) := by
    rw [hgrow.block q (by simp; omega) (fun e => by have := hrow _ e.symm; omega), hB.block q (by omega)]
    exact M9
  have hS : Same q w10 (w10.setCell ⟨q, 3, none⟩ v') := (Same.refl _ _).setCell _
  refine ⟨heap_setCell_same w10 q 3 _ _ v' hM, ?_, ?_, ?_, ?_⟩
  · rw [show textCells (Ts ++ [t]) = textCells Ts ++ [.string (bs t)] by simp [textCells]]
    exact ownsRow_same hown hS (by omega)
  · refine ownsRow_same ?_ hS (by omega)
    refine ((I9.alloc o).drew).kept hgrow ?_
    rcases I9.2 with ⟨e, _⟩ | ⟨g, cap, cur, e, _, hg, _⟩
    · subst e; exact .inl rfl
    · refine .inr fun e2 => ?_
      rcases O9.2 with ⟨e1, _⟩ | ⟨g', cap', cur', e1, _, hg', _⟩
      · rw [e1, e] at e2; cases e2
      · rw [e1, e] at e2
        injection e2 with e2
        exact tag_ne hg hg' (by decide) e2
  · exact (((B9.trans (hB.mono (by omega))).grown hgrow (by simp; omega) (fun j hj => by have := hrow j hj; omega))).trans (hS.below (Nat.le_refl _))
  · rw [hS.1]; exact hsz

theorem queue_put {z : Nat} {w1 w9 w10 : World} {v v' vt : Value} {rows : List (PMail × Value)} {m : PMail} {o : Obj} (hT : ∀ x ∈ rows, w9.ownsRow z 9 1 x.2 x.1.tos.length (textCells x.1.tos)) (M9 : w9.ownsRow z 26 5 v rows.length (mailRow rows)) (V9 : w9.ownsRow z 9 1 vt m.tos.length (textCells m.tos)) (B9 : Below z w1 w9) (hz : z ≤ w9.heap.size)
    (hown : w10.ownsRow z 26 5 v' (rows.length + 1) (mailRow rows ++ (mailCells m vt).toList)) (hgrow : (w9.alloc o).grownBy w10 v.ownBlock) : MailsIn z w10 v' (rows ++ [(m, vt)]) ∧ Below z w1 w10 := by
  have far : ∀ (u : Value) (n : Nat) (xs : List Value), w9.ownsRow z 9 1 u n xs → w10.ownsRow z 9 1 u n xs := fun u n xs h => by
    refine (h.alloc o).kept hgrow ?_
    rcases h.2 with ⟨e, _⟩ | ⟨g, cap, cur, e, _, hg, _⟩
    · subst e; exact .inl rfl
    · refine .inr fun e2 => ?_
      rcases M9.2 with ⟨e1, _⟩ | ⟨g', cap', cur', e1, _, hg', _⟩
      · rw [e1, e] at e2; cases e2
      · rw [e1, e] at e2
        injection e2 with e2
        exact tag_ne hg hg' (by decide) e2
  refine ⟨⟨?_, fun x hx => ?_⟩, ?_⟩
  · rw [List.length_append, mailRow_snoc]; exact hown
  · rcases List.mem_append.1 hx with hx | hx
    · exact far _ _ _ (hT x hx)
    · simp only [List.mem_singleton] at hx
      subst hx
      exact far _ _ _ V9
  · exact (B9.alloc hz o).grown hgrow (by simp; omega) (fun j hj => (M9.lt j hj).1)

set_option maxHeartbeats 1000000 in
set_option maxRecDepth 100000 in
theorem refQueue_any (l : List UInt8) (w : World) (hl : l.length ≤ 1048576) :
    Calls Tryz.prog 84 #[.string (bs l)] w fun e w' => ∃ v, e = .returned v ∧ MailsAt w' v (queueL (readS l).1.items) ∧ Below w.heap.size w w' := by
  obtain ⟨im, him, hzm0, hzm1, hzm2⟩ := info_parts info_mail
  obtain ⟨is, his, hzs0, hzs1, hzs2⟩ := info_parts info_str'
  have hrd := refRead_any l w hl
  have hsz := readS_len l
  obtain ⟨S, eS⟩ : ∃ S, (readS l).1 = S := ⟨_, rfl⟩
  rw [eS] at hrd hsz
  rw [eS]
  clear eS
  go_enter Tryz.func84, Tryz.ntmps84
  go_wp2_with fail
  refine hrd.mono ?_
  rintro e w1 ⟨p, rfl, h1, h2⟩
  have HS1 := Lib.hid h1
  have HB1 := Lib.hid h2
  clear h1 h2 hrd
  go_wp2_with fail
  obtain ⟨z, hz⟩ : ∃ z, w1.heap.size = z := ⟨_, rfl⟩
  have HZ := Lib.hid hz
  go_loopw [5, 6] (fun v i w' => ∃ (k : Nat) (rows : List (PMail × Value)), k ≤ S.items.length ∧ i = .int .i64 k ∧ rows.length ≤ k ∧ Hid (rows.map (·.1) = queueL (S.items.take k)) ∧ Hid (MailsIn z w' v rows) ∧ Hid (Below z w1 w')) (fun _ i _ => S.items.length - (intOf i).toNat)
  case atStart => exact ⟨0, [], Nat.zero_le _, rfl, Nat.le_refl _, Lib.hid (by simp [queueL]), Lib.hid ⟨World.ownsRow_nil _ _ _ _, fun x hx => by cases hx⟩, Lib.hid (Below.refl _ _)⟩
  case round =>
    obtain ⟨k, rows, hk, rfl, hrl, HQ, HM, HB⟩ := hrel
    obtain ⟨wo, hwo⟩ : ∃ wo : World, wo = wr := ⟨_, rfl⟩
    subst hwo
    have HSr : Hid (StoreIn w.heap.size wo p S) := Lib.hid (HS1.out.touch (Touch.below (ts := []) (by rw [hz]; exact HB.out)) (by simp) (by simp) (by simp) (by simp))
    have hzr : z ≤ wo.heap.size := by have := HB.out.size; omega
    clear hz
    by_cases hlt : k < S.items.length
    · have hlti : (k : Int) < (S.items.length : Int) := by omega
      obtain ⟨g, cL, gt, ct, bo, E⟩ := HSr.out.entry hlt
      have HTK : Hid (S.items.take (k + 1) = S.items.take k ++ [S.items[k]]) := Lib.hid (List.take_succ_eq_append_getElem hlt)
      obtain ⟨x, ex⟩ : ∃ x, S.items[k] = x := ⟨_, rfl⟩
      rw [ex] at E HTK
      clear ex
      obtain ⟨⟨id, time, frm, tos, body⟩, out⟩ := x
      obtain ⟨e0, a0, a1, a2, a3, a4, a5, hI⟩ := E
      simp only at a0 a1 a2 a3 a4 a5
      have HI := Lib.hid hI
      have up : ∀ (o : Obj) (b j : Nat) (v : Value), wo.cell? ⟨b, j, none⟩ = some v → (wo.alloc o).cell? ⟨b, j, none⟩ = some v := fun o b j v h => (((Below.refl wo.heap.size wo).alloc (Nat.le_refl _) o).cell (block_lt h)).trans h
      have b0 := fun o => up o _ _ _ e0
      have c0 := fun o => up o _ _ _ a0
      have c1 := fun o => up o _ _ _ a1
      have c2 := fun o => up o _ _ _ a2
      have c3 := fun o => up o _ _ _ a3
      have c4 := fun o => up o _ _ _ a4
      have c5 := fun o => up o _ _ _ a5
      clear hI up
      obtain ⟨q, hq⟩ : ∃ q, wo.heap.size = q := ⟨_, rfl⟩
      obtain ⟨W2, hW2⟩ : ∃ W2 : World, wo.alloc (.cells #[.int .i64 id, .int .i64 time, .string (bs frm), .slice (some ⟨gt, 0, none⟩) tos.length ct, .string (bs body)] 26) = W2 := ⟨_, rfl⟩
      have hM2 : MailAt W2 q id time frm (.slice (some ⟨gt, 0, none⟩) tos.length ct) body := by rw [← hW2, ← hq]; exact heap_alloc_new wo _
      have hB2 : Below q wo W2 := by rw [← hW2]; exact (Below.refl _ _).alloc (by omega) _
      have hq2 : W2.heap.size = q + 1 := by rw [← hW2, ← hq]; simp
      have hlf := refLeft_any w.heap.size (⟨⟨id, time, frm, tos, body⟩, out⟩, .slice (some ⟨gt, 0, none⟩) tos.length ct, bo) W2 (HI.out.touch (Touch.below (ts := []) (by rw [hq]; exact hB2)) (by simp) (by simp))
      simp only [itemCells] at hlf
      obtain ⟨LL, eLL⟩ : ∃ LL, leftOf out out.length = LL := ⟨_, rfl⟩
      have hLn : LL.length ≤ out.length := by rw [← eLL]; exact leftOf_len _ _
      have hLm : ∀ i ∈ LL, i < tos.length := fun i hi => by
        rw [← eLL] at hi
        unfold leftOf at hi
        have h1 := List.mem_range.1 (List.mem_filter.1 hi).1
        have h2 := HI.out.2.2.2.1
        simp only at h2
        omega
      have hol : out.length ≤ 255 := by
        have h2 := HI.out.2.2.2.1
        have h3 := HI.out.2.2.2.2.2.2.2.2.1
        simp only at h2 h3
        omega
      rw [hq2, eLL] at hlf
      have HLF := Lib.hid hlf
      have HM2 := Lib.hid hM2
      have HB2 := Lib.hid hB2
      have HQ2 := Lib.hid hq2
      have HW2 := Lib.hid hW2
      have HQQ := Lib.hid hq
      clear hlf hM2 hB2 hq2 hW2
      go_wp2_with fail
      rw [HW2.out]
      refine HLF.out.mono ?_
      rintro e w3 ⟨vl, rfl, ho3, ht3⟩
      have hM3 : MailAt w3 q id time frm (.slice (some ⟨gt, 0, none⟩) tos.length ct) body := ht3.cells HM2.out (by simp)
      obtain ⟨c3', f3'⟩ := hM3.cell 3
      have hB3 : Below q wo w3 := by
        refine HB2.out.trans ⟨ht3.still.1, ht3.still.2.1, ht3.still.2.2, ht3.size, fun b hb => ?_⟩
        have hbb : b < W2.heap.size := by have := HQ2.out; omega
        have e := Array.getElem?_eq_getElem hbb
        rw [e]
        exact ht3.block b _ e (by simp)
      have hz3 : q + 1 ≤ w3.heap.size := by have := ht3.size; have := HQ2.out; omega
      have HM3 := Lib.hid hM3
      have HB3 := Lib.hid hB3
      have HO3 := Lib.hid ho3
      obtain ⟨w4, hw4⟩ : ∃ w4 : World, w3.setCell ⟨q, 3, none⟩ (.slice none 0 0) = w4 := ⟨_, rfl⟩
      have h4 : Same q w3 w4 := by rw [← hw4]; exact (Same.refl _ _).setCell _
      have M4 : Hid (MailAt w4 q id time frm (.slice none 0 0) body) := Lib.hid (by rw [← hw4]; exact heap_setCell_same w3 q 3 _ _ (.slice none 0 0) hM3)
      have B4 : Hid (Below q wo w4) := Lib.hid (hB3.trans (h4.below (Nat.le_refl _)))
      have O4 : Hid (w4.ownsRow (q + 1) 3 1 vl LL.length (natCells LL)) := Lib.hid (ownsRow_same ho3 h4 (by omega))
      have Z4 : q + 1 ≤ w4.heap.size := by rw [h4.1]; exact hz3
      have HW4 := Lib.hid hw4
      obtain ⟨al, cl, rfl⟩ : ∃ a c, vl = .slice a LL.length c := by
        rcases ho3.2 with ⟨e, h0⟩ | ⟨g, cap, cur, e, _⟩
        · exact ⟨_, _, by rw [h0]; exact e⟩
        · exact ⟨_, _, e⟩
      clear ho3 ht3 hM3 hB3 HM2 HB2 HQ2 HW2 HLF b0 c0 c1 c2 c3 c4 c5 hw4 h4 HB3 HO3 HM3
      clear hq
      go_wp2_with fail
      rw [HW4.out]
      have HPq : Hid (p < q ∧ g < q ∧ gt < q) := Lib.hid ⟨by rw [← HQQ.out]; exact block_lt e0, by rw [← HQQ.out]; exact block_lt a0, by
        rw [← HQQ.out]
        rcases HI.out.1.2 with ⟨e, _⟩ | ⟨g', cap, cur, e, _, hg', _⟩
        · cases e
        · injection e with e _ _
          injection e with e
          injection e with e _
          subst e
          exact heap_lt hg'⟩
      have HE0 := Lib.hid e0
      have HA3 := Lib.hid a3
      have HTO : Hid (∀ j (hj : j < tos.length), wo.cell? ⟨gt, j, none⟩ = some (.string (bs tos[j]))) := Lib.hid (fun j hj => by
        rcases HI.out.1.2 with ⟨e, _⟩ | ⟨b, cp, cur', e, _, hb, _, _, _, htk'⟩
        · cases e
        · injection e with e1 _ _
          injection e1 with e1
          injection e1 with e1 _
          subst e1
          rw [Lib.cell_of_heap hb, ← Array.getElem?_toList, ← List.getElem?_take_of_lt (show j < tos.length * 1 by omega), htk']
          simp [textCells, hj])
      have hto255 : ∀ t ∈ tos, t.length ≤ 255 := HI.out.2.2.2.2.2.2.2.2.2.1
      have HTO5 := Lib.hid hto255
      clear e0 a0 a1 a2 a3 a4 a5 hto255
      go_loopw [9] (fun i w' => ∃ (j : Nat) (v : Value), j ≤ LL.length ∧ i = .int .i64 j ∧ Hid (MailAt w' q id time frm v body) ∧ Hid (w'.ownsRow (q + 1) 9 1 v j (textCells ((LL.take j).map fun i => tos.getD i []))) ∧ Hid (w'.ownsRow (q + 1) 3 1 (.slice al LL.length cl) LL.length (natCells LL)) ∧ Hid (Below q wo w') ∧ q + 1 ≤ w'.heap.size) (fun i _ => LL.length - (intOf i).toNat)
      case atStart => exact ⟨0, _, Nat.zero_le _, rfl, M4, Lib.hid (World.ownsRow_nil _ _ _ _), O4, B4, Z4⟩
      case round =>
        clear M4 O4 B4 Z4
        obtain ⟨j, v, hj, rfl, M4, V4, O4, B4, Z4⟩ := hrel
        obtain ⟨hpq, hgq, hgtq⟩ := HPq.out
        have y0 : wr.cell? ⟨p, 0, none⟩ = _ := (B4.out.cell (p := ⟨p, 0, none⟩) (by show p < q; exact hpq)).trans HE0.out
        by_cases hjl : j < LL.length
        · have y3 : wr.cell? ⟨g, k * 6 + 3, none⟩ = _ := (B4.out.cell (p := ⟨g, k * 6 + 3, none⟩) (by show g < q; exact hgq)).trans HA3.out
          have hji : (j : Int) < (LL.length : Int) := by omega
          obtain ⟨x, ex⟩ : ∃ x, LL[j] = x := ⟨_, rfl⟩
          have hxl : x < tos.length := by rw [← ex]; exact hLm _ (List.getElem_mem hjl)
          have hxi : (x : Int) < (tos.length : Int) := by omega
          obtain ⟨b, rfl, yk⟩ : ∃ b, al = some ⟨b, 0, none⟩ ∧ wr.cell? ⟨b, j, none⟩ = some (.int .i64 (x : Int)) := by
            rcases O4.out.2 with ⟨_, h0⟩ | ⟨b, cp, cur', e, _, hb, _, _, _, htk'⟩
            · omega
            · injection e with e1 _ _
              refine ⟨b, e1, ?_⟩
              rw [Lib.cell_of_heap hb, ← Array.getElem?_toList, ← List.getElem?_take_of_lt (show j < LL.length * 1 by omega), htk']
              simp [natCells, hjl, ex]
          have yt : wr.cell? ⟨gt, x, none⟩ = some (.string (bs tos[x])) := (B4.out.cell (p := ⟨gt, x, none⟩) (by show gt < q; exact hgtq)).trans (HTO.out x hxl)
          have htl := HTO5.out tos[x] (List.getElem_mem hxl)
          obtain ⟨t, et⟩ : ∃ t, tos[x] = t := ⟨_, rfl⟩
          rw [et] at yt htl
          have HXT : Hid ((LL.take (j + 1)).map (fun i => tos.getD i []) = (LL.take j).map (fun i => tos.getD i []) ++ [t]) := Lib.hid (by
            rw [List.take_succ_eq_append_getElem hjl, List.map_append, ex]
            simp [List.getD_eq_getElem?_getD, hxl, et])
          obtain ⟨Ts, eTs⟩ : ∃ Ts, (LL.take j).map (fun i => tos.getD i []) = Ts := ⟨_, rfl⟩
          rw [eTs] at V4 HXT
          obtain ⟨av, nv, cv, rfl⟩ : ∃ a n c, v = .slice a n c := by
            rcases V4.out.2 with ⟨e, _⟩ | ⟨g, cap, cur, e, _⟩
            · exact ⟨_, _, _, e⟩
            · exact ⟨_, _, _, e⟩
          obtain ⟨d3, f3⟩ := M4.out.cell 3
          have hv1 := V4.out
          have HV1 := Lib.hid hv1
          have m3 : wr.cell? ⟨q, 3, none⟩ = some (.slice av nv cv) := d3
          have m3' : ∀ o : Obj, (wr.alloc o).drew.cell? ⟨q, 3, none⟩ = some (.slice av nv cv) := fun o => (((Below.refl wr.heap.size wr).alloc (Nat.le_refl _) o).cell (block_lt m3)).trans m3
          have hrow : ∀ i, (Value.slice av nv cv).ownBlock = some i → q + 1 ≤ i := fun i hi => (hv1.lt i hi).1
          have HM10 : Hid (∀ (o : Obj) (w10 : World), (wr.alloc o).drew.grownBy w10 (Value.slice av nv cv).ownBlock → w10.cell? ⟨q, 3, none⟩ = some (.slice av nv cv)) := Lib.hid (fun o w10 hgrow => (hgrow.cell_far ⟨q, 3, none⟩ (by simp; omega) (fun e => by have := hrow q e.symm; omega)).trans (m3' _))
          have HF10 : Hid (∀ (o : Obj) (w10 : World), (wr.alloc o).drew.grownBy w10 (Value.slice av nv cv).ownBlock → w10.frozen? ⟨q, 3, none⟩ = false) := Lib.hid (fun o w10 hgrow => (hgrow.frozen_far ⟨q, 3, none⟩ (by simp; omega) (fun e => by have := hrow q e.symm; omega)).trans ((((Below.refl wr.heap.size wr).alloc (Nat.le_refl _) _).frozen (by show q < _; omega)).trans f3))
          clear ex et eTs hv1 hrow d3
          go_wp2_with fail
          go_region_law ((refine step_append_lies _ (by rfl) _ _ _ (by rfl) (q + 1) 9 is _ 1 16 Tryz.underlying24 his hzs0 hzs1 hzs2 rfl (by decide) (.slice av nv cv) j (textCells Ts) (by rfl) ((HV1.out.alloc _).drew) ⟨wr.heap.size, 0, none⟩ 1 1 [.string (bs t)] (by rfl) (by rfl) (World.news_of_block (cs := #[.string (bs t)]) (t := 9) (fr := (0, 0)) (heap_alloc_new wr _)) (by simp [Value.oneCell']) (by decide) (by unfold maxLen; omega) (by omega) (by simp; omega) (wr.heap.size + 1) (by simp) ?_; intro ga capa w10 hown hgrow hat hlt10; have m10 := HM10.out _ _ hgrow; have f10 := HF10.out _ _ hgrow))
          all_goals
            have D := Lib.hid (queue_step M4.out HV1.out O4.out B4.out Z4 hown hgrow)
            clear hown hgrow hat m10 f10
            go_wp2_with fail
            have d := D.out
            exact ⟨⟨j + 1, _, by omega, by go_num, Lib.hid d.mail, Lib.hid (by rw [HXT.out]; exact d.own), Lib.hid d.ints, Lib.hid d.below, d.size⟩, by simp [intOf]; omega⟩
        · have hjl9 : j = LL.length := by omega
          subst hjl9
          rw [List.take_length] at V4
          have HND : Hid (PItem.now ⟨⟨id, time, frm, tos, body⟩, out⟩ = ⟨id, time, frm, LL.map (fun i => tos.getD i []), body⟩) := Lib.hid (by unfold PItem.now; simp only [eLL])
          obtain ⟨Ts, eTs⟩ : ∃ Ts, LL.map (fun i => tos.getD i []) = Ts := ⟨_, rfl⟩
          have hTl : Ts.length = LL.length := by rw [← eTs, List.length_map]
          rw [eTs] at V4 HND
          have MM : Hid (MailsIn z wr u5 rows) := Lib.hid (HM.out.touch (Touch.below (ts := []) (by rw [HQQ.out]; exact B4.out)) (by simp) (by simp))
          have BB : Hid (Below z w1 wr) := Lib.hid (HB.out.trans (B4.out.mono (by have := HQQ.out; omega)))
          by_cases hL0 : LL.length = 0
          · have HQ2 : Hid (rows.map (·.1) = queueL (S.items.take (k + 1))) := Lib.hid (by
              rw [HTK.out, queueL_snoc, HND.out, HQ.out]
              have : Ts = [] := List.length_eq_zero_iff.1 (by omega)
              simp [this])
            have hd : decide ((0 : Int) < (LL.length : Int)) = false := decide_eq_false (by omega)
            clear HQ HTK HND eTs
            go_wp2_with fail
            exact ⟨⟨k + 1, rows, by omega, by go_num, by omega, HQ2, MM, BB⟩, by simp [intOf]; omega⟩
          · have HQ2 : Hid (rows.map (·.1) ++ [⟨id, time, frm, Ts, body⟩] = queueL (S.items.take (k + 1))) := Lib.hid (by
              rw [HTK.out, queueL_snoc, HND.out, HQ.out]
              have : Ts.isEmpty = false := by
                cases Ts with
                | nil => simp at hTl; omega
                | cons a b => rfl
              simp [this])
            have hd : decide ((0 : Int) < (LL.length : Int)) = true := decide_eq_true (by omega)
            have n0 : wr.cell? ⟨q, 0, none⟩ = some (.int .i64 id) := (M4.out.cell 0).1
            have n1 : wr.cell? ⟨q, 1, none⟩ = some (.int .i64 time) := (M4.out.cell 1).1
            have n2 : wr.cell? ⟨q, 2, none⟩ = some (.string (bs frm)) := (M4.out.cell 2).1
            have n3 : wr.cell? ⟨q, 3, none⟩ = some v := (M4.out.cell 3).1
            have n4 : wr.cell? ⟨q, 4, none⟩ = some (.string (bs body)) := (M4.out.cell 4).1
            obtain ⟨gv, cv, rfl⟩ : ∃ g c, v = .slice (some ⟨g, 0, none⟩) LL.length c := by
              rcases V4.out.2 with ⟨_, h0⟩ | ⟨g, cap, cur, e, _⟩
              · omega
              · exact ⟨_, _, e⟩
            have hzr2 : z ≤ wr.heap.size := by have := BB.out.size; have := HZ.out; omega
            obtain ⟨M5, MT⟩ := MM.out
            have HMT := Lib.hid MT
            clear HQ HTK HND eTs MT
            go_wp2_with (first
              | (at_builtin; refine wpList_append_own _ rfl _ _ 40 rfl z 26 im _ 5 72 Tryz.underlying40 him hzm0 hzm1 hzm2 rfl (by decide) _ _ _ rfl (M5.alloc _) ⟨wr.heap.size, 0, none⟩ 1 1 [.int .i64 id, .int .i64 time, .string (bs frm), .slice (some ⟨gv, 0, none⟩) LL.length cv, .string (bs body)] rfl rfl ?c1 ?c2 ?c3 ?c4 ?c5 ?_)
              | fail)
            case c1 => exact World.news_of_block (cs := #[.int .i64 id, .int .i64 time, .string (bs frm), .slice (some ⟨gv, 0, none⟩) LL.length cv, .string (bs body)]) (t := 26) (fr := (0, 0)) (heap_alloc_new wr _)
            case c2 => intro u hu; simp at hu; rcases hu with rfl | rfl | rfl | rfl | rfl <;> rfl
            case c3 => unfold maxLen; omega
            case c4 => omega
            case c5 => simp; omega
            · intro v' w10 hown hgrow _
              have D := Lib.hid (queue_put (m := ⟨id, time, frm, Ts, body⟩) HMT.out M5 (by show wr.ownsRow z 9 1 _ Ts.length (textCells Ts); rw [hTl]; exact V4.out.mono (by have := HQQ.out; omega)) BB.out hzr2 hown hgrow)
              clear hown hgrow M5
              go_wp2_with fail
              have d := D.out
              exact ⟨⟨k + 1, rows ++ [(⟨id, time, frm, Ts, body⟩, .slice (some ⟨gv, 0, none⟩) LL.length cv)], by omega, by go_num, by simp; omega, Lib.hid (by rw [← HQ2.out]; simp), Lib.hid d.1, Lib.hid d.2⟩, by simp [intOf]; omega⟩
    · have hk9 : k = S.items.length := by omega
      subst hk9
      rw [List.take_length] at HQ
      obtain ⟨aL, capL, hL0, _, _⟩ := HSr.out.head
      go_wp2_with fail
      go_ret
      exact ⟨_, rfl, by rw [← HQ.out]; exact HM.out.at, HB1.out.trans (HB.out.mono (by have := HZ.out; have := HB1.out.size; omega))⟩
end Go.Proofs.YtgjjjdccbpjnfaaGreatDoor
