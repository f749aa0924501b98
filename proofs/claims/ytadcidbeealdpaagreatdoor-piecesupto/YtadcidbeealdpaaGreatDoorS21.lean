import Derived.Test.YtadcidbeealdpaaGreatDoorS01
import Derived.Test.YtadcidbeealdpaaGreatDoorS02
import Derived.Shelf.Strings.Builder1
import Derived.Lib.FrozenHead
import Derived.WalkKit
import Derived.Test.YtadcidbeealdpaaGreatDoorS12
import Derived.Test.YtadcidbeealdpaaGreatDoorS19
import Derived.Deep.RegionLaw

/- A text is written to a Builder: nothing but the Builder and its own row turns. -/
namespace Go.Proofs.YtadcidbeealdpaaGreatDoor
open Go.RowKit

/-- a Builder in block b that holds acc, its row at v -/
structure BldAt (base : Nat) (w : World) (b : Nat) (v : Value) (acc : List UInt8) : Prop where
  blk : ∃ p, (p = none ∨ p = some ⟨b, 0, none⟩) ∧ w.heap[b]? = some (.cells #[.pointer p, v] 84 (0, 0))
  row : w.ownsRowF base 5 1 v acc.length (Lib.byteCells acc)
  far : v.ownBlock ≠ some b
theorem copyCheck_any (b : Nat) (v : Value) (p : Option Addr) (w : World) (hp : p = none ∨ p = some ⟨b, 0, none⟩) (h : w.heap[b]? = some (.cells #[.pointer p, v] 84 (0, 0))) :
    Calls Tryz.prog 68 #[.pointer (some ⟨b, 0, none⟩)] w fun e w' => e = .returned (.tuple #[]) ∧ w'.heap[b]? = some (.cells #[.pointer (some ⟨b, 0, none⟩), v] 84 (0, 0)) ∧ Same b w w' := by
  rcases hp with rfl | rfl
  · refine (Any.Builder_copyCheck_fresh (P := Tryz.prog) { Tryz.lays159 with } Tryz.Builder_Extra_159.toX72 b w (by rw [Lib.cell_of_heap h]; rfl) (by simp only [World.shape?, h]; rfl) (Lib.frozen_of_heap h 0)).mono ?_
    rintro e w' ⟨rfl, rfl⟩
    exact ⟨rfl, heap_setCell_same w b 0 _ _ _ h, (Same.refl _ _).setCell _⟩
  · refine (Any.Builder_copyCheck_used (P := Tryz.prog) { Tryz.lays159 with } Tryz.Builder_Extra_159.toX72 b w (by rw [Lib.cell_of_heap h]; rfl)).mono ?_
    rintro e w' ⟨rfl, rfl⟩
    exact ⟨rfl, h, Same.refl _ _⟩

theorem rowF_mono {w : World} {base b' sz n : Nat} {e : TypeId} {v : Value} {xs : List Value} (h : w.ownsRowF base e sz v n xs) (hb : b' ≤ base) : w.ownsRowF b' e sz v n xs := by
  refine ⟨h.1, ?_⟩
  rcases h.2 with h | ⟨g, cap, cur, fz, e1, e2, r⟩
  · exact .inl h
  · exact .inr ⟨g, cap, cur, fz, e1, Nat.le_trans hb e2, r⟩
theorem rowF_same {w w' : World} {base sz n b : Nat} {e : TypeId} {v : Value} {xs : List Value} (h : w.ownsRowF base e sz v n xs) (hs : Same b w w') (hf : v.ownBlock ≠ some b) : w'.ownsRowF base e sz v n xs := by
  refine ⟨h.1, ?_⟩
  rcases h.2 with h | ⟨g, cap, cur, fz, e1, e2, e3, r⟩
  · exact .inl h
  · exact .inr ⟨g, cap, cur, fz, e1, e2, (hs.2 g (fun e => hf (by rw [e1, e]; rfl))).trans e3, r⟩
/-- append of a text onto a row of one's own: in that row, or in a new block -/
theorem run_append_text {P : Program} (w : World) (base : Nat) (t u ty e : TypeId) (i : TypeInfo) (ht : P.underlying t = some (.slice e)) (hu : P.underlying u = some .string) (hi : P.info? e = some i) (hz : i.zero = some (.int .u8 0))
    (hsize : i.size = 1) (hby : i.bytes = 1) (v : Value) (n : Nat) (xs : List Value) (hown : w.ownsRowF base e 1 v n xs) (s : ByteArray) (h63 : n + s.size ≤ maxLen) (hbytes : n + s.size ≤ 140737488355328) (hbase : base ≤ w.heap.size) :
    ∃ v' w', (Builtin.append_ #[t, u] ty #[v, .string s]).run P w = .ok v' w' ∧ w'.ownsRowF base e 1 v' (n + s.size) (xs ++ Lib.strCells s) ∧ w.grownBy w' v.ownBlock ∧ ∀ k, v'.ownBlock = some k → v.ownBlock = some k ∨ w.heap.size ≤ k := by
  rcases hown.2 with ⟨rfl, rfl⟩ | ⟨g, cap, cur, fz, rfl, hbg, hg, hfz, hnc, hcm, hcs, htake⟩
  · obtain ⟨v', w', h1, h2, h3, _⟩ := Lib.run_append_own_string (P := P) w w.heap.size t u ty e i ht hu hi hz hsize hby (.slice none 0 0) 0 xs ⟨hown.1, .inl ⟨rfl, rfl⟩⟩ s h63 hbytes (Nat.le_refl _)
    have h2' := World.ownsRowF_of h2
    exact ⟨v', w', h1, rowF_mono h2' hbase, h3, fun k hk => .inr (h2'.lt k hk).1⟩
  · obtain ⟨v', w', h1, h2, h3, _⟩ := Lib.run_append_own_stringF (P := P) w base t u ty e i ht hu hi hz hsize hby _ n xs hown s h63 hbytes hbase
    refine ⟨v', w', h1, h2, h3, fun k hk => ?_⟩
    have hsmall : n + s.size ≤ 9223372036854775807 := by simp only [maxLen] at h63; omega
    have hxl : xs.length = n := by simpa using hown.1
    by_cases hroom : n + s.size ≤ cap
    · have hcs' : cur.size = cap := by simpa using hcs
      have hr := Lib.run_append_room_stringF (P := P) w t u ty e i ht hu hi hsize g n cap cur fz hg (by simpa using hfz) s hroom (by omega)
      rw [h1] at hr
      injection hr with e1 _
      rw [e1] at hk
      exact .inl hk
    · have holds : ∀ j u, xs[j]? = some u → w.cell? ((⟨g, 0, none⟩ : Addr).add j) = some u := hown.cells (g := g) rfl
      have hr := Lib.run_append_grow_string (P := P) w t u ty e i (.int .u8 0) ht hu hi hz ⟨g, 0, none⟩ n cap xs (by rw [hsize]; simpa using hxl) holds s (by omega) (by omega) (by rw [hby]; exact growslice_fits (by omega) (by omega))
      rw [h1] at hr
      injection hr with e1 _
      rw [e1] at hk
      injection hk with hk
      exact .inr (Nat.le_of_eq hk)
/-- the same, for the walk -/
theorem wpList_append_text {P : Program} {w : World} {ops : Array Oper} {rest : List Oper} {o : Oper} {a : Act} {Q : Exit → Act → World → Prop} (hgd : o.guard = none) (sl x : Operand) (t u : TypeId)
    (ho : o.op = .call { callee := .builtin .append, args := #[sl, x], argTypes := #[t, u] }) (v r : Value) (s : ByteArray) (w' : World) (hs : a.eval sl = v) (hx : a.eval x = .string s) (hr : (Builtin.append_ #[t, u] o.type #[v, .string s]).run P w = .ok r w') (h : wpList P ops Q rest (a.put o.dst r) w') : wpList P ops Q (o :: rest) a w :=
  wpList_plain hgd fun K hK => by
    unfold Oper.wp execOp
    simp only [ho, resolve, invoke, builtin, Sem.run_bind, Sem.run_pure, Result.andThen_ok, List.map_toArray, List.map_cons, List.map_nil, hs, hx, hr]
    exact hK _ _ h

theorem info_byte : (Tryz.prog.info? 5).map (fun i => (i.zero, i.size, i.bytes)) = some (some (.int .u8 0), 1, 1) := by kernel_rfl
theorem byteCells_append (a l : List UInt8) : Lib.byteCells (a ++ l) = Lib.byteCells a ++ Lib.strCells (bs l) := by simp [Lib.byteCells, Lib.strCells, bs]

set_option maxHeartbeats 1000000 in
set_option maxRecDepth 100000 in
/-- behind it the Builder holds the text too; of what was there only the Builder's block and its row have turned -/
theorem writeTo_any (base b : Nat) (v : Value) (acc l : List UInt8) (w : World) (h : BldAt base w b v acc) (hbase : base ≤ w.heap.size) (hlen : acc.length + l.length ≤ 140737488355328) :
    Calls Tryz.prog 41 #[.pointer (some ⟨b, 0, none⟩), .string (bs l)] w fun e w' => (∃ r, e = .returned r) ∧ (∃ v', BldAt base w' b v' (acc ++ l) ∧ ∀ g, v'.ownBlock = some g → v.ownBlock = some g ∨ w.heap.size ≤ g) ∧ (∀ k o, w.heap[k]? = some o → k ≠ b → v.ownBlock ≠ some k → w'.heap[k]? = some o) ∧ Still w w' ∧ w.heap.size ≤ w'.heap.size := by
  obtain ⟨⟨p, hp, hb⟩, hrow, hfar⟩ := h
  obtain ⟨i, hi, hz0, hz1, hz2⟩ := info_parts info_byte
  have hsz := bs_size l
  have HCK := Lib.hid (copyCheck_any b v p w hp hb)
  have HR := Lib.hid hrow
  have hbl : b < w.heap.size := (Array.getElem?_eq_some_iff.1 hb).1
  clear hp hb hrow
  go_enter Tryz.func41, Tryz.ntmps41
  go_wp2_with fail
  refine HCK.out.mono ?_
  rintro e w1 ⟨rfl, hb1, hS1⟩
  have c1 : w1.cell? ⟨b, 1, none⟩ = some v := by rw [Lib.cell_of_heap hb1]; rfl
  have hs1 : w1.heap.size = w.heap.size := hS1.1
  obtain ⟨v', w2, hr2, ho2, hg2, hw2⟩ := run_append_text (P := Tryz.prog) w1 base 76 9 76 5 i Tryz.underlying76 Tryz.underlying9 hi hz0 hz1 hz2 v acc.length (Lib.byteCells acc) (rowF_same HR.out hS1 hfar) (bs l) (by unfold maxLen; omega) (by omega) (by omega)
  have hb2 : w2.heap[b]? = some (.cells #[.pointer (some ⟨b, 0, none⟩), v] 84 (0, 0)) := (hg2.block b (by omega) (fun e => hfar e.symm)).trans hb1
  have c2 : w2.cell? ⟨b, 1, none⟩ = some v := by rw [Lib.cell_of_heap hb2]; rfl
  have f2 := Lib.frozen_of_heap hb2 1
  have hfar' : v'.ownBlock ≠ some b := fun e => by
    rcases ho2.2 with ⟨e1, _⟩ | ⟨g, cap, cur, fz, e1, _, e3, _⟩
    · rw [e1] at e; cases e
    · rw [e1] at e
      injection e with e
      rw [show g = b from e, hb2] at e3
      simp at e3
  obtain ⟨a', n', c', ev⟩ : ∃ a n c, v' = .slice a n c := by
    rcases ho2.2 with ⟨e1, _⟩ | ⟨g, cap, cur, fz, e1, _⟩
    · exact ⟨_, _, _, e1⟩
    · exact ⟨_, _, _, e1⟩
  subst ev
  have S3 : Same b w2 (w2.setCell ⟨b, 1, none⟩ (.slice a' n' c')) := (Same.refl _ _).setCell _
  have HB3 : Hid (BldAt base (w2.setCell ⟨b, 1, none⟩ (.slice a' n' c')) b (.slice a' n' c') (acc ++ l)) := Lib.hid ⟨⟨_, .inr rfl, heap_setCell_same w2 b 1 _ _ _ hb2⟩, by
    rw [byteCells_append, List.length_append, ← hsz]
    exact rowF_same ho2 S3 hfar', hfar'⟩
  have HW2 := Lib.hid (fun g (h : (Value.slice a' n' c').ownBlock = some g) => (hw2 g h).imp id (fun h => (by omega : w.heap.size ≤ g)))
  have HK3 : Hid (∀ k o, w.heap[k]? = some o → k ≠ b → v.ownBlock ≠ some k → (w2.setCell ⟨b, 1, none⟩ (.slice a' n' c')).heap[k]? = some o) := Lib.hid (fun k o e h1 h2 => (S3.2 k h1).trans ((hg2.block k (by have := (Array.getElem?_eq_some_iff.1 e).1; omega) (fun e' => h2 e'.symm)).trans ((hS1.2 k h1).trans e)))
  have HST : Hid (Still w (w2.setCell ⟨b, 1, none⟩ (.slice a' n' c'))) := Lib.hid ((hS1.3.trans ⟨hg2.os, hg2.tape, hg2.output⟩).trans S3.3)
  have HSZ : Hid (w.heap.size ≤ (w2.setCell ⟨b, 1, none⟩ (.slice a' n' c')).heap.size) := Lib.hid (by rw [S3.1]; have := hg2.size; omega)
  have HR2 := Lib.hid hr2
  clear hr2 ho2 hg2 hw2 hb1 hS1 hb2 S3 hfar'
  go_wp2_with (first
    | (at_builtin; refine wpList_append_text rfl _ _ 76 9 rfl v (.slice a' n' c') (bs l) w2 rfl rfl HR2.out ?_)
    | fail)
  go_ret2
  exact ⟨⟨_, rfl⟩, ⟨_, HB3.out, HW2.out⟩, HK3.out, HST.out, HSZ.out⟩
end Go.Proofs.YtadcidbeealdpaaGreatDoor

/- A body grows by a line. -/
namespace Go.Proofs.YtadcidbeealdpaaGreatDoor
open Go.RowKit

/-- append by its run's equation, as a step of a region that draws -/
theorem step_append_run2 {P : Program} {w : World} {ops : Array Oper} {o : Oper} {a : Act} {K : Act → World → Prop} {Q : Exit → Act → World → Prop} {E : Prop} (hgd : o.guard = none) (s x : Operand) (t u : TypeId)
    (ho : o.op = .call { callee := .builtin .append, args := #[s, x], argTypes := #[t, u] }) (v y r : Value) (w' : World) (hs : a.eval s = v) (hx : a.eval x = y) (hr : (Builtin.append_ #[t, u] o.type #[v, y]).run P w = .ok r w') (h : K (a.put o.dst r) w') :
    if Region.wanted o (yielded ops a.tmps) = true then Oper.wp P o a w K Q else E := by
  have hw : Region.wanted o (yielded ops a.tmps) = true := by simp [Region.wanted, hgd]
  rw [if_pos hw]
  unfold Oper.wp execOp
  simp only [ho, resolve, invoke, builtin, Sem.run_bind, Sem.run_pure, Result.andThen_ok, List.map_toArray, List.map_cons, List.map_nil, hs, hx, hr]
  exact h

structure PBody where
  text : List UInt8
  has : Bool
  bad : Bool
def trimDot : List UInt8 → List UInt8
  | [] => []
  | x :: l => if x = 46 then l else x :: l
theorem trimDot_le (l : List UInt8) : (trimDot l).length ≤ l.length := by
  cases l with
  | nil => exact Nat.le_refl _
  | cons x l =>
    show (if x = 46 then l else x :: l).length ≤ _
    split <;> simp
theorem trimPrefix_dot (l : List UInt8) : Lib.trimPrefix l [46] = trimDot l := by
  cases l with
  | nil => rfl
  | cons x l =>
    unfold Lib.trimPrefix Lib.hasPrefix trimDot
    by_cases h : x = 46
    · subst h; simp [List.isPrefixOf]
    · have : (46 : UInt8) ≠ x := fun e => h e.symm
      simp [List.isPrefixOf, this, h]
def PBody.add (B : PBody) (t : List UInt8) (isBad : Bool) (size : Int) : PBody :=
  if size < (B.text.length : Int) then { B with bad := B.bad || isBad } else ⟨(if B.has then B.text ++ [13, 10] else B.text) ++ trimDot t, true, B.bad || isBad⟩

/-- a body in block bb, its text at vt -/
structure BodyAt (w : World) (bb : Nat) (vt : Value) (B : PBody) : Prop where
  blk : w.heap[bb]? = some (.cells #[vt, .bool B.has, .bool B.bad] 183 (0, 0))
  row : w.ownsRowF 0 5 1 vt B.text.length (Lib.byteCells B.text)
theorem rowF_slice {w : World} {base sz n : Nat} {e : TypeId} {v : Value} {xs : List Value} (h : w.ownsRowF base e sz v n xs) : ∃ a m c, v = .slice a m c := by
  rcases h.2 with ⟨e, _⟩ | ⟨g, cap, cur, fz, e, _⟩
  · exact ⟨_, _, _, e⟩
  · exact ⟨_, _, _, e⟩
theorem rowF_len {w : World} {base sz n : Nat} {e : TypeId} {v : Value} {xs : List Value} (h : w.ownsRowF base e sz v n xs) : ∃ a c, v = .slice a n c := by
  rcases h.2 with ⟨e, e0⟩ | ⟨g, cap, cur, fz, e, _⟩
  · exact ⟨none, 0, by rw [e, e0]⟩
  · exact ⟨_, _, e⟩
theorem rowF_tag {w : World} {base sz n g : Nat} {e : TypeId} {v : Value} {xs : List Value} (h : w.ownsRowF base e sz v n xs) (hg : v.ownBlock = some g) : ∃ cur z, w.heap[g]? = some (.cells cur e z) := by
  rcases h.2 with ⟨e1, _⟩ | ⟨g', cap, cur, fz, e1, _, e3, _⟩
  · rw [e1] at hg; cases hg
  · rw [e1] at hg
    injection hg with hg
    subst hg
    exact ⟨_, _, e3⟩
theorem rowF_chg {A : Nat → Prop} {w w' : World} {base sz n : Nat} {e : TypeId} {v : Value} {xs : List Value} (h : w.ownsRowF base e sz v n xs) (hc : Chg A w w') (hn : ∀ g, v.ownBlock = some g → ¬ A g) : w'.ownsRowF base e sz v n xs := by
  refine ⟨h.1, ?_⟩
  rcases h.2 with h | ⟨g, cap, cur, fz, e1, e2, e3, r⟩
  · exact .inl h
  · exact .inr ⟨g, cap, cur, fz, e1, e2, hc.some_ e3 (hn g (by rw [e1]; rfl)), r⟩
theorem BodyAt.far {w : World} {bb : Nat} {vt : Value} {B : PBody} (h : BodyAt w bb vt B) : vt.ownBlock ≠ some bb := fun e => by
  obtain ⟨cur, z, h1⟩ := rowF_tag h.row e
  rw [h.blk] at h1
  simp at h1
theorem BodyAt.chg {A : Nat → Prop} {w w' : World} {bb : Nat} {vt : Value} {B : PBody} (h : BodyAt w bb vt B) (hc : Chg A w w') (h1 : ¬ A bb) (h2 : ∀ g, vt.ownBlock = some g → ¬ A g) : BodyAt w' bb vt B := ⟨hc.some_ h.blk h1, rowF_chg h.row hc h2⟩
/-- the text's slice, with its append -/
theorem BodyAt.app {w : World} {bb : Nat} {vt : Value} {B : PBody} (h : BodyAt w bb vt B) (l : List UInt8) (hlen : B.text.length + l.length ≤ 140737488355328) :
    ∃ a n c w', (Builtin.append_ #[76, 9] 76 #[vt, .string (bs l)]).run Tryz.prog w = .ok (.slice a n c) w' ∧ BodyAt (w'.setCell ⟨bb, 0, none⟩ (.slice a n c)) bb (.slice a n c) ⟨B.text ++ l, B.has, B.bad⟩ ∧ w'.heap[bb]? = some (.cells #[vt, .bool B.has, .bool B.bad] 183 (0, 0)) ∧ Chg (fun k => vt.ownBlock = some k) w w' ∧ ∀ k, (Value.slice a n c).ownBlock = some k → vt.ownBlock = some k ∨ w.heap.size ≤ k := by
  obtain ⟨i, hi, hz0, hz1, hz2⟩ := info_parts info_byte
  have hsz := bs_size l
  obtain ⟨v', w2, hr2, ho2, hg2, hw2⟩ := run_append_text (P := Tryz.prog) w 0 76 9 76 5 i Tryz.underlying76 Tryz.underlying9 hi hz0 hz1 hz2 vt B.text.length (Lib.byteCells B.text) h.row (bs l) (by unfold maxLen; omega) (by omega) (Nat.zero_le _)
  obtain ⟨a, n, c, rfl⟩ := rowF_slice ho2
  have hb2 : w2.heap[bb]? = some (.cells #[vt, .bool B.has, .bool B.bad] 183 (0, 0)) := (hg2.block bb (heap_some_lt h.blk) (fun e => h.far e.symm)).trans h.blk
  refine ⟨a, n, c, w2, hr2, ⟨heap_setCell_same w2 bb 0 _ _ _ hb2, ?_⟩, hb2, Chg.grown hg2, hw2⟩
  have S3 : Same bb w2 (w2.setCell ⟨bb, 0, none⟩ (.slice a n c)) := (Same.refl _ _).setCell _
  rw [byteCells_append, List.length_append, ← hsz]
  refine rowF_same ho2 S3 (fun e => ?_)
  obtain ⟨cur, z, h1⟩ := rowF_tag ho2 e
  rw [hb2] at h1
  simp at h1


set_option maxHeartbeats 1000000 in
set_option maxRecDepth 100000 in
theorem bodyAdd_yes (bb : Nat) (vt : Value) (txt : List UInt8) (has : Bool) (t : List UInt8) (isBad : Bool) (size : Int) (w : World) (h : BodyAt w bb vt ⟨txt, has, true⟩) (hB : txt.length ≤ 1073741824) (ht : t.length ≤ 1048576) :
    Calls Tryz.prog 73 #[.pointer (some ⟨bb, 0, none⟩), .agg #[.string (bs t), .bool isBad], .int .i64 size] w fun e w' => e = .returned (.tuple #[]) ∧ ∃ vt', BodyAt w' bb vt' (PBody.add ⟨txt, has, true⟩ t isBad size) ∧ Chg (fun k => k = bb ∨ vt.ownBlock = some k) w w' ∧ ∀ k, vt'.ownBlock = some k → vt.ownBlock = some k ∨ w.heap.size ≤ k := by
  obtain ⟨W0, hW0⟩ : ∃ W0 : World, w.alloc (.cells #[.string (bs t), .bool isBad] 89) = W0 := ⟨_, rfl⟩
  have B0 : Below w.heap.size w W0 := by rw [← hW0]; exact (Below.refl _ _).alloc (Nat.le_refl _) _
  have X0 : W0.heap[w.heap.size]? = some (.cells #[.string (bs t), .bool isBad] 89 (0, 0)) := by rw [← hW0]; exact heap_alloc_new w _
  have bl := heap_some_lt h.blk
  have hne : bb ≠ w.heap.size := by omega
  have H0 : BodyAt W0 bb vt ⟨txt, has, true⟩ := h.chg (A := fun _ => False) (Chg.below B0) (fun e => e) (fun _ _ e => e)
  have S1 : Same bb W0 (W0.setCell ⟨bb, 2, none⟩ (.bool true)) := (Same.refl _ _).setCell _
  have H1 : BodyAt (W0.setCell ⟨bb, 2, none⟩ (.bool true)) bb vt ⟨txt, has, true⟩ := ⟨heap_setCell_same W0 bb 2 _ _ (.bool true) H0.blk, rowF_same H0.row S1 H0.far⟩
  have l0 : W0.cell? ⟨w.heap.size, 0, none⟩ = some (.string (bs t)) := by rw [Lib.cell_of_heap X0]; rfl
  have l1 : W0.cell? ⟨w.heap.size, 1, none⟩ = some (.bool isBad) := by rw [Lib.cell_of_heap X0]; rfl
  have c2 : W0.cell? ⟨bb, 2, none⟩ = some (.bool true) := by rw [Lib.cell_of_heap H0.blk]; rfl
  have f2 := Lib.frozen_of_heap H0.blk 2
  obtain ⟨W1, hW1⟩ : ∃ W1 : World, W0.setCell ⟨bb, 2, none⟩ (.bool true) = W1 := ⟨_, rfl⟩
  rw [hW1] at H1 S1
  have m0 : W1.cell? ⟨w.heap.size, 0, none⟩ = some (.string (bs t)) := (S1.cell (Ne.symm hne)).trans l0
  have c0 : W1.cell? ⟨bb, 0, none⟩ = some vt := by rw [Lib.cell_of_heap H1.blk]; rfl
  have c1 : W1.cell? ⟨bb, 1, none⟩ = some (.bool has) := by rw [Lib.cell_of_heap H1.blk]; rfl
  have f0 := Lib.frozen_of_heap H1.blk 0
  have f1 := Lib.frozen_of_heap H1.blk 1
  obtain ⟨av, cv, ev⟩ := rowF_len H1.row
  simp only at ev
  have X1 : W1.heap[w.heap.size]? = some (.cells #[.string (bs t), .bool isBad] 89 (0, 0)) := (S1.2 _ (Ne.symm hne)).trans X0
  have K1 : Chg (fun k => k = bb ∨ vt.ownBlock = some k) w W1 := (Chg.below B0).trans (Chg.same S1) (fun k _ e => .inl e)
  have hz1 : w.heap.size < W1.heap.size := by rw [S1.1]; exact heap_some_lt X0
  have HH1 := Lib.hid H1
  have HK1 := Lib.hid K1
  have HX1 := Lib.hid X1
  have HTL := Lib.hid (trimDot_le t)
  have HTP : Hid (∀ W : World, Calls Tryz.prog 113 #[.string (bs t), .string ⟨#[46]⟩] W fun e w' => e = .returned (.string (bs (trimDot t))) ∧ W = w') := Lib.hid (fun W => (Tryz.strings_TrimPrefix (bs t) ⟨#[46]⟩ W).mono (by
    rintro e w' ⟨rfl, rfl⟩
    exact ⟨by rw [← trimPrefix_dot]; rfl, rfl⟩))
  by_cases hlt : size < (txt.length : Int)
  · have HR : Hid (PBody.add ⟨txt, has, true⟩ t isBad size = ⟨txt, has, true⟩) := Lib.hid (by unfold PBody.add; rw [if_pos hlt]; simp)
    clear h H0 H1 B0 X0 S1 X1 K1
    subst ev
    go_enter Tryz.func73, Tryz.ntmps73
    go_wp2_with fail
    refine bodyPost_ret (v := .tuple #[]) (by simp [results, Tryz.results73, go_sem]) rfl ?_
    exact ⟨rfl, _, by rw [HR.out]; exact HH1.out, HK1.out, fun k e => .inl e⟩
  · cases has with
    | false =>
      have HR : Hid (PBody.add ⟨txt, false, true⟩ t isBad size = ⟨txt ++ trimDot t, true, true⟩) := Lib.hid (by unfold PBody.add; rw [if_neg hlt]; simp)
      have H2 : BodyAt (W1.setCell ⟨bb, 1, none⟩ (.bool true)) bb vt ⟨txt, true, true⟩ := ⟨heap_setCell_same W1 bb 1 _ _ (.bool true) H1.blk, rowF_same H1.row ((Same.refl _ _).setCell _) H1.far⟩
      have S2 : Same bb W1 (W1.setCell ⟨bb, 1, none⟩ (.bool true)) := (Same.refl _ _).setCell _
      obtain ⟨W2, hW2⟩ : ∃ W2 : World, W1.setCell ⟨bb, 1, none⟩ (.bool true) = W2 := ⟨_, rfl⟩
      rw [hW2] at H2 S2
      have X2 : W2.heap[w.heap.size]? = some (.cells #[.string (bs t), .bool isBad] 89 (0, 0)) := (S2.2 _ (Ne.symm hne)).trans X1
      have n0 : W2.drew.cell? ⟨w.heap.size, 0, none⟩ = some (.string (bs t)) := by show W2.cell? _ = _; rw [Lib.cell_of_heap X2]; rfl
      have d0 : W2.drew.cell? ⟨bb, 0, none⟩ = some vt := by show W2.cell? _ = _; rw [Lib.cell_of_heap H2.blk]; rfl
      obtain ⟨a3, n3, c3, W3, hr3, H3, hb3, K3, hw3⟩ := BodyAt.app (w := W2.drew) (H2.chg (A := fun _ => False) (Chg.below ((Below.refl _ _).drew)) (fun e => e) (fun _ _ e => e)) (trimDot t) (by simp only; have := HTL.out; omega)
      have d3 : W3.cell? ⟨bb, 0, none⟩ = some vt := by rw [Lib.cell_of_heap hb3]; rfl
      have f3 := Lib.frozen_of_heap hb3 0
      have HS2 := Lib.hid S2
      have HH3 := Lib.hid H3
      have HK3 := Lib.hid K3
      have HR3 := Lib.hid hr3
      have HW3 := Lib.hid hw3
      clear h H0 H1 B0 X0 S1 X1 K1 H2 S2 X2 H3 K3 hr3 hw3 hb3
      subst ev
      go_enter Tryz.func73, Tryz.ntmps73
      go_wp2_with fail
      go_region_law (first
        | (refine step_append_run2 rfl _ _ 76 9 rfl _ _ _ W3 rfl rfl HR3.out ?_)
        | (go_simp; go_at_call 113; refine (HTP.out W2.drew).mono ?_; rintro e w9 ⟨rfl, rfl⟩; dsimp only))
      all_goals
        go_wp2_with fail
        refine bodyPost_end (results_none rfl _ _ _) rfl ?_
        refine ⟨rfl, _, by rw [HR.out]; exact HH3.out, ?_, ?_⟩
        · exact ((HK1.out.trans (Chg.same HS2.out) (fun k _ e => .inl e)).trans ((Chg.below ((Below.refl _ _).drew)).trans HK3.out (fun k _ e => e) : Chg (fun k => (Value.slice av txt.length cv).ownBlock = some k) W2 W3) (fun k _ e => .inr e)).trans (Chg.same ((Same.refl _ _).setCell _)) (fun k _ e => .inl e)
        · exact fun k e => (HW3.out k e).imp id (fun e => by have := HS2.out.1; have : W2.heap.size ≤ k := e; omega)
    | true =>
      have HR : Hid (PBody.add ⟨txt, true, true⟩ t isBad size = ⟨txt ++ [13, 10] ++ trimDot t, true, true⟩) := Lib.hid (by unfold PBody.add; rw [if_neg hlt]; simp)
      obtain ⟨a4, n4, c4, W4, hr4, H4, hb4, K4, hw4⟩ := H1.app [13, 10] (by simp only [List.length_cons, List.length_nil]; omega)
      have d4 : W4.cell? ⟨bb, 0, none⟩ = some vt := by rw [Lib.cell_of_heap hb4]; rfl
      have f4 := Lib.frozen_of_heap hb4 0
      have S5 : Same bb W4 (W4.setCell ⟨bb, 0, none⟩ (.slice a4 n4 c4)) := (Same.refl _ _).setCell _
      obtain ⟨W5, hW5⟩ : ∃ W5 : World, W4.setCell ⟨bb, 0, none⟩ (.slice a4 n4 c4) = W5 := ⟨_, rfl⟩
      rw [hW5] at H4 S5
      have d5 : W5.cell? ⟨bb, 1, none⟩ = some (.bool true) := by rw [Lib.cell_of_heap H4.blk]; rfl
      have f5 := Lib.frozen_of_heap H4.blk 1
      have H2 : BodyAt (W5.setCell ⟨bb, 1, none⟩ (.bool true)) bb (.slice a4 n4 c4) ⟨txt ++ [13, 10], true, true⟩ := ⟨heap_setCell_same W5 bb 1 _ _ (.bool true) H4.blk, rowF_same H4.row ((Same.refl _ _).setCell _) H4.far⟩
      have S2 : Same bb W5 (W5.setCell ⟨bb, 1, none⟩ (.bool true)) := (Same.refl _ _).setCell _
      obtain ⟨W2, hW2⟩ : ∃ W2 : World, W5.setCell ⟨bb, 1, none⟩ (.bool true) = W2 := ⟨_, rfl⟩
      rw [hW2] at H2 S2
      have K2 : Chg (fun k => k = bb ∨ vt.ownBlock = some k) w W2 := ((K1.trans K4 (fun k _ e => .inr e)).trans (Chg.same S5) (fun k _ e => .inl e)).trans (Chg.same S2) (fun k _ e => .inl e)
      have X4 : W4.heap[w.heap.size]? = some (.cells #[.string (bs t), .bool isBad] 89 (0, 0)) := K4.some_ X1 (fun e => by
        obtain ⟨cur, z, h1⟩ := rowF_tag H1.row e
        rw [X1] at h1
        simp at h1)
      have X2 : W2.heap[w.heap.size]? = some (.cells #[.string (bs t), .bool isBad] 89 (0, 0)) := (S2.2 _ (Ne.symm hne)).trans ((S5.2 _ (Ne.symm hne)).trans X4)
      have n0 : W2.drew.cell? ⟨w.heap.size, 0, none⟩ = some (.string (bs t)) := by show W2.cell? _ = _; rw [Lib.cell_of_heap X2]; rfl
      have d0 : W2.drew.cell? ⟨bb, 0, none⟩ = some (.slice a4 n4 c4) := by show W2.cell? _ = _; rw [Lib.cell_of_heap H2.blk]; rfl
      obtain ⟨a3, n3, c3, W3, hr3, H3, hb3, K3, hw3⟩ := BodyAt.app (w := W2.drew) (H2.chg (A := fun _ => False) (Chg.below ((Below.refl _ _).drew)) (fun e => e) (fun _ _ e => e)) (trimDot t) (by simp only [List.length_append, List.length_cons, List.length_nil]; have := HTL.out; omega)
      have d3 : W3.cell? ⟨bb, 0, none⟩ = some (.slice a4 n4 c4) := by rw [Lib.cell_of_heap hb3]; rfl
      have f3 := Lib.frozen_of_heap hb3 0
      have hsz2 : w.heap.size ≤ W2.heap.size := K2.size
      have hsz1 : w.heap.size ≤ W1.heap.size := K1.size
      have KF : Chg (fun k => k = bb ∨ vt.ownBlock = some k) w W3 := K2.trans ((Chg.below ((Below.refl _ _).drew)).trans K3 (fun k _ e => e) : Chg (fun k => (Value.slice a4 n4 c4).ownBlock = some k) W2 W3) (fun k hk e => (hw4 k e).elim (fun e => .inr e) (fun e => absurd hk (by omega)))
      have HW3 : Hid (∀ k, (Value.slice a3 n3 c3).ownBlock = some k → vt.ownBlock = some k ∨ w.heap.size ≤ k) := Lib.hid (fun k e => (hw3 k e).elim (fun e => (hw4 k e).imp id (fun e => by omega)) (fun e => .inr (by have : W2.heap.size ≤ k := e; omega)))
      have HH3 := Lib.hid H3
      have HKF := Lib.hid KF
      have HR3 := Lib.hid hr3
      have HR4 := Lib.hid hr4
      clear h H0 H1 B0 X0 S1 X1 K1 H2 S2 X2 H3 K3 hr3 hw3 hb3 H4 hb4 K4 hw4 hr4 S5 K2 X4 KF
      subst ev
      go_enter Tryz.func73, Tryz.ntmps73
      go_wp2_with (first
        | (at_builtin; refine wpList_append_text rfl _ _ 76 9 rfl _ (.slice a4 n4 c4) (bs [13, 10]) W4 rfl rfl HR4.out ?_)
        | fail)
      go_region_law (first
        | (refine step_append_run2 rfl _ _ 76 9 rfl _ _ _ W3 rfl rfl HR3.out ?_)
        | (go_simp; go_at_call 113; refine (HTP.out W2.drew).mono ?_; rintro e w9 ⟨rfl, rfl⟩; dsimp only))
      all_goals
        go_wp2_with fail
        refine bodyPost_end (results_none rfl _ _ _) rfl ?_
        exact ⟨rfl, _, by rw [HR.out]; exact HH3.out, HKF.out.trans (Chg.same ((Same.refl _ _).setCell _)) (fun k _ e => .inl e), HW3.out⟩

set_option maxHeartbeats 1000000 in
set_option maxRecDepth 100000 in
theorem bodyAdd_no (bb : Nat) (vt : Value) (txt : List UInt8) (has : Bool) (t : List UInt8) (isBad : Bool) (size : Int) (w : World) (h : BodyAt w bb vt ⟨txt, has, false⟩) (hB : txt.length ≤ 1073741824) (ht : t.length ≤ 1048576) :
    Calls Tryz.prog 73 #[.pointer (some ⟨bb, 0, none⟩), .agg #[.string (bs t), .bool isBad], .int .i64 size] w fun e w' => e = .returned (.tuple #[]) ∧ ∃ vt', BodyAt w' bb vt' (PBody.add ⟨txt, has, false⟩ t isBad size) ∧ Chg (fun k => k = bb ∨ vt.ownBlock = some k) w w' ∧ ∀ k, vt'.ownBlock = some k → vt.ownBlock = some k ∨ w.heap.size ≤ k := by
  obtain ⟨W0, hW0⟩ : ∃ W0 : World, w.alloc (.cells #[.string (bs t), .bool isBad] 89) = W0 := ⟨_, rfl⟩
  have B0 : Below w.heap.size w W0 := by rw [← hW0]; exact (Below.refl _ _).alloc (Nat.le_refl _) _
  have X0 : W0.heap[w.heap.size]? = some (.cells #[.string (bs t), .bool isBad] 89 (0, 0)) := by rw [← hW0]; exact heap_alloc_new w _
  have bl := heap_some_lt h.blk
  have hne : bb ≠ w.heap.size := by omega
  have H0 : BodyAt W0 bb vt ⟨txt, has, false⟩ := h.chg (A := fun _ => False) (Chg.below B0) (fun e => e) (fun _ _ e => e)
  have S1 : Same bb W0 (W0.setCell ⟨bb, 2, none⟩ (.bool isBad)) := (Same.refl _ _).setCell _
  have H1 : BodyAt (W0.setCell ⟨bb, 2, none⟩ (.bool isBad)) bb vt ⟨txt, has, isBad⟩ := ⟨heap_setCell_same W0 bb 2 _ _ (.bool isBad) H0.blk, rowF_same H0.row S1 H0.far⟩
  have l0 : W0.cell? ⟨w.heap.size, 0, none⟩ = some (.string (bs t)) := by rw [Lib.cell_of_heap X0]; rfl
  have l1 : W0.cell? ⟨w.heap.size, 1, none⟩ = some (.bool isBad) := by rw [Lib.cell_of_heap X0]; rfl
  have c2 : W0.cell? ⟨bb, 2, none⟩ = some (.bool false) := by rw [Lib.cell_of_heap H0.blk]; rfl
  have f2 := Lib.frozen_of_heap H0.blk 2
  obtain ⟨W1, hW1⟩ : ∃ W1 : World, W0.setCell ⟨bb, 2, none⟩ (.bool isBad) = W1 := ⟨_, rfl⟩
  rw [hW1] at H1 S1
  have m0 : W1.cell? ⟨w.heap.size, 0, none⟩ = some (.string (bs t)) := (S1.cell (Ne.symm hne)).trans l0
  have c0 : W1.cell? ⟨bb, 0, none⟩ = some vt := by rw [Lib.cell_of_heap H1.blk]; rfl
  have c1 : W1.cell? ⟨bb, 1, none⟩ = some (.bool has) := by rw [Lib.cell_of_heap H1.blk]; rfl
  have f0 := Lib.frozen_of_heap H1.blk 0
  have f1 := Lib.frozen_of_heap H1.blk 1
  obtain ⟨av, cv, ev⟩ := rowF_len H1.row
  simp only at ev
  have X1 : W1.heap[w.heap.size]? = some (.cells #[.string (bs t), .bool isBad] 89 (0, 0)) := (S1.2 _ (Ne.symm hne)).trans X0
  have K1 : Chg (fun k => k = bb ∨ vt.ownBlock = some k) w W1 := (Chg.below B0).trans (Chg.same S1) (fun k _ e => .inl e)
  have hz1 : w.heap.size < W1.heap.size := by rw [S1.1]; exact heap_some_lt X0
  have HH1 := Lib.hid H1
  have HK1 := Lib.hid K1
  have HX1 := Lib.hid X1
  have HTL := Lib.hid (trimDot_le t)
  have HTP : Hid (∀ W : World, Calls Tryz.prog 113 #[.string (bs t), .string ⟨#[46]⟩] W fun e w' => e = .returned (.string (bs (trimDot t))) ∧ W = w') := Lib.hid (fun W => (Tryz.strings_TrimPrefix (bs t) ⟨#[46]⟩ W).mono (by
    rintro e w' ⟨rfl, rfl⟩
    exact ⟨by rw [← trimPrefix_dot]; rfl, rfl⟩))
  by_cases hlt : size < (txt.length : Int)
  · have HR : Hid (PBody.add ⟨txt, has, false⟩ t isBad size = ⟨txt, has, isBad⟩) := Lib.hid (by unfold PBody.add; rw [if_pos hlt]; simp)
    clear h H0 H1 B0 X0 S1 X1 K1
    subst ev
    go_enter Tryz.func73, Tryz.ntmps73
    go_wp2_with fail
    refine bodyPost_ret (v := .tuple #[]) (by simp [results, Tryz.results73, go_sem]) rfl ?_
    exact ⟨rfl, _, by rw [HR.out]; exact HH1.out, HK1.out, fun k e => .inl e⟩
  · cases has with
    | false =>
      have HR : Hid (PBody.add ⟨txt, false, false⟩ t isBad size = ⟨txt ++ trimDot t, true, isBad⟩) := Lib.hid (by unfold PBody.add; rw [if_neg hlt]; simp)
      have H2 : BodyAt (W1.setCell ⟨bb, 1, none⟩ (.bool true)) bb vt ⟨txt, true, isBad⟩ := ⟨heap_setCell_same W1 bb 1 _ _ (.bool true) H1.blk, rowF_same H1.row ((Same.refl _ _).setCell _) H1.far⟩
      have S2 : Same bb W1 (W1.setCell ⟨bb, 1, none⟩ (.bool true)) := (Same.refl _ _).setCell _
      obtain ⟨W2, hW2⟩ : ∃ W2 : World, W1.setCell ⟨bb, 1, none⟩ (.bool true) = W2 := ⟨_, rfl⟩
      rw [hW2] at H2 S2
      have X2 : W2.heap[w.heap.size]? = some (.cells #[.string (bs t), .bool isBad] 89 (0, 0)) := (S2.2 _ (Ne.symm hne)).trans X1
      have n0 : W2.drew.cell? ⟨w.heap.size, 0, none⟩ = some (.string (bs t)) := by show W2.cell? _ = _; rw [Lib.cell_of_heap X2]; rfl
      have d0 : W2.drew.cell? ⟨bb, 0, none⟩ = some vt := by show W2.cell? _ = _; rw [Lib.cell_of_heap H2.blk]; rfl
      obtain ⟨a3, n3, c3, W3, hr3, H3, hb3, K3, hw3⟩ := BodyAt.app (w := W2.drew) (H2.chg (A := fun _ => False) (Chg.below ((Below.refl _ _).drew)) (fun e => e) (fun _ _ e => e)) (trimDot t) (by simp only; have := HTL.out; omega)
      have d3 : W3.cell? ⟨bb, 0, none⟩ = some vt := by rw [Lib.cell_of_heap hb3]; rfl
      have f3 := Lib.frozen_of_heap hb3 0
      have HS2 := Lib.hid S2
      have HH3 := Lib.hid H3
      have HK3 := Lib.hid K3
      have HR3 := Lib.hid hr3
      have HW3 := Lib.hid hw3
      clear h H0 H1 B0 X0 S1 X1 K1 H2 S2 X2 H3 K3 hr3 hw3 hb3
      subst ev
      go_enter Tryz.func73, Tryz.ntmps73
      go_wp2_with fail
      go_region_law (first
        | (refine step_append_run2 rfl _ _ 76 9 rfl _ _ _ W3 rfl rfl HR3.out ?_)
        | (go_simp; go_at_call 113; refine (HTP.out W2.drew).mono ?_; rintro e w9 ⟨rfl, rfl⟩; dsimp only))
      all_goals
        go_wp2_with fail
        refine bodyPost_end (results_none rfl _ _ _) rfl ?_
        refine ⟨rfl, _, by rw [HR.out]; exact HH3.out, ?_, ?_⟩
        · exact ((HK1.out.trans (Chg.same HS2.out) (fun k _ e => .inl e)).trans ((Chg.below ((Below.refl _ _).drew)).trans HK3.out (fun k _ e => e) : Chg (fun k => (Value.slice av txt.length cv).ownBlock = some k) W2 W3) (fun k _ e => .inr e)).trans (Chg.same ((Same.refl _ _).setCell _)) (fun k _ e => .inl e)
        · exact fun k e => (HW3.out k e).imp id (fun e => by have := HS2.out.1; have : W2.heap.size ≤ k := e; omega)
    | true =>
      have HR : Hid (PBody.add ⟨txt, true, false⟩ t isBad size = ⟨txt ++ [13, 10] ++ trimDot t, true, isBad⟩) := Lib.hid (by unfold PBody.add; rw [if_neg hlt]; simp)
      obtain ⟨a4, n4, c4, W4, hr4, H4, hb4, K4, hw4⟩ := H1.app [13, 10] (by simp only [List.length_cons, List.length_nil]; omega)
      have d4 : W4.cell? ⟨bb, 0, none⟩ = some vt := by rw [Lib.cell_of_heap hb4]; rfl
      have f4 := Lib.frozen_of_heap hb4 0
      have S5 : Same bb W4 (W4.setCell ⟨bb, 0, none⟩ (.slice a4 n4 c4)) := (Same.refl _ _).setCell _
      obtain ⟨W5, hW5⟩ : ∃ W5 : World, W4.setCell ⟨bb, 0, none⟩ (.slice a4 n4 c4) = W5 := ⟨_, rfl⟩
      rw [hW5] at H4 S5
      have d5 : W5.cell? ⟨bb, 1, none⟩ = some (.bool true) := by rw [Lib.cell_of_heap H4.blk]; rfl
      have f5 := Lib.frozen_of_heap H4.blk 1
      have H2 : BodyAt (W5.setCell ⟨bb, 1, none⟩ (.bool true)) bb (.slice a4 n4 c4) ⟨txt ++ [13, 10], true, isBad⟩ := ⟨heap_setCell_same W5 bb 1 _ _ (.bool true) H4.blk, rowF_same H4.row ((Same.refl _ _).setCell _) H4.far⟩
      have S2 : Same bb W5 (W5.setCell ⟨bb, 1, none⟩ (.bool true)) := (Same.refl _ _).setCell _
      obtain ⟨W2, hW2⟩ : ∃ W2 : World, W5.setCell ⟨bb, 1, none⟩ (.bool true) = W2 := ⟨_, rfl⟩
      rw [hW2] at H2 S2
      have K2 : Chg (fun k => k = bb ∨ vt.ownBlock = some k) w W2 := ((K1.trans K4 (fun k _ e => .inr e)).trans (Chg.same S5) (fun k _ e => .inl e)).trans (Chg.same S2) (fun k _ e => .inl e)
      have X4 : W4.heap[w.heap.size]? = some (.cells #[.string (bs t), .bool isBad] 89 (0, 0)) := K4.some_ X1 (fun e => by
        obtain ⟨cur, z, h1⟩ := rowF_tag H1.row e
        rw [X1] at h1
        simp at h1)
      have X2 : W2.heap[w.heap.size]? = some (.cells #[.string (bs t), .bool isBad] 89 (0, 0)) := (S2.2 _ (Ne.symm hne)).trans ((S5.2 _ (Ne.symm hne)).trans X4)
      have n0 : W2.drew.cell? ⟨w.heap.size, 0, none⟩ = some (.string (bs t)) := by show W2.cell? _ = _; rw [Lib.cell_of_heap X2]; rfl
      have d0 : W2.drew.cell? ⟨bb, 0, none⟩ = some (.slice a4 n4 c4) := by show W2.cell? _ = _; rw [Lib.cell_of_heap H2.blk]; rfl
      obtain ⟨a3, n3, c3, W3, hr3, H3, hb3, K3, hw3⟩ := BodyAt.app (w := W2.drew) (H2.chg (A := fun _ => False) (Chg.below ((Below.refl _ _).drew)) (fun e => e) (fun _ _ e => e)) (trimDot t) (by simp only [List.length_append, List.length_cons, List.length_nil]; have := HTL.out; omega)
      have d3 : W3.cell? ⟨bb, 0, none⟩ = some (.slice a4 n4 c4) := by rw [Lib.cell_of_heap hb3]; rfl
      have f3 := Lib.frozen_of_heap hb3 0
      have hsz2 : w.heap.size ≤ W2.heap.size := K2.size
      have hsz1 : w.heap.size ≤ W1.heap.size := K1.size
      have KF : Chg (fun k => k = bb ∨ vt.ownBlock = some k) w W3 := K2.trans ((Chg.below ((Below.refl _ _).drew)).trans K3 (fun k _ e => e) : Chg (fun k => (Value.slice a4 n4 c4).ownBlock = some k) W2 W3) (fun k hk e => (hw4 k e).elim (fun e => .inr e) (fun e => absurd hk (by omega)))
      have HW3 : Hid (∀ k, (Value.slice a3 n3 c3).ownBlock = some k → vt.ownBlock = some k ∨ w.heap.size ≤ k) := Lib.hid (fun k e => (hw3 k e).elim (fun e => (hw4 k e).imp id (fun e => by omega)) (fun e => .inr (by have : W2.heap.size ≤ k := e; omega)))
      have HH3 := Lib.hid H3
      have HKF := Lib.hid KF
      have HR3 := Lib.hid hr3
      have HR4 := Lib.hid hr4
      clear h H0 H1 B0 X0 S1 X1 K1 H2 S2 X2 H3 K3 hr3 hw3 hb3 H4 hb4 K4 hw4 hr4 S5 K2 X4 KF
      subst ev
      go_enter Tryz.func73, Tryz.ntmps73
      go_wp2_with (first
        | (at_builtin; refine wpList_append_text rfl _ _ 76 9 rfl _ (.slice a4 n4 c4) (bs [13, 10]) W4 rfl rfl HR4.out ?_)
        | fail)
      go_region_law (first
        | (refine step_append_run2 rfl _ _ 76 9 rfl _ _ _ W3 rfl rfl HR3.out ?_)
        | (go_simp; go_at_call 113; refine (HTP.out W2.drew).mono ?_; rintro e w9 ⟨rfl, rfl⟩; dsimp only))
      all_goals
        go_wp2_with fail
        refine bodyPost_end (results_none rfl _ _ _) rfl ?_
        exact ⟨rfl, _, by rw [HR.out]; exact HH3.out, HKF.out.trans (Chg.same ((Same.refl _ _).setCell _)) (fun k _ e => .inl e), HW3.out⟩

theorem bodyAdd_any (bb : Nat) (vt : Value) (B : PBody) (t : List UInt8) (isBad : Bool) (size : Int) (w : World) (h : BodyAt w bb vt B) (hB : B.text.length ≤ 1073741824) (ht : t.length ≤ 1048576) :
    Calls Tryz.prog 73 #[.pointer (some ⟨bb, 0, none⟩), .agg #[.string (bs t), .bool isBad], .int .i64 size] w fun e w' => e = .returned (.tuple #[]) ∧ ∃ vt', BodyAt w' bb vt' (B.add t isBad size) ∧ Chg (fun k => k = bb ∨ vt.ownBlock = some k) w w' ∧ ∀ k, vt'.ownBlock = some k → vt.ownBlock = some k ∨ w.heap.size ≤ k := by
  obtain ⟨txt, has, bad⟩ := B
  cases bad with
  | true => exact bodyAdd_yes bb vt txt has t isBad size w h hB ht
  | false => exact bodyAdd_no bb vt txt has t isBad size w h hB ht
end Go.Proofs.YtadcidbeealdpaaGreatDoor

/- A transaction begins, or does not. -/
namespace Go.Proofs.YtadcidbeealdpaaGreatDoor
open Go.RowKit

set_option maxHeartbeats 400000 in
set_option maxRecDepth 100000 in
theorem beginTx_busy (sb ch tb : Nat) (C : Array Value) (frm : List UInt8) (size : Int) (w : World) (h : SesAt w sb ch C []) (h8 : C[8]? = some (.pointer (some ⟨tb, 0, none⟩))) :
    Calls Tryz.prog 80 #[.pointer (some ⟨sb, 0, none⟩), .string (bs frm), .int .i64 size] w fun e w' => e = .returned (.tuple #[]) ∧ SesAt w' sb ch C [[53, 48, 51, 32, 102, 105, 114, 115, 116, 13, 10]] ∧ Same ch w w' := by
  have HT := Lib.hid (h.tell (by simp) [53, 48, 51, 32, 102, 105, 114, 115, 116] (by decide))
  have c8 := (h.cell 8).trans h8
  clear h
  go_enter Tryz.func80, Tryz.ntmps80
  go_wp2_with fail
  refine HT.out.mono ?_
  rintro e w1 ⟨rfl, h1, hS1⟩
  go_wp2_with fail
  refine bodyPost_end (results_none rfl _ _ _) rfl ?_
  exact ⟨rfl, h1, hS1⟩

set_option maxHeartbeats 400000 in
set_option maxRecDepth 100000 in
theorem beginTx_long (sb ch pp : Nat) (C : Array Value) (frm : List UInt8) (size S : Int) (w : World) (h : SesAt w sb ch C []) (h8 : C[8]? = some (.pointer none)) (h0 : C[0]? = some (.pointer (some ⟨pp, 0, none⟩))) (hp : w.cell? ⟨pp, 5, none⟩ = some (.int .i64 S)) (hlt : S < size) :
    Calls Tryz.prog 80 #[.pointer (some ⟨sb, 0, none⟩), .string (bs frm), .int .i64 size] w fun e w' => e = .returned (.tuple #[]) ∧ SesAt w' sb ch C [[53, 53, 50, 32, 115, 105, 122, 101, 13, 10]] ∧ Same ch w w' := by
  have HT := Lib.hid (h.tell (by simp) [53, 53, 50, 32, 115, 105, 122, 101] (by decide))
  have c8 := (h.cell 8).trans h8
  have c0 := (h.cell 0).trans h0
  clear h
  go_enter Tryz.func80, Tryz.ntmps80
  go_wp2_with fail
  refine HT.out.mono ?_
  rintro e w1 ⟨rfl, h1, hS1⟩
  go_wp2_with fail
  refine bodyPost_end (results_none rfl _ _ _) rfl ?_
  exact ⟨rfl, h1, hS1⟩

set_option maxHeartbeats 400000 in
set_option maxRecDepth 100000 in
theorem beginTx_any (sb ch pp : Nat) (C : Array Value) (frm : List UInt8) (size S : Int) (w : World) (h : SesAt w sb ch C []) (h8 : C[8]? = some (.pointer none)) (h0 : C[0]? = some (.pointer (some ⟨pp, 0, none⟩))) (hp : w.cell? ⟨pp, 5, none⟩ = some (.int .i64 S)) (hle : ¬ S < size) :
    Calls Tryz.prog 80 #[.pointer (some ⟨sb, 0, none⟩), .string (bs frm), .int .i64 size] w fun e w' => e = .returned (.tuple #[]) ∧ SesAt w' sb ch (C.setIfInBounds 8 (.pointer (some ⟨w.heap.size, 0, none⟩))) [[50, 53, 48, 32, 111, 107, 13, 10]] ∧ w'.heap[w.heap.size]? = some (.cells #[.string (bs frm), .slice none 0 0, .pointer none] 158 (0, 0)) ∧ (∀ k, k < w.heap.size → k ≠ sb → k ≠ ch → w'.heap[k]? = w.heap[k]?) ∧ Still w w' ∧ w.heap.size ≤ w'.heap.size := by
  have c8 := (h.cell 8).trans h8
  have c0 := (h.cell 0).trans h0
  have bl : sb < w.heap.size := (Array.getElem?_eq_some_iff.1 h.blk).1
  have a8 : ∀ o : Obj, (w.alloc o).cell? ⟨sb, 8, none⟩ = some (.pointer none) := fun o => by rw [Lib.cell_of_heap ((((Below.refl w.heap.size w).alloc (Nat.le_refl _) o).block sb bl).trans h.blk)]; exact h8
  have g8 : ∀ o : Obj, (w.alloc o).frozen? ⟨sb, 8, none⟩ = false := fun o => Lib.frozen_of_heap ((((Below.refl w.heap.size w).alloc (Nat.le_refl _) o).block sb bl).trans h.blk) 8
  have S1 : Same sb w (w.setCell ⟨sb, 8, none⟩ (.pointer (some ⟨w.heap.size, 0, none⟩))) := (Same.refl _ _).setCell _
  have H1 := h.set 8 (by decide) (.pointer (some ⟨w.heap.size, 0, none⟩))
  obtain ⟨W1, hW1⟩ : ∃ W1 : World, w.setCell ⟨sb, 8, none⟩ (.pointer (some ⟨w.heap.size, 0, none⟩)) = W1 := ⟨_, rfl⟩
  rw [hW1] at S1 H1
  obtain ⟨W2, hW2⟩ : ∃ W2 : World, W1.alloc (.cells #[.string (bs frm), .slice none 0 0, .pointer none] 158) = W2 := ⟨_, rfl⟩
  have B2 : Below W1.heap.size W1 W2 := by rw [← hW2]; exact (Below.refl _ _).alloc (Nat.le_refl _) _
  have X2 : W2.heap[w.heap.size]? = some (.cells #[.string (bs frm), .slice none 0 0, .pointer none] 158 (0, 0)) := by rw [← hW2, ← S1.1]; exact heap_alloc_new W1 _
  have HT := Lib.hid ((H1.below B2).tell (by simp) [50, 53, 48, 32, 111, 107] (by decide))
  have nch : ch ≠ w.heap.size := by obtain ⟨s, r, hc⟩ := h.chan; have := (Array.getElem?_eq_some_iff.1 hc).1; omega
  have HS1 := Lib.hid S1
  have HB2 := Lib.hid B2
  have HX2 := Lib.hid X2
  have HW1 := Lib.hid hW1
  have HW2 := Lib.hid hW2
  clear h H1 B2 X2 hW1 hW2 S1
  go_enter Tryz.func80, Tryz.ntmps80
  go_wp2_with fail
  rw [HW1.out, HW2.out]
  refine HT.out.mono ?_
  rintro e w3 ⟨rfl, h3, hS3⟩
  go_wp2_with fail
  refine bodyPost_end (results_none rfl _ _ _) rfl ?_
  have hsz : W1.heap.size = w.heap.size := HS1.out.1
  refine ⟨rfl, h3, (hS3.2 _ (Ne.symm nch)).trans HX2.out, fun k h1 h2 h4 => (hS3.2 k h4).trans ((HB2.out.block k (by omega)).trans (HS1.out.2 k h2)), (HS1.out.3.trans ⟨HB2.out.1, HB2.out.2, HB2.out.3⟩).trans hS3.3, ?_⟩
  rw [hS3.1]
  have := HB2.out.size
  omega
end Go.Proofs.YtadcidbeealdpaaGreatDoor
