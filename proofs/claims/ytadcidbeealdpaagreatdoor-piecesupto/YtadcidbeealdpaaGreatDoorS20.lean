import Derived.Test.YtadcidbeealdpaaGreatDoorS16
import Derived.Test.YtadcidbeealdpaaGreatDoorS13
import Derived.Deep.AppendLies
import Derived.Test.YtadcidbeealdpaaGreatDoorS19
import Derived.Test.YtadcidbeealdpaaGreatDoorS08
import Derived.Test.YtadcidbeealdpaaGreatDoorS10
import Derived.Test.YtadcidbeealdpaaGreatDoorS12
import Derived.Deep.QuietTactic
import Derived.BigQuiet
import Derived.Lib.LaidTab
import Derived.WalkSmall

/- Is the domain of an address one of the domains? -/
namespace Go.Proofs.YtadcidbeealdpaaGreatDoor
open Go.RowKit

def asciiB (s : ByteArray) : Prop := ∀ (j : Nat) (b : UInt8), s.data.toList[j]? = some b → b.toNat < 128
def isDom (dom : ByteArray) (d : ByteArray) : Bool := Lib.equalFold d.data.toList dom.data.toList

set_option maxHeartbeats 1000000 in
theorem domFn_any (d dom : ByteArray) (pc : Nat) (w : World) (hc : w.cell? ⟨pc, 0, none⟩ = some (.string dom)) (hs : d.size ≤ 255) (h1 : asciiB d) (h2 : asciiB dom) :
    Calls Tryz.prog 195 #[.string d, .pointer (some ⟨pc, 0, none⟩)] w fun e w' => e = .returned (.bool (isDom dom d)) ∧ Below w.heap.size w w' := by
  have HF : Hid (∀ W : World, Calls Tryz.prog 167 #[.string d, .string dom] W fun e w' => e = .returned (.bool (Lib.equalFold d.data.toList dom.data.toList)) ∧ w' = W) := Lib.hid (fun W => Tryz.strings_EqualFold d dom W (by omega) h1 h2)
  clear h1 h2
  go_enter Tryz.func195, Tryz.ntmps195
  go_wp2_with fail
  refine (HF.out _).mono ?_
  rintro e w1 ⟨rfl, rfl⟩
  go_wp2_with fail
  go_ret
  exact ⟨rfl, Below.refl _ _⟩

theorem any_take_succB {l : List ByteArray} {p : ByteArray → Bool} {k : Nat} (h : k < l.length) (h0 : (l.take k).any p = false) (h1 : p l[k] = false) : (l.take (k + 1)).any p = false := by
  rw [List.take_succ_eq_append_getElem h, List.any_append, h0]
  simp [h1]

set_option maxHeartbeats 1000000 in
set_option maxRecDepth 100000 in
theorem indexFuncS_any (l : List ByteArray) (v : Value) (pc : Nat) (dom : ByteArray) (w : World) (hv : RowAt w v l.length 1 (strCellsOf l)) (hc : w.cell? ⟨pc, 0, none⟩ = some (.string dom)) (hl : l.length ≤ 5) (hz : ∀ d ∈ l, d.size ≤ 255 ∧ asciiB d) (h2 : asciiB dom) :
    Calls Tryz.prog 221 #[v, .func (.func 195) #[] #[.pointer (some ⟨pc, 0, none⟩)]] w fun e w' => ∃ r : Int, e = .returned (.int .i64 r) ∧ (-1 ≤ r ∧ r ≤ 255) ∧ decide (0 ≤ r) = l.any (isDom dom) ∧ Below w.heap.size w w' := by
  obtain ⟨av, cv, rfl, hcell⟩ := hv.one
  have HV := Lib.hid hcell
  have HC := Lib.hid hc
  have HZ := Lib.hid hz
  have H2 := Lib.hid h2
  obtain ⟨s, hs⟩ : ∃ s, w.heap.size = s := ⟨_, rfl⟩
  have HSS := Lib.hid hs
  clear hv hs hc hcell hz h2
  go_enter Tryz.func221, Tryz.ntmps221
  go_wp2_with fail
  go_loopw [5, 8] (fun _ i w' => ∃ k : Nat, k ≤ l.length ∧ i = .int .i64 k ∧ Hid ((l.take k).any (isDom dom) = false) ∧ Hid (Below s w w')) (fun _ i _ => l.length - (intOf i).toNat)
  case atStart => exact ⟨0, Nat.zero_le _, rfl, Lib.hid rfl, Lib.hid (by rw [← HSS.out]; exact Below.refl _ _)⟩
  case round =>
    obtain ⟨k, hk, rfl, HN, HB⟩ := hrel
    by_cases hlt : k < l.length
    · have hlti : (k : Int) < (l.length : Int) := by omega
      obtain ⟨g, off, rfl, hgl, c0⟩ := HV.out k hlt
      rw [strCellsOf, List.getElem?_map, List.getElem?_eq_getElem hlt] at c0
      have d0 : wr.cell? ⟨g, off + k, none⟩ = some (.string l[k]) := (HB.out.cell (by show g < s; rw [← HSS.out]; exact hgl)).trans c0
      have dc : wr.cell? ⟨pc, 0, none⟩ = some (.string dom) := (HB.out.cell (by show pc < s; rw [← HSS.out]; exact block_lt HC.out)).trans HC.out
      have HX : Hid (∀ b : Bool, isDom dom l[k] = b → (b = true → l.any (isDom dom) = true) ∧ (b = false → (l.take (k + 1)).any (isDom dom) = false)) := Lib.hid (fun b hb => ⟨fun e => List.any_eq_true.2 ⟨_, List.getElem_mem hlt, by rw [hb, e]⟩, fun e => any_take_succB hlt HN.out (by rw [hb, e])⟩)
      have hzk := HZ.out l[k] (List.getElem_mem hlt)
      obtain ⟨x, ex⟩ : ∃ x, l[k] = x := ⟨_, rfl⟩
      rw [ex] at d0 HX hzk
      have hcall := Lib.hid (domFn_any x dom pc wr dc hzk.1 hzk.2 H2.out)
      have hsr : s ≤ wr.heap.size := by have := HB.out.size; have := HSS.out; omega
      clear ex c0 dc HN hzk
      cases hq : isDom dom x with
      | true =>
        have HA := Lib.hid ((HX.out true hq).1 rfl)
        rw [hq] at hcall
        clear HX hq
        go_wp2_with (first | (go_at_call 195; refine hcall.out.mono ?_; rintro e w2 ⟨rfl, hb2⟩) | fail)
        go_ret
        exact ⟨_, rfl, by omega, by rw [HA.out]; simp, by rw [HSS.out]; exact HB.out.trans (hb2.mono hsr)⟩
      | false =>
        have HA := Lib.hid ((HX.out false hq).2 rfl)
        rw [hq] at hcall
        clear HX hq
        go_wp2_with (first | (go_at_call 195; refine hcall.out.mono ?_; rintro e w2 ⟨rfl, hb2⟩) | fail)
        exact ⟨⟨k + 1, by omega, by go_num, HA, Lib.hid (HB.out.trans (hb2.mono hsr))⟩, by simp [intOf]; omega⟩
    · have hk9 : k = l.length := by omega
      subst hk9
      rw [List.take_length] at HN
      go_wp2_with fail
      go_ret
      exact ⟨_, rfl, by omega, by rw [HN.out]; rfl, by rw [HSS.out]; exact HB.out⟩

set_option maxHeartbeats 1000000 in
theorem containsFuncS_any (l : List ByteArray) (v : Value) (pc : Nat) (dom : ByteArray) (w : World) (hv : RowAt w v l.length 1 (strCellsOf l)) (hc : w.cell? ⟨pc, 0, none⟩ = some (.string dom)) (hl : l.length ≤ 5) (hz : ∀ d ∈ l, d.size ≤ 255 ∧ asciiB d) (h2 : asciiB dom) :
    Calls Tryz.prog 194 #[v, .func (.func 195) #[] #[.pointer (some ⟨pc, 0, none⟩)]] w fun e w' => e = .returned (.bool (l.any (isDom dom))) ∧ Below w.heap.size w w' := by
  have hi := indexFuncS_any l v pc dom w hv hc hl hz h2
  clear hv hc hz h2
  go_enter Tryz.func194, Tryz.ntmps194
  go_wp2_with fail
  refine hi.mono ?_
  rintro e w' ⟨r, rfl, hr, hd, hb⟩
  have HD := Lib.hid hd
  clear hd hi
  go_wp2_with fail
  go_ret
  exact ⟨by rw [← HD.out]; rfl, hb⟩

theorem toLowerA_ascii {l : List UInt8} (h : ∀ (j : Nat) (b : UInt8), l[j]? = some b → b.toNat < 128) : ∀ (j : Nat) (b : UInt8), (Lib.toLowerA l)[j]? = some b → b.toNat < 128 := by
  intro j b hb
  unfold Lib.toLowerA at hb
  rw [List.getElem?_map, Option.map_eq_some_iff] at hb
  obtain ⟨a, ha, rfl⟩ := hb
  have := h j a ha
  unfold Lib.lowerB
  split
  · rename_i hc
    unfold Lib.isUpperB at hc
    simp only [Bool.and_eq_true, decide_eq_true_eq, UInt8.le_iff_toNat_le, UInt8.reduceToNat] at hc
    rw [UInt8.toNat_add]
    simp only [UInt8.reduceToNat]
    omega
  · exact this
theorem addr_ascii {l x y : List UInt8} {f : Bool} (h : addrR l = (x, y, f)) : ∀ (j : Nat) (b : UInt8), y[j]? = some b → b.toNat < 128 := by
  unfold addrR at h
  split at h
  · rename_i hc
    rw [Bool.and_eq_true] at hc
    injection h with _ h
    injection h with h _
    rw [← h]
    exact toLowerA_ascii (dom_ascii _ hc.2)
  · injection h with _ h
    injection h with h _
    rw [← h]
    intro j b hb
    simp at hb
theorem may_doms {c : Cfg} (h : mayB c = true) : ∀ d ∈ c.doms, d.size ≤ 255 ∧ asciiB d := by
  have hs := may_small h
  unfold mayB domsB netsB usersB waitsB at h
  simp only [Bool.and_eq_true, decide_eq_true_eq, List.all_eq_true] at h
  obtain ⟨⟨⟨⟨⟨⟨⟨⟨h1, h2, h3⟩, _⟩, _⟩, _⟩, _⟩, _⟩, _⟩, _⟩ := h
  exact fun d hd => ⟨hs.domz d hd, dom_ascii _ (h3 d hd)⟩

/-- may be sent to whoever has this name? -/
def domOk (c : Cfg) (name : List UInt8) : Bool := (addrR name).2.2 && c.doms.any (isDom (bs (addrR name).2.1))

set_option maxHeartbeats 1000000 in
set_option maxRecDepth 100000 in
theorem hasDomainOf_any (c : Cfg) (vD vN vU vW : Value) (name : List UInt8) (m : Int) (w : World) (h : CfgAt w c vD vN vU vW) (hc : mayB c = true) (hn : name.length ≤ 1048576) (hm : w.cell? ⟨0, 0, none⟩ = some (.int .i64 m)) :
    Calls Tryz.prog 159 #[.agg #[.string c.host, vD, vN, vU, .int .i64 c.most, .int .i64 c.size, vW, .int .i64 c.life, .int .i64 c.room], .string (bs name)] w fun e w' => e = .returned (.bool (domOk c name)) ∧ Below w.heap.size w w' := by
  obtain ⟨aD, cD, eD⟩ := slice_of h.1
  obtain ⟨aN, cN, eN⟩ := slice_of h.2.1
  obtain ⟨aU, cU, eU⟩ := slice_of h.2.2.1
  obtain ⟨aW, cW, eW⟩ := slice_of h.2.2.2
  subst eD eN eU eW
  obtain ⟨W0, hW0⟩ : ∃ W0 : World, w.alloc (.cells #[.string c.host, .slice aD c.doms.length cD, .slice aN c.nets.length cN, .slice aU c.users.length cU, .int .i64 c.most, .int .i64 c.size, .slice aW c.waits.length cW, .int .i64 c.life, .int .i64 c.room] 27) = W0 := ⟨_, rfl⟩
  have B0 : Below w.heap.size w W0 := by rw [← hW0]; exact (Below.refl _ _).alloc (Nat.le_refl _) _
  have X0 : W0.heap[w.heap.size]? = some (.cells #[.string c.host, .slice aD c.doms.length cD, .slice aN c.nets.length cN, .slice aU c.users.length cU, .int .i64 c.most, .int .i64 c.size, .slice aW c.waits.length cW, .int .i64 c.life, .int .i64 c.room] 27 (0, 0)) := by rw [← hW0]; exact heap_alloc_new w _
  have hsz := bs_size name
  have HX0 := Lib.hid X0
  have HB0 := Lib.hid B0
  have HW0 := Lib.hid hW0
  have HC := Lib.hid h.1
  have HM := Lib.hid hc
  have m0 : W0.cell? ⟨0, 0, none⟩ = some (.int .i64 m) := (B0.cell (by exact block_lt hm)).trans hm
  have HR := Lib.hid (read_any (bs name) m W0 (by omega) m0)
  clear h B0 X0 hW0 hm hc m0
  go_enter Tryz.func159, Tryz.ntmps159
  go_wp2_with fail
  rw [HW0.out]
  refine HR.out.mono ?_
  rintro e w2 ⟨x, y, f, rfl, hR, hb2⟩
  have HRR : Hid (addrR name = (x.data.toList, y.data.toList, f)) := Lib.hid (by rw [← hR, bs_toList])
  have HB2 := Lib.hid ((HB0.out.trans (hb2.mono HB0.out.size)))
  have HX2 := Lib.hid (below_some hb2 HX0.out)
  clear hR hb2 HX0 HR
  cases f with
  | false =>
    have HD : Hid (domOk c name = false) := Lib.hid (by unfold domOk; rw [HRR.out]; rfl)
    go_wp2_with fail
    go_ret
    exact ⟨by rw [HD.out]; rfl, HB2.out.alloc HB2.out.size _⟩
  | true =>
    have HD : Hid (domOk c name = c.doms.any (isDom y)) := Lib.hid (by unfold domOk; rw [HRR.out]; simp only [Bool.true_and]; congr 1)
    obtain ⟨W3, hW3⟩ : ∃ W3 : World, w2.alloc (.cells #[.string y] 9) = W3 := ⟨_, rfl⟩
    have B3 : Below w2.heap.size w2 W3 := by rw [← hW3]; exact (Below.refl _ _).alloc (Nat.le_refl _) _
    have X3 : W3.heap[w2.heap.size]? = some (.cells #[.string y] 9 (0, 0)) := by rw [← hW3]; exact heap_alloc_new w2 _
    have c3 : W3.cell? ⟨w2.heap.size, 0, none⟩ = some (.string y) := by rw [Lib.cell_of_heap X3]; rfl
    have hX3 := below_some B3 HX2.out
    have y1 : W3.cell? ⟨w.heap.size, 1, none⟩ = some (.slice aD c.doms.length cD) := by rw [Lib.cell_of_heap hX3]; rfl
    have HB3 := Lib.hid (HB2.out.trans (B3.mono HB2.out.size))
    have HCF := Lib.hid (containsFuncS_any c.doms _ w2.heap.size y W3 (HC.out.below HB3.out) c3 (may_small HM.out).doms (may_doms HM.out) (addr_ascii HRR.out))
    clear B3 X3 c3 hX3 HC HM HRR HX2
    go_wp2_with (first | (go_at_call 194; refine HCF.out.mono ?_; rintro e w9 ⟨rfl, hb9⟩) | fail)
    go_ret
    exact ⟨by rw [HD.out]; rfl, HB3.out.trans (hb9.mono HB3.out.size)⟩
end Go.Proofs.YtadcidbeealdpaaGreatDoor

/- append onto a list of one's own: in its own row, or in a new block while nothing that was there turns. -/
namespace Go.Proofs.YtadcidbeealdpaaGreatDoor

section
variable {P : Program} (w : World)
theorem run_append_sharp (t ty : TypeId) (base : Nat) (e : TypeId) (i : TypeInfo) (z : Value) (size bytes : Nat) (ht : P.underlying t = some (.slice e)) (hi : P.info? e = some i) (hz : i.zero = some z)
    (hsize : i.size = size) (hby : i.bytes = bytes) (hzs : z.cells.size = size) (hsz : 0 < size)
    (v : Value) (n : Nat) (xs : List Value) (hown : w.ownsRow base e size v n xs)
    (ad : Addr) (m c : Nat) (news : List Value) (hl : news.length = m * size) (hnews : ∀ j u, news[j]? = some u → w.cell? (ad.add j) = some u) (h1 : ∀ u ∈ news, u.oneCell' = true)
    (hm : 0 < m) (h63 : n + m ≤ maxLen) (hbytes : (n + m) * bytes ≤ 140737488355328) (hbase : base ≤ w.heap.size) :
    ∃ g cap w', (Builtin.append_ #[t, t] ty #[v, .slice (some ad) m c]).run P w = .ok (.slice (some ⟨g, 0, none⟩) (n + m) cap) w' ∧
      w'.ownsRow base e size (.slice (some ⟨g, 0, none⟩) (n + m) cap) (n + m) (xs ++ news) ∧ ((v.ownBlock = some g ∧ w.grownBy w' (some g)) ∨ (g = w.heap.size ∧ w.grownBy w' none)) := by
  obtain ⟨g, cap, w', hr, h2, h3, h4, h5⟩ := run_append_lies (P := P) w t ty base e i z size bytes ht hi hz hsize hby hzs hsz v n xs hown ad m c news hl hnews h1 hm h63 hbytes hbase w.heap.size rfl
  refine ⟨g, cap, w', hr, h2, ?_⟩
  rcases hown.2 with ⟨rfl, _⟩ | ⟨g0, cap0, cur, rfl, hbg, hg, hnc, hcm, hcs, htake⟩
  · rcases h4 with h4 | h4
    · cases h4
    · exact .inr ⟨h4, h3⟩
  · have hb : (Value.slice (some ⟨g0, 0, none⟩) n cap0).ownBlock = some g0 := rfl
    subst hsize
    by_cases hroom : n + m ≤ cap0
    · have hfit : n * i.size + news.length ≤ cur.size := by rw [hl, hcs, ← Nat.add_mul]; exact Nat.mul_le_mul_right _ hroom
      have hr' := run_append_room (P := P) w t ty e i ht hi g0 n cap0 cur hg ad m c news hl hnews h1 hroom hfit
      rw [hr] at hr'
      injection hr' with e1 e2
      injection e1 with e1 _ _
      injection e1 with e1
      injection e1 with e1 _
      subst e1
      exact .inl ⟨rfl, h3⟩
    · subst hby
      have hr' := run_append_grow (P := P) w t ty e i z ht hi hz ⟨g0, 0, none⟩ n cap0 xs hown.1 (hown.cells (g := g0) rfl) ad m c news hl hnews (by omega) (by simp only [maxLen] at h63; omega) (growslice_fits (by omega) hbytes)
      rw [hr] at hr'
      injection hr' with e1 e2
      injection e1 with e1 _ _
      injection e1 with e1
      injection e1 with e1 _
      subst e1
      rw [e2]
      exact .inr ⟨rfl, ⟨rfl, rfl, rfl, by simp, fun k hk _ => (by first | exact heap_alloc_old w.drew _ k hk | exact heap_alloc_old w.drew _ hk)⟩⟩
theorem wpList_append_sharp {ops : Array Oper} {rest : List Oper} {o : Oper} {a : Act} {Q : Exit → Act → World → Prop} (hgd : o.guard = none) (s x : Operand) (t : TypeId)
    (ho : o.op = .call { callee := .builtin .append, args := #[s, x], argTypes := #[t, t] })
    (base : Nat) (e : TypeId) (i : TypeInfo) (z : Value) (size bytes : Nat) (ht : P.underlying t = some (.slice e)) (hi : P.info? e = some i) (hz : i.zero = some z)
    (hsize : i.size = size) (hby : i.bytes = bytes) (hzs : z.cells.size = size) (hsz : 0 < size)
    (v : Value) (n : Nat) (xs : List Value) (hs : a.eval s = v) (hown : w.ownsRow base e size v n xs)
    (ad : Addr) (m c : Nat) (news : List Value) (hx : a.eval x = .slice (some ad) m c) (hl : news.length = m * size) (hnews : ∀ j u, news[j]? = some u → w.cell? (ad.add j) = some u) (h1 : ∀ u ∈ news, u.oneCell' = true)
    (hm : 0 < m) (h63 : n + m ≤ maxLen) (hbytes : (n + m) * bytes ≤ 140737488355328) (hbase : base ≤ w.heap.size)
    (h : ∀ g cap w', w'.ownsRow base e size (.slice (some ⟨g, 0, none⟩) (n + m) cap) (n + m) (xs ++ news) → ((v.ownBlock = some g ∧ w.grownBy w' (some g)) ∨ (g = w.heap.size ∧ w.grownBy w' none)) → wpList P ops Q rest (a.put o.dst (.slice (some ⟨g, 0, none⟩) (n + m) cap)) w') : wpList P ops Q (o :: rest) a w := by
  refine wpList_plain hgd fun K hK => ?_
  obtain ⟨g, cap, w', hr, h2, h3⟩ := run_append_sharp (P := P) w t o.type base e i z size bytes ht hi hz hsize hby hzs hsz v n xs hown ad m c news hl hnews h1 hm h63 hbytes hbase
  unfold Oper.wp execOp
  simp only [ho, resolve, invoke, builtin, Sem.run_bind, Sem.run_pure, Result.andThen_ok, List.map_toArray, List.map_cons, List.map_nil, hs, hx, hr]
  exact hK _ _ (h g cap w' h2 h3)
theorem step_append_sharp {ops : Array Oper} {o : Oper} {a : Act} {K : Act → World → Prop} {Q : Exit → Act → World → Prop} {E : Prop} (hgd : o.guard = none) (s x : Operand) (t : TypeId)
    (ho : o.op = .call { callee := .builtin .append, args := #[s, x], argTypes := #[t, t] })
    (base : Nat) (e : TypeId) (i : TypeInfo) (z : Value) (size bytes : Nat) (ht : P.underlying t = some (.slice e)) (hi : P.info? e = some i) (hz : i.zero = some z)
    (hsize : i.size = size) (hby : i.bytes = bytes) (hzs : z.cells.size = size) (hsz : 0 < size)
    (v : Value) (n : Nat) (xs : List Value) (hs : a.eval s = v) (hown : w.ownsRow base e size v n xs)
    (ad : Addr) (m c : Nat) (news : List Value) (hx : a.eval x = .slice (some ad) m c) (hl : news.length = m * size) (hnews : ∀ j u, news[j]? = some u → w.cell? (ad.add j) = some u) (h1 : ∀ u ∈ news, u.oneCell' = true)
    (hm : 0 < m) (h63 : n + m ≤ maxLen) (hbytes : (n + m) * bytes ≤ 140737488355328) (hbase : base ≤ w.heap.size)
    (h : ∀ g cap w', w'.ownsRow base e size (.slice (some ⟨g, 0, none⟩) (n + m) cap) (n + m) (xs ++ news) → ((v.ownBlock = some g ∧ w.grownBy w' (some g)) ∨ (g = w.heap.size ∧ w.grownBy w' none)) → K (a.put o.dst (.slice (some ⟨g, 0, none⟩) (n + m) cap)) w') :
    if Region.wanted o (yielded ops a.tmps) = true then Oper.wp P o a w K Q else E := by
  have hw : Region.wanted o (yielded ops a.tmps) = true := by simp [Region.wanted, hgd]
  rw [if_pos hw]
  obtain ⟨g, cap, w', hr, h2, h3⟩ := run_append_sharp (P := P) w t o.type base e i z size bytes ht hi hz hsize hby hzs hsz v n xs hown ad m c news hl hnews h1 hm h63 hbytes hbase
  unfold Oper.wp execOp
  simp only [ho, resolve, invoke, builtin, Sem.run_bind, Sem.run_pure, Result.andThen_ok, List.map_toArray, List.map_cons, List.map_nil, hs, hx, hr]
  exact h g cap w' h2 h3
end
end Go.Proofs.YtadcidbeealdpaaGreatDoor

/- A recipient is added, or is not. -/
namespace Go.Proofs.YtadcidbeealdpaaGreatDoor
open Go.RowKit

/-- one element more, behind a list of one's own; W: the world w with the element in a new block -/
theorem app_one {P : Program} {t e : TypeId} {i : TypeInfo} {z : Value} {bytes : Nat} (ht : P.underlying t = some (.slice e)) (hi : P.info? e = some i) (hz : i.zero = some z) (hsize : i.size = 1) (hby : i.bytes = bytes) (hzs : z.cells.size = 1)
    (w W : World) (v x : Value) (n : Nat) (xs : List Value) (hown : w.ownsRow 0 e 1 v n xs) (hx : x.oneCell' = true) (hB : Below w.heap.size w W) (hW : W.heap[w.heap.size]? = some (.cells #[x] e (0, 0))) (h63 : n + 1 ≤ maxLen) (hbytes : (n + 1) * bytes ≤ 140737488355328) :
    ∃ g cap w', (Builtin.append_ #[t, t] t #[v, .slice (some ⟨w.heap.size, 0, none⟩) 1 1]).run P W = .ok (.slice (some ⟨g, 0, none⟩) (n + 1) cap) w' ∧ w'.ownsRow 0 e 1 (.slice (some ⟨g, 0, none⟩) (n + 1) cap) (n + 1) (xs ++ [x]) ∧ Chg (fun k => v.ownBlock = some k) w w' ∧ (v.ownBlock = some g ∨ w.heap.size ≤ g) := by
  have hownW : W.ownsRow 0 e 1 v n xs := ownsRow_keeps hown fun g cur e _ => below_some hB e
  obtain ⟨g, cap, w', h1, h2, h3⟩ := run_append_sharp (P := P) W t t 0 e i z 1 bytes ht hi hz hsize hby hzs (by decide) v n xs hownW ⟨w.heap.size, 0, none⟩ 1 1 [x] rfl (World.news_of_block (cs := #[x]) (t := e) (fr := (0, 0)) hW) (by intro u hu; simp at hu; rw [hu]; exact hx) (by decide) h63 hbytes (Nat.zero_le _)
  refine ⟨g, cap, w', h1, h2, ?_, ?_⟩
  · refine (Chg.below hB : Chg (fun k => v.ownBlock = some k) w W).trans (A1 := fun k => v.ownBlock = some k) ?_ (fun k _ e => e)
    rcases h3 with ⟨e1, h3⟩ | ⟨_, h3⟩
    · exact (Chg.grown h3).mono fun k _ e => e1.trans e
    · exact (Chg.grown h3).mono fun k _ e => by cases e
  · rcases h3 with ⟨e1, _⟩ | ⟨e1, _⟩
    · exact .inl e1
    · exact .inr (by rw [e1]; exact hB.size)

structure TxAt (w : World) (tb : Nat) (vt vb : Value) (frm : List UInt8) (tos : List (List UInt8)) : Prop where
  blk : w.heap[tb]? = some (.cells #[.string (bs frm), vt, vb] 158 (0, 0))
  row : w.ownsRow 0 9 1 vt tos.length (textCells tos)
theorem TxAt.cell {w : World} {tb : Nat} {vt vb : Value} {frm : List UInt8} {tos : List (List UInt8)} (h : TxAt w tb vt vb frm tos) (j : Nat) : w.cell? ⟨tb, j, none⟩ = (#[Value.string (bs frm), vt, vb] : Array Value)[j]? := by rw [Lib.cell_of_heap h.blk]
theorem own_tag' {w : World} {base sz n g : Nat} {e : TypeId} {v : Value} {xs : List Value} (h : w.ownsRow base e sz v n xs) (hg : v.ownBlock = some g) : ∃ cur, w.heap[g]? = some (.cells cur e (0, 0)) := by
  rcases h.2 with ⟨e1, _⟩ | ⟨g', cap, cur, e1, _, e3, _⟩
  · rw [e1] at hg; cases hg
  · rw [e1] at hg
    injection hg with hg
    subst hg
    exact ⟨cur, e3⟩
theorem own_chg {A : Nat → Prop} {w w' : World} {base sz n : Nat} {e : TypeId} {v : Value} {xs : List Value} (h : w.ownsRow base e sz v n xs) (hc : Chg A w w') (hn : ∀ g, v.ownBlock = some g → ¬ A g) : w'.ownsRow base e sz v n xs := by
  refine ⟨h.1, ?_⟩
  rcases h.2 with h | ⟨g, cap, cur, e1, e2, e3, r⟩
  · exact .inl h
  · exact .inr ⟨g, cap, cur, e1, e2, hc.some_ e3 (hn g (by rw [e1]; rfl)), r⟩
theorem TxAt.far {w : World} {tb : Nat} {vt vb : Value} {frm : List UInt8} {tos : List (List UInt8)} (h : TxAt w tb vt vb frm tos) : vt.ownBlock ≠ some tb := fun e => by
  obtain ⟨cur, h1⟩ := own_tag' h.row e
  rw [h.blk] at h1
  simp at h1
theorem TxAt.chg {A : Nat → Prop} {w w' : World} {tb : Nat} {vt vb : Value} {frm : List UInt8} {tos : List (List UInt8)} (h : TxAt w tb vt vb frm tos) (hc : Chg A w w') (h1 : ¬ A tb) (h2 : ∀ g, vt.ownBlock = some g → ¬ A g) : TxAt w' tb vt vb frm tos := ⟨hc.some_ h.blk h1, own_chg h.row hc h2⟩
theorem SetAt.below {w w' : World} {pp : Nat} {c : Cfg} {vD vN vU vW : Value} (h : SetAt w pp c vD vN vU vW) (hb : Below w.heap.size w w') : SetAt w' pp c vD vN vU vW := by
  obtain ⟨A, h1, h2⟩ := h.blk
  exact ⟨⟨A, below_some hb h1, h2⟩, h.rows.below hb, h.may⟩
theorem SesAt.chg {A : Nat → Prop} {w w' : World} {sb ch : Nat} {C : Array Value} {ls : List (List UInt8)} (h : SesAt w sb ch C ls) (hc : Chg A w w') (h1 : ¬ A sb) (h2 : ¬ A ch) : SesAt w' sb ch C ls := by
  obtain ⟨s, r, hh⟩ := h.chan
  exact ⟨hc.some_ h.blk h1, h.size, h.told, s, r, hc.some_ hh h2⟩

set_option maxHeartbeats 1000000 in
set_option maxRecDepth 100000 in
theorem maySendTo_any (sb ch pp : Nat) (C : Array Value) (c : Cfg) (vD vN vU vW : Value) (nets known : Bool) (name : List UInt8) (m : Int) (w : World) (h : SesAt w sb ch C []) (hc : SetAt w pp c vD vN vU vW) (h0 : C[0]? = some (.pointer (some ⟨pp, 0, none⟩))) (h4 : C[4]? = some (.bool nets)) (h6 : C[6]? = some (.bool known)) (hn : name.length ≤ 1048576) (hm : w.cell? ⟨0, 0, none⟩ = some (.int .i64 m)) :
    Calls Tryz.prog 118 #[.pointer (some ⟨sb, 0, none⟩), .string (bs name)] w fun e w' => e = .returned (.bool (nets || known || domOk c name)) ∧ Below w.heap.size w w' := by
  have c0 := (h.cell 0).trans h0
  have c4 := (h.cell 4).trans h4
  have c6 := (h.cell 6).trans h6
  obtain ⟨aD, cD, eD⟩ := slice_of hc.rows.1
  obtain ⟨aN, cN, eN⟩ := slice_of hc.rows.2.1
  obtain ⟨aU, cU, eU⟩ := slice_of hc.rows.2.2.1
  obtain ⟨aW, cW, eW⟩ := slice_of hc.rows.2.2.2
  subst eD eN eU eW
  have y0 := hc.cell 0 (by decide)
  have y1 := hc.cell 1 (by decide)
  have y2 := hc.cell 2 (by decide)
  have y3 := hc.cell 3 (by decide)
  have y4 := hc.cell 4 (by decide)
  have y5 := hc.cell 5 (by decide)
  have y6 := hc.cell 6 (by decide)
  have y7 := hc.cell 7 (by decide)
  have y8 := hc.cell 8 (by decide)
  simp only [List.getElem?_cons_zero, List.getElem?_cons_succ] at y0 y1 y2 y3 y4 y5 y6 y7 y8
  have HU := Lib.hid (hasDomainOf_any c _ _ _ _ name m w hc.rows hc.may hn hm)
  clear h hc hm
  cases nets with
  | true =>
    go_enter Tryz.func118, Tryz.ntmps118
    go_wp2_with fail
    go_ret
    exact ⟨rfl, Below.refl _ _⟩
  | false =>
    cases known with
    | true =>
      go_enter Tryz.func118, Tryz.ntmps118
      go_wp2_with fail
      go_ret
      exact ⟨rfl, Below.refl _ _⟩
    | false =>
      go_enter Tryz.func118, Tryz.ntmps118
      go_wp2_with (first | (go_at_call 159; refine HU.out.mono ?_; rintro e w9 ⟨rfl, hb9⟩) | fail)
      go_ret
      exact ⟨rfl, hb9⟩

def rcptTos (tos : List (List UInt8)) (most : Int) (may : Bool) (name : List UInt8) : List (List UInt8) :=
  if tos.contains name then tos else if (tos.length : Int) = most then tos else if may then tos ++ [name] else tos
def rcptSays (tos : List (List UInt8)) (most : Int) (may : Bool) (name : List UInt8) : List UInt8 :=
  if tos.contains name then [50, 53, 48, 32, 111, 107, 13, 10] else if (tos.length : Int) = most then [52, 53, 50, 32, 109, 97, 110, 121, 13, 10] else if may then [50, 53, 48, 32, 111, 107, 13, 10] else [53, 53, 48, 32, 110, 111, 13, 10]

set_option maxHeartbeats 2000000 in
set_option maxRecDepth 100000 in
theorem addRcpt_any (sb ch pp tb : Nat) (C : Array Value) (c : Cfg) (vD vN vU vW vt vb : Value) (nets known : Bool) (frm name : List UInt8) (tos : List (List UInt8)) (m : Int) (w : World) (h : SesAt w sb ch C []) (hc : SetAt w pp c vD vN vU vW) (ht : TxAt w tb vt vb frm tos) (h0 : C[0]? = some (.pointer (some ⟨pp, 0, none⟩))) (h4 : C[4]? = some (.bool nets)) (h6 : C[6]? = some (.bool known)) (h8 : C[8]? = some (.pointer (some ⟨tb, 0, none⟩))) (hn : name.length ≤ 1048576) (hl : tos.length ≤ 10) (hm : w.cell? ⟨0, 0, none⟩ = some (.int .i64 m)) :
    Calls Tryz.prog 81 #[.pointer (some ⟨sb, 0, none⟩), .string (bs name)] w fun e w' => e = .returned (.tuple #[]) ∧ SesAt w' sb ch C [rcptSays tos c.most (nets || known || domOk c name) name] ∧ ∃ vt', TxAt w' tb vt' vb frm (rcptTos tos c.most (nets || known || domOk c name) name) ∧ Chg (fun k => k = ch ∨ k = tb ∨ vt.ownBlock = some k) w w' ∧ ∀ k, vt'.ownBlock = some k → vt.ownBlock = some k ∨ w.heap.size ≤ k := by
  have c0 := (h.cell 0).trans h0
  have c8 := (h.cell 8).trans h8
  have t1 : w.cell? ⟨tb, 1, none⟩ = some vt := ht.cell 1
  have y4 := hc.cell 4 (by decide)
  simp only [List.getElem?_cons_zero, List.getElem?_cons_succ] at y4
  have htr := row_of_own' ht.row
  obtain ⟨av, cv, ev⟩ := slice_of htr
  subst ev
  have HMS : Hid (∀ W : World, Below w.heap.size w W → Calls Tryz.prog 118 #[.pointer (some ⟨sb, 0, none⟩), .string (bs name)] W fun e w' => e = .returned (.bool (nets || known || domOk c name)) ∧ Below W.heap.size W w') := Lib.hid (fun W hb => maySendTo_any sb ch pp C c vD vN vU vW nets known name m W (h.below hb) (hc.below hb) h0 h4 h6 hn ((hb.cell (block_lt hm)).trans hm))
  have HCT := Lib.hid (containsStr_any tos name _ w htr (by omega))
  have tch : ch ≠ tb := fun e => by obtain ⟨s, r, hh⟩ := h.chan; rw [e, ht.blk] at hh; simp at hh
  have rch : ∀ g, (Value.slice av tos.length cv).ownBlock = some g → ch ≠ g := fun g hg e => by
    obtain ⟨s, r, hh⟩ := h.chan
    obtain ⟨cur, h1⟩ := own_tag' ht.row hg
    rw [e, h1] at hh
    simp at hh
  have HTO := Lib.hid (h.tell (by simp) [50, 53, 48, 32, 111, 107] (by decide))
  have HH := Lib.hid h
  have HT := Lib.hid ht
  have HRC := Lib.hid rch
  cases hct : tos.contains name with
  | true =>
    rw [hct] at HCT
    have HS : Hid (rcptSays tos c.most (nets || known || domOk c name) name = [50, 53, 48, 32, 111, 107, 13, 10]) := Lib.hid (by unfold rcptSays; rw [hct]; rfl)
    have HX : Hid (rcptTos tos c.most (nets || known || domOk c name) name = tos) := Lib.hid (by unfold rcptTos; rw [hct]; rfl)
    rw [HS.out, HX.out]
    clear h hc ht htr hm hct rch
    go_enter Tryz.func81, Tryz.ntmps81
    go_wp2_with fail
    refine HCT.out.mono ?_
    rintro e w1 ⟨rfl, rfl⟩
    go_wp2_with fail
    refine HTO.out.mono ?_
    rintro e w2 ⟨rfl, h2, hS2⟩
    go_wp2_with fail
    refine bodyPost_end (results_none rfl _ _ _) rfl ?_
    exact ⟨rfl, h2, _, HT.out.chg (Chg.same hS2) (fun e => tch e.symm) (fun g hg e => HRC.out g hg e.symm), (Chg.same hS2).mono (fun k _ e => .inl e), fun k e => .inl e⟩
  | false =>
    rw [hct] at HCT
    by_cases hmo : (tos.length : Int) = c.most
    · have HS : Hid (rcptSays tos c.most (nets || known || domOk c name) name = [52, 53, 50, 32, 109, 97, 110, 121, 13, 10]) := Lib.hid (by unfold rcptSays; rw [hct, if_pos hmo]; rfl)
      have HX : Hid (rcptTos tos c.most (nets || known || domOk c name) name = tos) := Lib.hid (by unfold rcptTos; rw [hct, if_pos hmo]; rfl)
      rw [HS.out, HX.out]
      have hmb : ((tos.length : Int) == c.most) = true := by rw [beq_iff_eq]; exact hmo
      clear h hc ht htr hm hct rch hmo HMS
      go_enter Tryz.func81, Tryz.ntmps81
      go_wp2_with fail
      refine HCT.out.mono ?_
      rintro e w1 ⟨rfl, rfl⟩
      go_wp2_with fail
      go_quiet (fail)
      have hb1 := below_drewN nq w w.heap.size
      obtain ⟨w1, hw1⟩ : ∃ w1, w.drewN nq = w1 := ⟨_, rfl⟩
      rw [hw1] at hb1 ⊢
      have HTM := Lib.hid ((HH.out.below hb1).tell (by simp) [52, 53, 50, 32, 109, 97, 110, 121] (by decide))
      have K1 : Chg (fun _ => False) w w1 := Chg.below hb1
      have HK1 := Lib.hid K1
      clear hb1 hw1 K1
      go_wp2_with fail
      refine HTM.out.mono ?_
      rintro e w2 ⟨rfl, h2, hS2⟩
      go_wp2_with fail
      refine bodyPost_end (results_none rfl _ _ _) rfl ?_
      exact ⟨rfl, h2, _, (HT.out.chg HK1.out (fun e => e) (fun _ _ e => e)).chg (Chg.same hS2) (fun e => tch e.symm) (fun g hg e => HRC.out g hg e.symm), (HK1.out.mono (fun _ _ e => e.elim)).trans (Chg.same hS2) (fun k _ e => .inl e), fun k e => .inl e⟩
    · have hmb : ((tos.length : Int) == c.most) = false := by rw [beq_eq_false_iff_ne]; exact hmo
      have HS : Hid (∀ b : Bool, rcptSays tos c.most b name = if b then [50, 53, 48, 32, 111, 107, 13, 10] else [53, 53, 48, 32, 110, 111, 13, 10]) := Lib.hid (fun b => by unfold rcptSays; rw [hct, if_neg hmo]; rfl)
      have HX : Hid (∀ b : Bool, rcptTos tos c.most b name = if b then tos ++ [name] else tos) := Lib.hid (fun b => by unfold rcptTos; rw [hct, if_neg hmo]; rfl)
      obtain ⟨may, hmay⟩ : ∃ b, (nets || known || domOk c name) = b := ⟨_, rfl⟩
      rw [hmay] at HMS ⊢
      rw [HS.out, HX.out]
      clear h hc ht htr hm hct rch hmo hmay HS HX
      go_enter Tryz.func81, Tryz.ntmps81
      go_wp2_with fail
      refine HCT.out.mono ?_
      rintro e w1 ⟨rfl, rfl⟩
      go_wp2_with fail
      go_quiet (fail)
      have hb1 := below_drewN nq w w.heap.size
      have hMS := HMS.out _ hb1
      obtain ⟨w1, hw1⟩ : ∃ w1, w.drewN nq = w1 := ⟨_, rfl⟩
      rw [hw1] at hb1 hMS ⊢
      have HM1 := Lib.hid hMS
      have HB1 := Lib.hid hb1
      clear hw1 hb1 hMS
      go_wp2_with fail
      refine HM1.out.mono ?_
      rintro e w2 ⟨rfl, hb2⟩
      replace hb2 := HB1.out.trans (hb2.mono HB1.out.size)
      have K2 : Chg (fun _ => False) w w2 := Chg.below hb2
      have h2 := HH.out.below hb2
      have T2 := HT.out.chg K2 (fun e => e) (fun _ _ e => e)
      cases may with
      | false =>
        have HTN := Lib.hid (h2.tell (by simp) [53, 53, 48, 32, 110, 111] (by decide))
        have HT2 := Lib.hid T2
        have HK2 := Lib.hid K2
        clear h2 T2 hb2 K2
        go_wp2_with fail
        refine HTN.out.mono ?_
        rintro e w3 ⟨rfl, h3, hS3⟩
        go_wp2_with fail
        refine bodyPost_end (results_none rfl _ _ _) rfl ?_
        exact ⟨rfl, h3, _, HT2.out.chg (Chg.same hS3) (fun e => tch e.symm) (fun g hg e => HRC.out g hg e.symm), (HK2.out.mono (fun _ _ e => e.elim)).trans (Chg.same hS3) (fun k _ e => .inl e), fun k e => .inl e⟩
      | true =>
        have d1 : w2.cell? ⟨tb, 1, none⟩ = some (.slice av tos.length cv) := T2.cell 1
        have e1 : ∀ o : Obj, (w2.alloc o).cell? ⟨tb, 1, none⟩ = some (.slice av tos.length cv) := fun o => by rw [Lib.cell_of_heap ((((Below.refl w2.heap.size w2).alloc (Nat.le_refl _) o).block tb (heap_some_lt T2.blk)).trans T2.blk)]; rfl
        obtain ⟨i, hi, hz0, hz1, hz2⟩ := info_parts info_str
        obtain ⟨g, cap, W4, hr4, ho4, K4, hg4⟩ := app_one (P := Tryz.prog) Tryz.underlying23 hi hz0 hz1 hz2 rfl w2 (w2.alloc (.cells #[.string (bs name)] 9)) _ (.string (bs name)) tos.length (textCells tos) T2.row rfl ((Below.refl _ _).alloc (Nat.le_refl _) _) (heap_alloc_new w2 _) (by unfold maxLen; omega) (by omega)
        have b4 := K4.some_ T2.blk (T2.far)
        have d4 : W4.cell? ⟨tb, 1, none⟩ = some (.slice av tos.length cv) := by rw [Lib.cell_of_heap b4]; rfl
        have f4 := Lib.frozen_of_heap b4 1
        have S5 : Same tb W4 (W4.setCell ⟨tb, 1, none⟩ (.slice (some ⟨g, 0, none⟩) (tos.length + 1) cap)) := (Same.refl _ _).setCell _
        have b5 := heap_setCell_same W4 tb 1 _ _ (.slice (some ⟨g, 0, none⟩) (tos.length + 1) cap) b4
        obtain ⟨W5, hW5⟩ : ∃ W5 : World, W4.setCell ⟨tb, 1, none⟩ (.slice (some ⟨g, 0, none⟩) (tos.length + 1) cap) = W5 := ⟨_, rfl⟩
        rw [hW5] at S5 b5
        have ngt : tb ≠ g := fun e => by
          obtain ⟨cur, hq⟩ := own_tag' ho4 (g := g) rfl
          rw [← e, b4] at hq
          simp at hq
        have T5 : TxAt W5 tb (.slice (some ⟨g, 0, none⟩) (tos.length + 1) cap) vb frm (tos ++ [name]) := ⟨b5, by
          have := own_chg ho4 (Chg.same S5) (fun k hk e => ngt (by injection hk with hk; exact e.symm.trans hk.symm))
          rw [List.length_append]
          simpa [textCells] using this⟩
        have h5 := (h2.chg K4 (fun e => by
          obtain ⟨cur, hq⟩ := own_tag' T2.row e
          rw [h2.blk] at hq
          simp at hq) (fun e => HRC.out ch e rfl)).same S5 (fun e => by have := h2.blk; rw [e, T2.blk] at this; simp at this) tch
        have HTN := Lib.hid (h5.tell (by simp) [50, 53, 48, 32, 111, 107] (by decide))
        have K5 : Chg (fun k => k = ch ∨ k = tb ∨ (Value.slice av tos.length cv).ownBlock = some k) w W5 := ((K2.mono (fun _ _ e => e.elim)).trans K4 (fun k _ e => .inr (.inr e))).trans (Chg.same S5) (fun k _ e => .inr (.inl e))
        have hgch : ch ≠ g := fun e => by
          obtain ⟨s, r, hh⟩ := h5.chan
          obtain ⟨cur, hq⟩ := own_tag' ho4 (g := g) rfl
          rw [e, S5.2 g (fun e => ngt e.symm), hq] at hh
          simp at hh
        have HT5 := Lib.hid T5
        have HK5 := Lib.hid K5
        have HR4 := Lib.hid hr4
        have hsz : w.heap.size ≤ w2.heap.size := hb2.size
        clear h2 T2 hb2 K2 b4 b5 S5 T5 h5 K5 K4 ho4 hr4
        go_wp2_with (first
          | (at_builtin; refine wpList_append_run rfl _ _ 23 rfl _ _ (.slice (some ⟨g, 0, none⟩) (tos.length + 1) cap) W4 rfl rfl HR4.out ?_)
          | fail)
        refine HTN.out.mono ?_
        rintro e w6 ⟨rfl, h6', hS6⟩
        go_wp2_with fail
        refine bodyPost_end (results_none rfl _ _ _) rfl ?_
        exact ⟨rfl, h6', _, HT5.out.chg (Chg.same hS6) (fun e => tch e.symm) (fun k hk e => hgch (by injection hk with hk; exact e.symm.trans hk.symm)), HK5.out.trans (Chg.same hS6) (fun k _ e => .inl e), fun k hk => hg4.elim (fun e => .inl (by injection hk with hk; exact e.trans (congrArg some hk))) (fun e => .inr (by injection hk with hk; have hk : g = k := hk; omega))⟩
end Go.Proofs.YtadcidbeealdpaaGreatDoor

/- EHLO: three lines are told. -/
namespace Go.Proofs.YtadcidbeealdpaaGreatDoor
open Go.RowKit

/-- the table that numbers are written by -/
def Pow (w : World) : Prop := Lib.TabIs Tryz.prog w "internal/strconv.uint64pow10" .u64 Lib.pow10Tab
theorem pow_named : Tryz.prog.globalNamed "internal/strconv.uint64pow10" = some 6 := by kernel_rfl
theorem Pow.block {w w' : World} (h : Pow w) (e : w'.heap[6]? = w.heap[6]?) : Pow w' := by
  unfold Pow Lib.TabIs World.var? at h ⊢
  rw [pow_named] at h ⊢
  simp only [Option.bind_some] at h ⊢
  rw [e]
  exact h
theorem Pow.lt {w : World} (h : Pow w) : 6 < w.heap.size := by
  unfold Pow Lib.TabIs World.var? at h
  rw [pow_named] at h
  simp only [Option.bind_some] at h
  rcases hh : w.heap[6]? with _ | o
  · rw [hh] at h; simp at h
  · exact heap_some_lt hh
theorem Pow.below {w w' : World} (h : Pow w) (hb : Below w.heap.size w w') : Pow w' := h.block (hb.block _ h.lt)
theorem Pow.chg {A : Nat → Prop} {w w' : World} (h : Pow w) (hc : Chg A w w') (hn : ¬ A 6) : Pow w' := h.block (hc.block _ h.lt hn)
theorem Pow.same {b : Nat} {w w' : World} (h : Pow w) (hs : Same b w w') (hn : b ≠ 6) : Pow w' := h.block (hs.2 _ (Ne.symm hn))

theorem below_pow (w : World) (k : Nat) (os : Array Obj) : Below w.heap.size w (Sort.grow (w.drewN k) os) := by
  have h := below_drewN k w w.heap.size
  refine ⟨h.os, h.tape, h.output, ?_, fun j hj => ?_⟩
  · show w.heap.size ≤ ((w.drewN k).heap ++ os).size
    rw [Array.size_append]
    have := h.size
    omega
  · show ((w.drewN k).heap ++ os)[j]? = _
    rw [Array.getElem?_append_left (Nat.lt_of_lt_of_le hj h.size)]
    exact h.block j hj
theorem itoa_any (n : Int) (h0 : -9223372036854775808 ≤ n) (h1 : n ≤ 9223372036854775807) (w : World) (ht : Pow w) :
    Calls Tryz.prog 112 #[.int .i64 n] w fun e w' => e = .returned (.string (bs (Lib.itoa n))) ∧ Below w.heap.size w w' := by
  refine (Tryz.strconv_Itoa n h0 h1 w ht).mono ?_
  rintro e w' ⟨rfl, k, os, rfl⟩
  exact ⟨rfl, below_pow w k os⟩
theorem decDigits_len (n : Nat) : ∀ k, n < 10 ^ (k + 1) → (Lib.decDigits n).length ≤ k + 1 := by
  induction n using Nat.strongRecOn with
  | ind n ih =>
    intro k hk
    rw [Lib.decDigits]
    split
    · simp
    · rename_i h
      cases k with
      | zero => omega
      | succ k =>
        have := ih (n / 10) (by omega) k (by rw [Nat.pow_succ] at hk; omega)
        simp; omega

set_option maxHeartbeats 1000000 in
set_option maxRecDepth 100000 in
theorem greetMore_any (sb ch pp : Nat) (C : Array Value) (host : List UInt8) (size : Int) (w : World) (h : SesAt w sb ch C []) (h0 : C[0]? = some (.pointer (some ⟨pp, 0, none⟩))) (hh : w.cell? ⟨pp, 0, none⟩ = some (.string (bs host))) (hsz : w.cell? ⟨pp, 5, none⟩ = some (.int .i64 size)) (hps : pp ≠ sb) (hpc : pp ≠ ch) (hl : host.length ≤ 255) (ht : Pow w) (hsb : sb ≠ 6) (hcb : ch ≠ 6) (hs0 : 0 ≤ size) (hs1 : size ≤ 1000) :
    Calls Tryz.prog 78 #[.pointer (some ⟨sb, 0, none⟩)] w fun e w' => e = .returned (.tuple #[]) ∧ SesAt w' sb ch ((C.setIfInBounds 5 (.bool true)).setIfInBounds 8 (.pointer none)) [[50, 53, 48, 45] ++ host ++ [13, 10], [50, 53, 48, 45, 83, 73, 90, 69, 32] ++ Lib.itoa size ++ [13, 10], [50, 53, 48, 32, 65, 85, 84, 72, 32, 80, 76, 65, 73, 78, 13, 10]] ∧ Chg (fun k => k = sb ∨ k = ch) w w' := by
  have hz := h.size
  obtain ⟨v5, hv5⟩ : ∃ v0, C[5]? = some v0 := ⟨_, Array.getElem?_eq_getElem (by omega)⟩
  have c5 := (h.cell 5).trans hv5
  have f5 := h.frozen 5
  have c0 := (h.cell 0).trans h0
  have S0 : Same sb w (w.setCell ⟨sb, 5, none⟩ (.bool true)) := (Same.refl _ _).setCell _
  have hh1 : (w.setCell ⟨sb, 5, none⟩ (.bool true)).cell? ⟨pp, 0, none⟩ = some (.string (bs host)) := (S0.cell hps).trans hh
  have H1 := h.set 5 (by decide) (.bool true)
  have hT1 := ht.same S0 hsb
  have HT := Lib.hid (H1.tell (by simp) ([50, 53, 48, 45] ++ host) (by rw [List.length_append]; simp; omega))
  have hadd : (⟨#[50, 53, 48, 45]⟩ : ByteArray) ++ bs host = bs ([50, 53, 48, 45] ++ host) := bs_append [50, 53, 48, 45] host
  have hadd2 : (⟨#[50, 53, 48, 45, 83, 73, 90, 69, 32]⟩ : ByteArray) ++ bs (Lib.itoa size) = bs ([50, 53, 48, 45, 83, 73, 90, 69, 32] ++ Lib.itoa size) := bs_append [50, 53, 48, 45, 83, 73, 90, 69, 32] _
  have hil : (Lib.itoa size).length ≤ 4 := by
    unfold Lib.itoa
    rw [if_neg (by omega)]
    exact decDigits_len _ 3 (by omega)
  have HA := Lib.hid hadd
  have HA2 := Lib.hid hadd2
  have hszb := bs_size host
  have hsi := bs_size (Lib.itoa size)
  have c05 : (C.setIfInBounds 5 (.bool true))[0]? = some (.pointer (some ⟨pp, 0, none⟩)) := by rw [Array.getElem?_setIfInBounds_ne (by decide)]; exact h0
  have HP : Hid (Pow (w.setCell ⟨sb, 5, none⟩ (.bool true))) := Lib.hid hT1
  have HS0 := Lib.hid S0
  clear h H1 hadd hadd2 ht hT1
  go_enter_defers Tryz.func78, Tryz.ntmps78
  go_wp2_with fail
  rw [HA.out]
  refine HT.out.mono ?_
  rintro e w1 ⟨rfl, h1, hS1⟩
  have d0 := (h1.cell 0).trans c05
  have d5 : w1.cell? ⟨pp, 5, none⟩ = some (.int .i64 size) := (hS1.cell hpc).trans ((HS0.out.cell hps).trans hsz)
  have HP1 : Hid (Pow w1) := Lib.hid (HP.out.same hS1 hcb)
  have HH1 := Lib.hid h1
  have HS1 := Lib.hid hS1
  clear h1 hS1
  go_wp2_with fail
  refine (itoa_any size (by omega) (by omega) _ HP1.out).mono ?_
  rintro e w2 ⟨rfl, hb2⟩
  have HT2 := Lib.hid ((HH1.out.below hb2).tell (by simp) ([50, 53, 48, 45, 83, 73, 90, 69, 32] ++ Lib.itoa size) (by rw [List.length_append]; simp; omega))
  have HB2 := Lib.hid hb2
  clear hb2
  go_wp2_with fail
  rw [HA2.out]
  refine HT2.out.mono ?_
  rintro e w3 ⟨rfl, h3, hS3⟩
  have HT3 := Lib.hid (h3.tell (by simp) [50, 53, 48, 32, 65, 85, 84, 72, 32, 80, 76, 65, 73, 78] (by decide))
  have HS3 := Lib.hid hS3
  clear h3 hS3
  go_wp2_with fail
  refine HT3.out.mono ?_
  rintro e w4 ⟨rfl, h4, hS4⟩
  obtain ⟨v0, hv⟩ : ∃ v0, (C.setIfInBounds 5 (.bool true))[8]? = some v0 := ⟨_, Array.getElem?_eq_getElem (by simp; omega)⟩
  have S5 : Same sb w4 (w4.setCell ⟨sb, 8, none⟩ (.pointer none)) := (Same.refl _ _).setCell _
  go_wp2_with fail
  refine leaves_cons (f := 110) (args := #[.pointer (some ⟨sb, 0, none⟩)]) (by simp) (by simp [go_sem]) ?_
  refine (sesDrop_d sb v0 .returning _ ((h4.cell 8).trans hv) (h4.frozen 8)).mono ?_
  rintro e u' w'' ⟨rfl, rfl, rfl⟩
  refine ⟨_, results_none rfl _ _ _, rfl, by simpa using h4.set 8 (by decide) (.pointer none), ?_⟩
  exact (((((Chg.same HS0.out).mono (fun k _ e => .inl e) : Chg (fun k => k = sb ∨ k = ch) w _).trans (Chg.same HS1.out) (fun k _ e => .inr e)).trans (Chg.below HB2.out : Chg (fun _ => False) _ _) (fun k _ e => e.elim)).trans (Chg.same HS3.out) (fun k _ e => .inr e) |>.trans (Chg.same hS4) (fun k _ e => .inr e)).trans (Chg.same S5) (fun k _ e => .inl e)
end Go.Proofs.YtadcidbeealdpaaGreatDoor
