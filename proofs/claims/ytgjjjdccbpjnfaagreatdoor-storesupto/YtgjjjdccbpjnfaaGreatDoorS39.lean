import Derived.Test.YtgjjjdccbpjnfaaGreatDoorRows
import Derived.Test.YtgjjjdccbpjnfaaGreatDoorS34
import Derived.Test.YtgjjjdccbpjnfaaGreatDoorS38
import Derived.Test.YtgjjjdccbpjnfaaGreatDoorChecked
import Derived.ProofKit
import Derived.OpenShut
import Derived.LaidMore
import Derived.Lay
import Derived.HandedShaped
import Derived.Shelf.Vars

/- A script that came in, opened: whatever a list of steps reads as, it is a list of POp, with sizes that the bulk and the reach bound. -/
namespace Go.Proofs.YtgjjjdccbpjnfaaGreatDoor
open Go.ChangeShapes Go.WideShapes Go.RowKit Go.Deep

section
variable {H : Type} {enc : TypeId × Value → H} {w : World} {base : Nat} {spare : Nat → Bool} {held : Bool}

theorem wf_in64 {n : Int} (h : (Lit.int .i64 n).wf = true) : in64 n := by
  simp only [Lit.wf, Bool.and_eq_true, decide_eq_true_eq] at h
  exact h

theorem bulk_one (d : DataW H) : 1 ≤ Rows.uptoBulk d := by
  cases d with
  | lit l => cases l <;> simp [Rows.uptoBulk]
  | nil => simp [Rows.uptoBulk]
  | ptr d => simp [Rows.uptoBulk]
  | slice elems spare => simp [Rows.uptoBulk]
  | agg parts => simp [Rows.uptoBulk]
  | iface t d => simp [Rows.uptoBulk]
  | map entries => simp [Rows.uptoBulk]
  | held h => simp [Rows.uptoBulk]
theorem bulk_part {d : DataW H} {l : List (DataW H)} (h : d ∈ l) : Rows.uptoBulk d ≤ Rows.uptoBulkAll l := by
  induction l with
  | nil => cases h
  | cons x r ih =>
    simp only [Rows.uptoBulkAll]
    cases List.mem_cons.1 h with
    | inl e => subst e; omega
    | inr e => have := ih e; omega
theorem bulk_each {k : Nat} {l : List (DataW H)} (h : ∀ d ∈ l, k ≤ Rows.uptoBulk d) : l.length * k ≤ Rows.uptoBulkAll l := by
  induction l with
  | nil => simp
  | cons x r ih =>
    have h1 := ih fun d hd => h d (List.mem_cons_of_mem _ hd)
    have h2 := h x (List.mem_cons_self ..)
    simp only [Rows.uptoBulkAll, List.length_cons, Nat.add_mul, Nat.one_mul]
    omega
theorem bulk_nine {l : List (DataW H)} : l.length ≤ Rows.uptoBulkAll l := by
  have := bulk_each (k := 1) (l := l) fun d _ => bulk_one d
  omega
theorem all_weight {P : Program} {e : TypeId} {l : List (DataW H)} {d : DataW H} (h : (DataW.weightsAll P e l).all (· ≤ reachBytes) = true) (hd : d ∈ l) : (d.weights P e).all (· ≤ reachBytes) = true := by
  induction l with
  | nil => cases hd
  | cons x r ih =>
    simp only [DataW.weightsAll, List.all_append, Bool.and_eq_true] at h
    cases List.mem_cons.1 hd with
    | inl e => subst e; exact h.1
    | inr e => exact ih h.2 e

theorem cells_op : Tryz.prog.cellsOf 66 = 14 := by kernel_rfl
theorem cells_bool : Tryz.prog.cellsOf 4 = 1 := by kernel_rfl

theorem list14 {α : Type} {l : List α} (h : l.length = 14) : ∃ a0 a1 a2 a3 a4 a5 a6 a7 a8 a9 b0 b1 b2 b3, l = [a0, a1, a2, a3, a4, a5, a6, a7, a8, a9, b0, b1, b2, b3] := by
  match l, h with
  | [a0, a1, a2, a3, a4, a5, a6, a7, a8, a9, b0, b1, b2, b3], _ => exact ⟨a0, a1, a2, a3, a4, a5, a6, a7, a8, a9, b0, b1, b2, b3, rfl⟩
theorem list6 {α : Type} {l : List α} (h : l.length = 6) : ∃ a0 a1 a2 a3 a4 a5, l = [a0, a1, a2, a3, a4, a5] := by
  match l, h with
  | [a0, a1, a2, a3, a4, a5], _ => exact ⟨a0, a1, a2, a3, a4, a5, rfl⟩

/-- a step's fourteen cells, read -/
theorem open_op {fuel : Nat} {cs : List Value} {x : DataW H × List MemPlace} (h : DataW.trod enc Tryz.prog w base spare held fuel 66 cs = some x) (hz : (x.1.weights Tryz.prog 66).all (· ≤ reachBytes) = true) (hk : Rows.uptoBulk x.1 ≤ 1048576) :
    ∃ o : POp, cs = o.cells.toList ∧ POp.Ok w o ∧ 16 ≤ Rows.uptoBulk x.1 := by
  obtain ⟨xs, n, _, rfl, hl, hx, hf⟩ := DataW.trod_struct Tryz.underlying66 h
  rw [cells_op] at hl
  obtain ⟨a0, a1, a2, a3, a4, a5, a6, a7, a8, a9, b0, b1, b2, b3, rfl⟩ := list14 hl
  obtain ⟨y0, y1, y2, y3, y4, y5, rfl⟩ := list6 hx
  have g0 : DataW.trod enc Tryz.prog w base spare held n 3 (([a0, a1, a2, a3, a4, a5, a6, a7, a8, a9, b0, b1, b2, b3].drop 0).take (Tryz.prog.cellsOf 3)) = some y0 := hf 0 _ rfl
  have g1 : DataW.trod enc Tryz.prog w base spare held n 3 (([a0, a1, a2, a3, a4, a5, a6, a7, a8, a9, b0, b1, b2, b3].drop 1).take (Tryz.prog.cellsOf 3)) = some y1 := hf 1 _ rfl
  have g2 : DataW.trod enc Tryz.prog w base spare held n 3 (([a0, a1, a2, a3, a4, a5, a6, a7, a8, a9, b0, b1, b2, b3].drop 2).take (Tryz.prog.cellsOf 3)) = some y2 := hf 2 _ rfl
  have g3 : DataW.trod enc Tryz.prog w base spare held n 4 (([a0, a1, a2, a3, a4, a5, a6, a7, a8, a9, b0, b1, b2, b3].drop 3).take (Tryz.prog.cellsOf 4)) = some y3 := hf 3 _ rfl
  have g4 : DataW.trod enc Tryz.prog w base spare held n 9 (([a0, a1, a2, a3, a4, a5, a6, a7, a8, a9, b0, b1, b2, b3].drop 4).take (Tryz.prog.cellsOf 9)) = some y4 := hf 4 _ rfl
  have g5 : DataW.trod enc Tryz.prog w base spare held n 36 (([a0, a1, a2, a3, a4, a5, a6, a7, a8, a9, b0, b1, b2, b3].drop 5).take (Tryz.prog.cellsOf 36)) = some y5 := hf 5 _ rfl
  simp only [cells_int, cells_bool, cells_str, cells_cfg, List.drop_zero, List.drop_succ_cons, List.take_succ_cons, List.take_zero] at g0 g1 g2 g3 g4 g5
  simp only [DataW.weights, Tryz.underlying66, List.map_cons, List.map_nil] at hz
  obtain ⟨n0, e0, _, w0⟩ := DataW.trod_int Tryz.underlying3 g0
  obtain ⟨n1, e1, _, w1⟩ := DataW.trod_int Tryz.underlying3 g1
  obtain ⟨n2, e2, _, w2⟩ := DataW.trod_int Tryz.underlying3 g2
  obtain ⟨n3, e3, _⟩ := DataW.trod_bool Tryz.underlying4 g3
  obtain ⟨s4, e4, x4, _⟩ := DataW.trod_string Tryz.underlying9 g4
  have hb5 : ∃ ds, y5.1 = .agg ds ∧ ds.length = 9 := by
    obtain ⟨ys, _, _, hy, _, hyl, _⟩ := DataW.trod_struct Tryz.underlying36 g5
    exact ⟨ys.map (·.1), by rw [hy], by rw [List.length_map, hyl]; rfl⟩
  obtain ⟨c, vD, vN, vU, vW, e5, hat, hcz, hcr⟩ := open_cfg g5 (each_weight hz (j := 5) rfl rfl)
  simp only [List.cons.injEq, and_true] at e0 e1 e2 e3 e4 e5
  obtain ⟨q0, q1, q2, q3, q4, q5, q6, q7, q8⟩ := e5
  subst e0 e1 e2 e3 e4 q0 q1 q2 q3 q4 q5 q6 q7 q8
  have ebs : s4 = bs s4.data.toList := by unfold bs; simp
  obtain ⟨ds, ed, hd9⟩ := hb5
  have hk9 := bulk_nine (l := ds)
  have hs4 : Rows.uptoBulk y4.1 = s4.data.toList.length + 1 := by rw [x4]; simp [Rows.uptoBulk]
  have p0 := bulk_one y0.1
  have p1 := bulk_one y1.1
  have p2 := bulk_one y2.1
  have p3 := bulk_one y3.1
  have p5 : Rows.uptoBulk y5.1 = Rows.uptoBulkAll ds + 1 := by rw [ed]; simp [Rows.uptoBulk, Nat.add_comm]
  have ek : Rows.uptoBulk (DataW.agg ([y0, y1, y2, y3, y4, y5].map (·.1))) = Rows.uptoBulk y0.1 + (Rows.uptoBulk y1.1 + (Rows.uptoBulk y2.1 + (Rows.uptoBulk y3.1 + (Rows.uptoBulk y4.1 + Rows.uptoBulk y5.1)))) + 1 := by
    simp [Rows.uptoBulk, Rows.uptoBulkAll, Nat.add_comm]
  have hk' := hk
  rw [ek] at hk'
  refine ⟨⟨n0, n1, n2, n3, s4.data.toList, c, a6, a7, a8, b1⟩, ?_, ⟨hat, hcz, hcr, ?_, wf_in64 w0, wf_in64 w1, wf_in64 w2⟩, ?_⟩
  · show _ = [Value.int .i64 n0, .int .i64 n1, .int .i64 n2, .bool n3, .string (bs s4.data.toList), .string c.host, a6, a7, a8, .int .i64 c.most, .int .i64 c.size, b1, .int .i64 c.life, .int .i64 c.room]
    rw [← ebs]
  · show s4.data.toList.length ≤ 1048576
    omega
  · rw [ek]; omega

theorem script_len (l : List POp) : (scriptCells l).length = l.length * 14 := by
  induction l with
  | nil => rfl
  | cons x l ih =>
    show (x.cells.toList ++ scriptCells l).length = _
    have h5 : x.cells.toList.length = 14 := rfl
    rw [List.length_append, h5, ih, List.length_cons]
    omega
theorem fourteen {n j : Nat} (h : j < n * 14) : ∃ k i, k < n ∧ i < 14 ∧ j = k * 14 + i := ⟨j / 14, j % 14, by omega, by omega, by omega⟩

/-- a script, read -/
theorem open_script {fuel : Nat} {cs : List Value} {x : DataW H × List MemPlace} (h : DataW.trod enc Tryz.prog w base spare held fuel 22 cs = some x) (hz : (x.1.weights Tryz.prog 22).all (· ≤ reachBytes) = true) (hk : Rows.uptoBulk x.1 ≤ 1048576) :
    ∃ (v : Value) (l : List POp), cs = [v] ∧ ScriptAt w v l ∧ l.length ≤ 65536 := by
  rcases open_slice Tryz.underlying22 h with ⟨rfl, rfl⟩ | ⟨a, len, cap, m, n, D, Pl, rfl, _, hl, hm, hmm, rfl, hx⟩
  · exact ⟨_, [], rfl, ⟨⟨rfl, .inl ⟨rfl, _, _, rfl⟩⟩, fun _ h => by cases h⟩, by decide⟩
  · have hlm : len ≤ m := by rw [hmm]; split <;> omega
    simp only [DataW.weights, Tryz.underlying22, List.all_cons, List.all_append, Bool.and_eq_true] at hz
    have hk' : Rows.uptoBulkAll ((List.range len).map D) ≤ 1048575 := by
      simp only [Rows.uptoBulk] at hk
      omega
    have each : ∀ i, i < len → ∃ o : POp, (∀ j, j < 14 → w.cell? (a.add (i * 14 + j)) = o.cells[j]?) ∧ POp.Ok w o ∧ 16 ≤ Rows.uptoBulk (D i) := fun i hi => by
      obtain ⟨cs', h1, h2⟩ := hx i (by omega)
      have hmem : D i ∈ (List.range len).map D := List.mem_map.2 ⟨i, List.mem_range.2 hi, rfl⟩
      have hb := bulk_part hmem
      obtain ⟨o, e, ho, h16⟩ := open_op h2 (all_weight hz.2.1 hmem) (by show Rows.uptoBulk (D i) ≤ _; omega)
      rw [cells_op] at h1
      obtain ⟨_, _, hcell⟩ := World.cells?_some h1
      refine ⟨o, fun j hj => ?_, ho, h16⟩
      have := hcell j hj
      rw [add_add] at this
      rw [this, e, Array.getElem?_toList]
    haveI : Inhabited POp := ⟨⟨0, 0, 0, false, [], ⟨⟨#[]⟩, [], [], [], 0, 0, [], 0, 0⟩, .slice none 0 0, .slice none 0 0, .slice none 0 0, .slice none 0 0⟩⟩
    obtain ⟨S, hS⟩ := choose_lt each
    have hn : ((List.range len).map S).length = len := by simp
    have h16 : len * 16 ≤ 1048575 := by
      have := bulk_each (k := 16) (l := (List.range len).map D) fun d hd => by
        obtain ⟨i, hi, rfl⟩ := List.mem_map.1 hd
        exact (hS i (List.mem_range.1 hi)).2.2
      rw [List.length_map, List.length_range] at this
      omega
    refine ⟨_, (List.range len).map S, rfl, ⟨?_, ?_⟩, by rw [hn]; omega⟩
    · rw [hn]
      have hlen : (scriptCells ((List.range len).map S)).length = len * 14 := by
        rw [script_len, hn]
      refine row_mk (by decide) hlen hl fun j hj => ?_
      obtain ⟨k, i, hk, hi, rfl⟩ := fourteen hj
      rw [(hS k hk).1 i hi, script_at _ k i (by rw [hn]; exact hk) hi]
      simp
    · intro o ho
      obtain ⟨i, hi, rfl⟩ := List.mem_map.1 ho
      exact (hS i (List.mem_range.1 hi)).2.1
end
end Go.Proofs.YtgjjjdccbpjnfaaGreatDoor

/- The wrap of a walk into a row, and the library's one variable that is asked for. -/
namespace Go.Proofs.YtgjjjdccbpjnfaaGreatDoor
open Go.ChangeShapes Go.WideShapes Go.ChangeAt Go.RowKit

theorem own : ownKnob Tryz.prog.godebug = none := by kernel_rfl

/-- The wrap that hands on both what is listed and the world's shape. -/
theorem returns_and_shaped {H : Type} {enc : TypeId × Value → H} {a : Assume} {C : Checked} {os : Os} {f : FuncId} {fn : Func} {s : ChangeSpec} {conds : List PathCond} {apart fresh handsOn again : Bool} {X : World → Array Value → Prop}
    (hX : ∀ (w w' : World) (args : Array Value), w.heap = w'.heap → X w args → X w' args)
    (own : ownKnob C.prog.godebug = none) (started : os.Started) (noInit : C.prog.inits.idxOf? f = none) (hfn : C.prog.funcs[f]? = some fn)
    (witness : ∃ (w : World) (tape : Tape) (i : Input), w.os = os ∧ (w.forCall tape i).Shaped C.prog ∧ i.vars = [] ∧ Input.okWide C.prog (w.forCall tape i) .any w.heap.size f i ∧
      ((s.pre enc C.prog fn conds apart (w.forCall tape i).memory i.args ∧ X (w.forCall tape i).memory i.args) ∧ sizedMet enc C.prog fn (OpenSpec.ofChange s) apart (w.forCall tape i).memory i.args) ∧ a.holds C.prog (lone (Frame.enter C.prog f i.args .normal) [] (w.forCall tape i)))
    (contract : ∀ (W : World) (base : Nat) (args : Array Value) (ds gs : List (DataW H)) (before : List MemPlace),
      (∀ (j : Nat) t v, fn.params[j]? = some t → args[j]? = some v → Value.okWide C.prog W .any base t v) →
      DataW.Whole enc C.prog fn.params.toList s.vars apart W args.toList ds gs before →
      conds.all (PathCond.test C.prog ⟨fn.params.toList, ds, s.plain.varTypes C.prog, gs⟩) = true →
      (DataW.weightsEach C.prog (fn.params.toList ++ s.plain.varTypes C.prog) (ds ++ gs)).all (· ≤ reachBytes) = true → X W args →
      W.ShapedOpen C.prog →
      Calls C.prog f args W fun e W' => ∃ v, e = .returned v ∧ s.post enc C.prog fn apart fresh handsOn again W args v W') :
    ReturnsInHanded a C os f .any (fun w args => (s.pre enc C.prog fn conds apart w args ∧ X w args) ∧ sizedMet enc C.prog fn (OpenSpec.ofChange s) apart w args) (s.post enc C.prog fn apart fresh handsOn again) := by
  refine returnsInHanded_of_calls own started noInit witness ?_
  intro w tape i _ hsh _ hok hpre _
  obtain ⟨_, _, _, fn', hfn', _, _, _, _, hval⟩ := hok
  have e : fn' = fn := Option.some.inj (hfn'.symm.trans hfn)
  subst e
  obtain ⟨⟨⟨ds, gs, before, hw, hc⟩, hx⟩, hz⟩ := hpre
  have hw' := DataW.Whole.of_heap (w' := w.forCall tape i) (by rfl) hw
  refine (contract (w.forCall tape i) w.heap.size i.args ds gs before hval hw' hc (hz.weights hw) (hX _ _ _ (by rfl) hx) hsh).mono fun e W' ⟨v, he, hp⟩ => ?_
  subst he
  exact ChangeSpec.post_blind hp

/-- The library's variable that strings.Index asks for holds some number. -/
theorem maxLen_cell {w : World} (h : w.ShapedOpen Tryz.prog) : ∃ m, w.cell? ⟨0, 0, none⟩ = some (.int .i64 m) :=
  cell_of_shapedOpen_int (zero := #[.int .i64 0]) (t := 3) h (of_decide_eq_true (by kernel_rfl)) (by kernel_rfl) rfl (by kernel_rfl) (by kernel_rfl) Tryz.underlying3

theorem lt_of_cell {w : World} {b o : Nat} {v : Value} (h : w.cell? ⟨b, o, none⟩ = some v) : b < w.heap.size := by
  rcases Nat.lt_or_ge b w.heap.size with h' | h'
  · exact h'
  · simp [World.cell?, Array.getElem?_eq_none h'] at h
end Go.Proofs.YtgjjjdccbpjnfaaGreatDoor
