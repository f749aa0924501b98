import Derived.Test.YtadcidbeealdpaaGreatDoorS10
import Derived.Deep.SlicePairs
import Derived.SizedLaws
import Derived.Test.YtadcidbeealdpaaGreatDoorChecked
import Derived.ProofKit
import Derived.OpenShut
import Derived.LaidMore
import Derived.Lay
import Derived.HandedShaped
import Derived.Shelf.Vars
import Derived.Test.YtadcidbeealdpaaGreatDoorRows
import Derived.Test.YtadcidbeealdpaaGreatDoorS33
import Derived.Lib.LaidU8
import Derived.Test.YtadcidbeealdpaaGreatDoorS37
import Derived.Carry
import Derived.SevenTiedAt
import Derived.Stop.Joined
import Derived.JoinedCond
import Derived.Deep.DeepHandedRow

/- Settings that came in, opened: whatever a Config reads as, it is a Cfg, with sizes that the reach bounds. -/
namespace Go.Proofs.YtadcidbeealdpaaGreatDoor
open Go.ChangeShapes Go.WideShapes Go.RowKit Go.Deep

section
variable {H : Type} {enc : TypeId × Value → H} {w : World} {base : Nat} {spare : Nat → Bool} {held : Bool}

theorem reach_eq : reachBytes = 140737488351232 := by decide
theorem bytes_str : Tryz.prog.bytesOf 9 = 16 := by kernel_rfl
theorem bytes_net : Tryz.prog.bytesOf 46 = 16 := by kernel_rfl
theorem bytes_user : Tryz.prog.bytesOf 48 = 32 := by kernel_rfl
theorem bytes_int : Tryz.prog.bytesOf 3 = 8 := by kernel_rfl
theorem cells_str : Tryz.prog.cellsOf 9 = 1 := by kernel_rfl
theorem cells_int : Tryz.prog.cellsOf 3 = 1 := by kernel_rfl
theorem cells_net : Tryz.prog.cellsOf 46 = 2 := by kernel_rfl
theorem cells_user : Tryz.prog.cellsOf 48 = 2 := by kernel_rfl
theorem cells_strs : Tryz.prog.cellsOf 23 = 1 := by kernel_rfl
theorem cells_nets : Tryz.prog.cellsOf 24 = 1 := by kernel_rfl
theorem cells_users : Tryz.prog.cellsOf 25 = 1 := by kernel_rfl
theorem cells_ints : Tryz.prog.cellsOf 22 = 1 := by kernel_rfl
theorem cells_cfg : Tryz.prog.cellsOf 27 = 9 := by kernel_rfl

/-- the reach bounds a slice's length -/
theorem slice_weight {P : Program} {t e : TypeId} {el sp : List (DataW H)} (ht : P.underlying t = some (.slice e)) (hz : ((DataW.slice el sp).weights P t).all (· ≤ reachBytes) = true) : el.length * P.bytesOf e ≤ 140737488351232 := by
  simp only [DataW.weights, ht, List.all_cons, Bool.and_eq_true, decide_eq_true_eq] at hz
  have h1 := hz.1
  rw [reach_eq] at h1
  have h2 : el.length * P.bytesOf e ≤ (el.length + sp.length) * P.bytesOf e := Nat.mul_le_mul_right _ (by omega)
  omega

theorem row_mk {a : Addr} {len cap sz : Nat} {cs : List Value} (hsz : 0 < sz) (hl : cs.length = len * sz) (hcap : len ≤ cap) (hc : ∀ j : Nat, j < len * sz → w.cell? (a.add j) = cs[j]?) : RowAt w (.slice (some a) len cap) len sz cs := by
  refine ⟨hl, ?_⟩
  rcases Nat.eq_zero_or_pos len with rfl | hp
  · exact .inl ⟨rfl, _, _, rfl⟩
  · obtain ⟨b, off, spot⟩ := a
    have h0 : 0 < len * sz := Nat.mul_pos hp hsz
    have e0 := hc 0 h0
    rw [List.getElem?_eq_getElem (by omega)] at e0
    have hspot : spot = none := by simpa [Addr.add] using World.cell?_spot e0
    subst hspot
    exact .inr ⟨b, off, cap, rfl, hcap, fun j hj => by rw [← add_plain]; exact hc j hj⟩

theorem row_strs {fuel : Nat} {cs : List Value} {x : DataW H × List MemPlace} (h : DataW.trod enc Tryz.prog w base spare held fuel 23 cs = some x) (hz : (x.1.weights Tryz.prog 23).all (· ≤ reachBytes) = true) :
    ∃ (v : Value) (l : List ByteArray), cs = [v] ∧ RowAt w v l.length 1 (strCellsOf l) ∧ (∀ s ∈ l, s.size ≤ maxLen) ∧ 16 * l.length ≤ 140737488351232 := by
  rcases open_slice1 Tryz.underlying23 cells_str h with ⟨rfl, rfl⟩ | ⟨a, len, cap, m, n, V, D, Pl, rfl, _, hl, hm, hmm, rfl, hx⟩
  · exact ⟨_, [], rfl, ⟨rfl, .inl ⟨rfl, _, _, rfl⟩⟩, (fun _ h => by cases h), by decide⟩
  · have hlm : len ≤ m := by rw [hmm]; split <;> omega
    have hw := slice_weight Tryz.underlying23 hz
    simp only [List.length_map, List.length_range, bytes_str] at hw
    have each : ∀ i, i < len → ∃ s : ByteArray, w.cell? (a.add i) = some (.string s) ∧ s.size ≤ maxLen := fun i hi => by
      obtain ⟨h1, h2⟩ := hx i (by omega)
      obtain ⟨s, e, _, hs⟩ := DataW.trod_string Tryz.underlying9 h2
      simp only [List.cons.injEq, and_true] at e
      exact ⟨s, by rw [h1, e], hs⟩
    obtain ⟨S, hS⟩ := choose_lt each
    have hn : ((List.range len).map S).length = len := by simp
    refine ⟨_, (List.range len).map S, rfl, ?_, ?_, by rw [hn]; omega⟩
    · rw [hn]
      refine row_mk (by decide) (by simp [strCellsOf]) hl fun j hj => ?_
      rw [Nat.mul_one] at hj
      rw [(hS j hj).1]
      simp [strCellsOf, hj]
    · intro s hs
      obtain ⟨i, hi, rfl⟩ := List.mem_map.1 hs
      exact (hS i (List.mem_range.1 hi)).2

theorem row_ints {fuel : Nat} {cs : List Value} {x : DataW H × List MemPlace} (h : DataW.trod enc Tryz.prog w base spare held fuel 22 cs = some x) (hz : (x.1.weights Tryz.prog 22).all (· ≤ reachBytes) = true) :
    ∃ (v : Value) (l : List Int), cs = [v] ∧ RowAt w v l.length 1 (intCells l) ∧ 8 * l.length ≤ 140737488351232 := by
  rcases open_slice1 Tryz.underlying22 cells_int h with ⟨rfl, rfl⟩ | ⟨a, len, cap, m, n, V, D, Pl, rfl, _, hl, hm, hmm, rfl, hx⟩
  · exact ⟨_, [], rfl, ⟨rfl, .inl ⟨rfl, _, _, rfl⟩⟩, by decide⟩
  · have hlm : len ≤ m := by rw [hmm]; split <;> omega
    have hw := slice_weight Tryz.underlying22 hz
    simp only [List.length_map, List.length_range, bytes_int] at hw
    have each : ∀ i, i < len → ∃ s : Int, w.cell? (a.add i) = some (.int .i64 s) := fun i hi => by
      obtain ⟨h1, h2⟩ := hx i (by omega)
      obtain ⟨s, e, _⟩ := DataW.trod_int Tryz.underlying3 h2
      simp only [List.cons.injEq, and_true] at e
      exact ⟨s, by rw [h1, e]⟩
    obtain ⟨S, hS⟩ := choose_lt each
    have hn : ((List.range len).map S).length = len := by simp
    refine ⟨_, (List.range len).map S, rfl, ?_, by rw [hn]; omega⟩
    rw [hn]
    refine row_mk (by decide) (by simp [intCells]) hl fun j hj => ?_
    rw [Nat.mul_one] at hj
    rw [hS j hj]
    simp [intCells, hj]

theorem netCells_len (l : List (Int × Int)) : (netCells l).length = l.length * 2 := by
  induction l with
  | nil => rfl
  | cons a l ih => show (_ :: _ :: netCells l).length = _; simp only [List.length_cons, ih]; omega

theorem two_of {n j : Nat} (h : j < n * 2) : ∃ k, k < n ∧ (j = k * 2 ∨ j = k * 2 + 1) := ⟨j / 2, by omega, by omega⟩

theorem row_nets {f0 f1 : Field} {fuel : Nat} {cs : List Value} {x : DataW H × List MemPlace} (hs : Tryz.prog.underlying 46 = some (.struct #[f0, f1])) (o0 : f0.offset = 0) (o1 : f1.offset = 1) (t0 : f0.type = 3) (t1 : f1.type = 3)
    (h : DataW.trod enc Tryz.prog w base spare held fuel 24 cs = some x) (hz : (x.1.weights Tryz.prog 24).all (· ≤ reachBytes) = true) :
    ∃ (v : Value) (l : List (Int × Int)), cs = [v] ∧ RowAt w v l.length 2 (netCells l) ∧ 16 * l.length ≤ 140737488351232 := by
  rcases open_slice_pairs Tryz.underlying24 hs cells_net o0 o1 (by rw [t0]; exact cells_int) (by rw [t1]; exact cells_int) h with ⟨rfl, rfl⟩ | ⟨a, len, cap, m, n, V0, V1, D0, D1, P0, P1, rfl, _, hl, hm, hmm, rfl, hx⟩
  · exact ⟨_, [], rfl, ⟨rfl, .inl ⟨rfl, _, _, rfl⟩⟩, by decide⟩
  · have hlm : len ≤ m := by rw [hmm]; split <;> omega
    have hw := slice_weight Tryz.underlying24 hz
    simp only [List.length_map, List.length_range, bytes_net] at hw
    have each : ∀ i, i < len → ∃ s : Int × Int, w.cell? (a.add (i * 2)) = some (.int .i64 s.1) ∧ w.cell? (a.add (i * 2 + 1)) = some (.int .i64 s.2) := fun i hi => by
      obtain ⟨h1, h2, h3, h4⟩ := hx i (by omega)
      rw [t0] at h3
      rw [t1] at h4
      obtain ⟨s, e, _⟩ := DataW.trod_int Tryz.underlying3 h3
      obtain ⟨s', e', _⟩ := DataW.trod_int Tryz.underlying3 h4
      simp only [List.cons.injEq, and_true] at e e'
      exact ⟨(s, s'), by rw [h1, e], by rw [h2, e']⟩
    obtain ⟨S, hS⟩ := choose_lt each
    have hn : ((List.range len).map S).length = len := by simp
    refine ⟨_, (List.range len).map S, rfl, ?_, by rw [hn]; omega⟩
    rw [hn]
    refine row_mk (by decide) (by rw [netCells_len, hn]) hl fun j hj => ?_
    obtain ⟨k, hk, rfl | rfl⟩ := two_of hj
    · rw [(hS k hk).1, net_at _ k (by rw [hn]; exact hk)]; simp
    · rw [(hS k hk).2, net_at1 _ k (by rw [hn]; exact hk)]; simp

theorem row_users {f0 f1 : Field} {fuel : Nat} {cs : List Value} {x : DataW H × List MemPlace} (hs : Tryz.prog.underlying 48 = some (.struct #[f0, f1])) (o0 : f0.offset = 0) (o1 : f1.offset = 1) (t0 : f0.type = 9) (t1 : f1.type = 9)
    (h : DataW.trod enc Tryz.prog w base spare held fuel 25 cs = some x) (hz : (x.1.weights Tryz.prog 25).all (· ≤ reachBytes) = true) :
    ∃ (v : Value) (l : List (ByteArray × ByteArray)), cs = [v] ∧ RowAt w v l.length 2 (userCells l) ∧ (∀ s ∈ l, s.1.size ≤ maxLen ∧ s.2.size ≤ maxLen) ∧ 32 * l.length ≤ 140737488351232 := by
  rcases open_slice_pairs Tryz.underlying25 hs cells_user o0 o1 (by rw [t0]; exact cells_str) (by rw [t1]; exact cells_str) h with ⟨rfl, rfl⟩ | ⟨a, len, cap, m, n, V0, V1, D0, D1, P0, P1, rfl, _, hl, hm, hmm, rfl, hx⟩
  · exact ⟨_, [], rfl, ⟨rfl, .inl ⟨rfl, _, _, rfl⟩⟩, (fun _ h => by cases h), by decide⟩
  · have hlm : len ≤ m := by rw [hmm]; split <;> omega
    have hw := slice_weight Tryz.underlying25 hz
    simp only [List.length_map, List.length_range, bytes_user] at hw
    have each : ∀ i, i < len → ∃ s : ByteArray × ByteArray, w.cell? (a.add (i * 2)) = some (.string s.1) ∧ w.cell? (a.add (i * 2 + 1)) = some (.string s.2) ∧ s.1.size ≤ maxLen ∧ s.2.size ≤ maxLen := fun i hi => by
      obtain ⟨h1, h2, h3, h4⟩ := hx i (by omega)
      rw [t0] at h3
      rw [t1] at h4
      obtain ⟨s, e, _, z⟩ := DataW.trod_string Tryz.underlying9 h3
      obtain ⟨s', e', _, z'⟩ := DataW.trod_string Tryz.underlying9 h4
      simp only [List.cons.injEq, and_true] at e e'
      exact ⟨(s, s'), by rw [h1, e], by rw [h2, e'], z, z'⟩
    obtain ⟨S, hS⟩ := choose_lt each
    have hn : ((List.range len).map S).length = len := by simp
    refine ⟨_, (List.range len).map S, rfl, ?_, ?_, by rw [hn]; omega⟩
    · rw [hn]
      refine row_mk (by decide) (by rw [userCells_len, hn]) hl fun j hj => ?_
      obtain ⟨k, hk, rfl | rfl⟩ := two_of hj
      · rw [(hS k hk).1, user_at _ k (by rw [hn]; exact hk)]; simp
      · rw [(hS k hk).2.1, user_at1 _ k (by rw [hn]; exact hk)]; simp
    · intro s hs
      obtain ⟨i, hi, rfl⟩ := List.mem_map.1 hs
      exact (hS i (List.mem_range.1 hi)).2.2

theorem list9 {α : Type} {l : List α} (h : l.length = 9) : ∃ a b c d e f g i j, l = [a, b, c, d, e, f, g, i, j] := by
  match l, h with
  | [a, b, c, d, e, f, g, i, j], _ => exact ⟨a, b, c, d, e, f, g, i, j, rfl⟩

theorem each_weight {P : Program} {ts : List TypeId} {ds : List (DataW H)} (h : (DataW.weightsEach P ts ds).all (· ≤ reachBytes) = true) {j : Nat} {t : TypeId} {d : DataW H} (ht : ts[j]? = some t) (hd : ds[j]? = some d) : (d.weights P t).all (· ≤ reachBytes) = true :=
  List.all_eq_true.2 fun n hn => List.all_eq_true.1 h n (DataW.weights_mem_each ht hd n hn)

/-- a Config's nine cells, read -/
theorem open_cfg {fuel : Nat} {cs : List Value} {x : DataW H × List MemPlace} (h : DataW.trod enc Tryz.prog w base spare held fuel 27 cs = some x) (hz : (x.1.weights Tryz.prog 27).all (· ≤ reachBytes) = true) :
    ∃ (c : Cfg) (vD vN vU vW : Value), cs = [.string c.host, vD, vN, vU, .int .i64 c.most, .int .i64 c.size, vW, .int .i64 c.life, .int .i64 c.room] ∧ CfgAt w c vD vN vU vW ∧ CfgSz c ∧ CfgRm c := by
  obtain ⟨xs, n, _, rfl, hl, hx, hf⟩ := DataW.trod_struct Tryz.underlying27 h
  rw [cells_cfg] at hl
  obtain ⟨c0, c1, c2, c3, c4, c5, c6, c7, c8, rfl⟩ := list9 hl
  obtain ⟨y0, y1, y2, y3, y4, y5, y6, y7, y8, rfl⟩ := list9 hx
  have g0 : DataW.trod enc Tryz.prog w base spare held n 9 (([c0, c1, c2, c3, c4, c5, c6, c7, c8].drop 0).take (Tryz.prog.cellsOf 9)) = some y0 := hf 0 _ rfl
  have g1 : DataW.trod enc Tryz.prog w base spare held n 23 (([c0, c1, c2, c3, c4, c5, c6, c7, c8].drop 1).take (Tryz.prog.cellsOf 23)) = some y1 := hf 1 _ rfl
  have g2 : DataW.trod enc Tryz.prog w base spare held n 24 (([c0, c1, c2, c3, c4, c5, c6, c7, c8].drop 2).take (Tryz.prog.cellsOf 24)) = some y2 := hf 2 _ rfl
  have g3 : DataW.trod enc Tryz.prog w base spare held n 25 (([c0, c1, c2, c3, c4, c5, c6, c7, c8].drop 3).take (Tryz.prog.cellsOf 25)) = some y3 := hf 3 _ rfl
  have g4 : DataW.trod enc Tryz.prog w base spare held n 3 (([c0, c1, c2, c3, c4, c5, c6, c7, c8].drop 4).take (Tryz.prog.cellsOf 3)) = some y4 := hf 4 _ rfl
  have g5 : DataW.trod enc Tryz.prog w base spare held n 3 (([c0, c1, c2, c3, c4, c5, c6, c7, c8].drop 5).take (Tryz.prog.cellsOf 3)) = some y5 := hf 5 _ rfl
  have g6 : DataW.trod enc Tryz.prog w base spare held n 22 (([c0, c1, c2, c3, c4, c5, c6, c7, c8].drop 6).take (Tryz.prog.cellsOf 22)) = some y6 := hf 6 _ rfl
  have g7 : DataW.trod enc Tryz.prog w base spare held n 3 (([c0, c1, c2, c3, c4, c5, c6, c7, c8].drop 7).take (Tryz.prog.cellsOf 3)) = some y7 := hf 7 _ rfl
  have g8 : DataW.trod enc Tryz.prog w base spare held n 3 (([c0, c1, c2, c3, c4, c5, c6, c7, c8].drop 8).take (Tryz.prog.cellsOf 3)) = some y8 := hf 8 _ rfl
  simp only [cells_str, cells_int, cells_strs, cells_nets, cells_users, cells_ints, List.drop_zero, List.drop_succ_cons, List.take_succ_cons, List.take_zero] at g0 g1 g2 g3 g4 g5 g6 g7 g8
  simp only [DataW.weights, Tryz.underlying27, List.map_cons, List.map_nil] at hz
  obtain ⟨s0, e0, _, z0⟩ := DataW.trod_string Tryz.underlying9 g0
  obtain ⟨v1, l1, e1, r1, z1, m1⟩ := row_strs g1 (each_weight hz (j := 1) rfl rfl)
  obtain ⟨v2, l2, e2, r2, m2⟩ := row_nets Tryz.underlying46 rfl rfl rfl rfl g2 (each_weight hz (j := 2) rfl rfl)
  obtain ⟨v3, l3, e3, r3, z3, m3⟩ := row_users Tryz.underlying48 rfl rfl rfl rfl g3 (each_weight hz (j := 3) rfl rfl)
  obtain ⟨n4, e4, _⟩ := DataW.trod_int Tryz.underlying3 g4
  obtain ⟨n5, e5, _⟩ := DataW.trod_int Tryz.underlying3 g5
  obtain ⟨v6, l6, e6, r6, m6⟩ := row_ints g6 (each_weight hz (j := 6) rfl rfl)
  obtain ⟨n7, e7, _⟩ := DataW.trod_int Tryz.underlying3 g7
  obtain ⟨n8, e8, _⟩ := DataW.trod_int Tryz.underlying3 g8
  simp only [List.cons.injEq, and_true] at e0 e1 e2 e3 e4 e5 e6 e7 e8
  subst e0 e1 e2 e3 e4 e5 e6 e7 e8
  exact ⟨⟨s0, l1, l2, l3, n4, n5, l6, n7, n8⟩, _, _, _, _, rfl, ⟨r1, r2, r3, r6⟩, ⟨z0, by show l1.length ≤ _; omega, z1, by show l2.length ≤ _; omega, by show l3.length ≤ _; omega, z3, by show l6.length ≤ _; omega⟩, ⟨m1, m2, m3, m6⟩⟩
end
end Go.Proofs.YtadcidbeealdpaaGreatDoor

/- The wrap of a walk into a row, and the library's one variable that is asked for. -/
namespace Go.Proofs.YtadcidbeealdpaaGreatDoor
open Go.ChangeShapes Go.WideShapes Go.ChangeAt Go.RowKit

theorem own : ownKnob Tryz.prog.godebug = none := by kernel_rfl

/-- The wrap that hands on both what is listed and the world's shape. -/
theorem returns_and_shaped {H : Type} {enc : TypeId × Value → H} {a : Assume} {C : Checked} {os : Os} {f : FuncId} {fn : Func} {s : ChangeSpec} {conds : List PathCond} {apart fresh handsOn again : Bool} {X : World → Array Value → Prop}
    (hX : ∀ (w w' : World) (args : Array Value), w.heap = w'.heap → X w args → X w' args)
    (own : ownKnob C.prog.godebug = none) (started : os.Started) (noInit : C.prog.inits.idxOf? f = none) (hfn : C.prog.funcs[f]? = some fn)
    (witness : ∃ (w : World) (tape : Tape) (i : Input), w.os = os ∧ (w.forCall tape i).Shaped C.prog ∧ i.vars = [] ∧ Input.okWide C.prog (w.forCall tape i) .any w.heap.size f i ∧
      ((s.pre enc C.prog fn conds apart (w.forCall tape i).memory i.args ∧ X (w.forCall tape i).memory i.args) ∧ sizedMet enc C.prog fn (OpenSpec.ofChange s) apart (w.forCall tape i).memory i.args) ∧ a.holds C.prog (lone (Frame.enter C.prog f i.args .normal) [] (w.forCall tape i)))
    (contract : ∀ (W : World) (base : Nat) (args : Array Value) (ds gs : List (DataW H)) (before : List MemPlace),
      (∀ (j : Nat) t v, fn.params[j]? = some t → args[j]? = some v → Value.okWide C.prog W .any base t v) →
      DataW.Whole enc C.prog fn.params.toList s.vars apart W args.toList ds gs before →
      conds.all (PathCond.test C.prog ⟨fn.params.toList, ds, s.plain.varTypes C.prog, gs⟩) = true →
      (DataW.weightsEach C.prog (fn.params.toList ++ s.plain.varTypes C.prog) (ds ++ gs)).all (· ≤ reachBytes) = true → X W args →
      W.ShapedOpen C.prog →
      Calls C.prog f args W fun e W' => ∃ v, e = .returned v ∧ s.post enc C.prog fn apart fresh handsOn again W args v W') :
    ReturnsInHanded a C os f .any (fun w args => (s.pre enc C.prog fn conds apart w args ∧ X w args) ∧ sizedMet enc C.prog fn (OpenSpec.ofChange s) apart w args) (s.post enc C.prog fn apart fresh handsOn again) := by
  refine returnsInHanded_of_calls own started noInit witness ?_
  intro w tape i _ hsh _ hok hpre _
  obtain ⟨_, _, _, fn', hfn', _, _, _, _, hval⟩ := hok
  have e : fn' = fn := Option.some.inj (hfn'.symm.trans hfn)
  subst e
  obtain ⟨⟨⟨ds, gs, before, hw, hc⟩, hx⟩, hz⟩ := hpre
  have hw' := DataW.Whole.of_heap (w' := w.forCall tape i) (by rfl) hw
  refine (contract (w.forCall tape i) w.heap.size i.args ds gs before hval hw' hc (hz.weights hw) (hX _ _ _ (by rfl) hx) hsh).mono fun e W' ⟨v, he, hp⟩ => ?_
  subst he
  exact ChangeSpec.post_blind hp

/-- The library's variable that strings.Index asks for holds some number. -/
theorem maxLen_cell {w : World} (h : w.ShapedOpen Tryz.prog) : ∃ m, w.cell? ⟨0, 0, none⟩ = some (.int .i64 m) :=
  cell_of_shapedOpen_int (zero := #[.int .i64 0]) (t := 3) h (of_decide_eq_true (by kernel_rfl)) (by kernel_rfl) rfl (by kernel_rfl) (by kernel_rfl) Tryz.underlying3

theorem lt_of_cell {w : World} {b o : Nat} {v : Value} (h : w.cell? ⟨b, o, none⟩ = some v) : b < w.heap.size := by
  rcases Nat.lt_or_ge b w.heap.size with h' | h'
  · exact h'
  · simp [World.cell?, Array.getElem?_eq_none h'] at h
end Go.Proofs.YtadcidbeealdpaaGreatDoor

/- What comes in, opened: a list of numbers; the library's tables. -/
namespace Go.Proofs.YtadcidbeealdpaaGreatDoor
open Go.ChangeShapes Go.WideShapes Go.RowKit Go.Deep

section
variable {H : Type} {enc : TypeId × Value → H} {w : World} {base : Nat} {spare : Nat → Bool} {held : Bool}
theorem kbulk_one (d : DataW H) : 1 ≤ Rows.uptoBulk d := by
  cases d with
  | lit l => cases l <;> simp [Rows.uptoBulk]
  | nil => simp [Rows.uptoBulk]
  | ptr d => simp [Rows.uptoBulk]
  | slice elems spare => simp [Rows.uptoBulk]
  | agg parts => simp [Rows.uptoBulk]
  | iface t d => simp [Rows.uptoBulk]
  | map entries => simp [Rows.uptoBulk]
  | held h => simp [Rows.uptoBulk]
theorem kbulk_len (l : List (DataW H)) : l.length ≤ Rows.uptoBulkAll l := by
  induction l with
  | nil => simp
  | cons x r ih =>
    have := kbulk_one x
    simp only [Rows.uptoBulkAll, List.length_cons]
    omega
theorem wf_range {n : Int} (h : (Lit.int .i64 n).wf = true) : -9223372036854775808 ≤ n ∧ n ≤ 9223372036854775807 := by
  simp only [Lit.wf, Bool.and_eq_true, decide_eq_true_eq] at h
  exact h
theorem open_nums {fuel : Nat} {cs : List Value} {x : DataW H × List MemPlace} (h : DataW.trod enc Tryz.prog w base spare held fuel 22 cs = some x) (hk : Rows.uptoBulk x.1 ≤ 1048576) :
    ∃ (v : Value) (l : List Int), cs = [v] ∧ RowAt w v l.length 1 (intCells l) ∧ l.length ≤ 1048576 ∧ ∀ z ∈ l, -9223372036854775808 ≤ z ∧ z ≤ 9223372036854775807 := by
  rcases open_slice1 Tryz.underlying22 cells_int h with ⟨rfl, rfl⟩ | ⟨a, len, cap, m, n, V, D, Pl, rfl, _, hl, hm, hmm, rfl, hx⟩
  · exact ⟨_, [], rfl, ⟨rfl, .inl ⟨rfl, _, _, rfl⟩⟩, by decide, fun z hz => by cases hz⟩
  · have hlm : len ≤ m := by rw [hmm]; split <;> omega
    have hlen : len ≤ 1048576 := by
      have h1 := kbulk_len ((List.range len).map D)
      simp only [Rows.uptoBulk] at hk
      rw [List.length_map, List.length_range] at h1
      omega
    have each : ∀ i, i < len → ∃ s : Int, w.cell? (a.add i) = some (.int .i64 s) ∧ -9223372036854775808 ≤ s ∧ s ≤ 9223372036854775807 := fun i hi => by
      obtain ⟨h1, h2⟩ := hx i (by omega)
      obtain ⟨s, e, _, hw⟩ := DataW.trod_int Tryz.underlying3 h2
      simp only [List.cons.injEq, and_true] at e
      exact ⟨s, by rw [h1, e], wf_range hw⟩
    obtain ⟨S, hS⟩ := choose_lt each
    have hn : ((List.range len).map S).length = len := by simp
    refine ⟨_, (List.range len).map S, rfl, ?_, by rw [hn]; omega, fun z hz => ?_⟩
    · rw [hn]
      refine row_mk (by decide) (by simp [intCells]) hl fun j hj => ?_
      rw [Nat.mul_one] at hj
      rw [(hS j hj).1]
      simp [intCells, hj]
    · obtain ⟨i, hi, rfl⟩ := List.mem_map.1 hz
      exact (hS i (List.mem_range.1 hi)).2
end
theorem laid_pow : (Rows.laid_internal_strconv_uint64pow10 : DataW Unit) = Lib.tabData .u64 Lib.pow10Tab := by kernel_rfl
theorem laid_first : Rows.laid_unicode_utf8_first = Lib.firstData := by kernel_rfl
theorem laid_accept : (Rows.laid_unicode_utf8_acceptRanges : DataW Unit) = Lib.acceptData := by kernel_rfl
theorem cells_u8 : Tryz.prog.cellsOf 5 = 1 := by kernel_rfl
theorem cells_accE : Tryz.prog.cellsOf 263 = 2 := by kernel_rfl
theorem glob_first : Tryz.prog.globalNamed "unicode/utf8.first" = some 2 := by kernel_rfl
theorem glob_acc : Tryz.prog.globalNamed "unicode/utf8.acceptRanges" = some 3 := by kernel_rfl
theorem glob_pow : Tryz.prog.globalNamed "internal/strconv.uint64pow10" = some 6 := by kernel_rfl
theorem type_first : (Tryz.prog.globals[2]?).map (·.type) = some 261 := by kernel_rfl
theorem type_acc : (Tryz.prog.globals[3]?).map (·.type) = some 264 := by kernel_rfl
theorem type_pow : (Tryz.prog.globals[6]?).map (·.type) = some 281 := by kernel_rfl
/-- the tables, as the row lists them -/
theorem glob_laid {W : World} (h : laidMet Tryz.prog Rows.piecesUptoRow.laid W) (hsh : W.ShapedOpen Tryz.prog) : GlobAt W := by
  have r1 : Lib.VarReads Tryz.prog W "internal/strconv.uint64pow10" Rows.laid_internal_strconv_uint64pow10 := Lib.laidMet.reads h (List.Mem.tail _ (List.Mem.tail _ (List.Mem.head _)))
  have r2 : Lib.VarReads Tryz.prog W "unicode/utf8.acceptRanges" Rows.laid_unicode_utf8_acceptRanges := Lib.laidMet.reads h (List.Mem.tail _ (List.Mem.tail _ (List.Mem.tail _ (List.Mem.head _))))
  have r3 : Lib.VarReads Tryz.prog W "unicode/utf8.first" Rows.laid_unicode_utf8_first := Lib.laidMet.reads h (List.Mem.tail _ (List.Mem.tail _ (List.Mem.tail _ (List.Mem.tail _ (List.Mem.tail _ (List.Mem.tail _ (List.Mem.tail _ (List.Mem.tail _ (List.Mem.tail _ (List.Mem.head _))))))))))
  rw [laid_pow] at r1
  rw [laid_accept] at r2
  rw [laid_first] at r3
  refine ⟨maxLen_cell hsh, ?_, ?_, ?_⟩
  · obtain ⟨g, t, cs, fuel, p, hg, hty, hvar, hd⟩ := r1
    obtain rfl := Option.some.inj (glob_pow.symm.trans hg)
    obtain rfl := Option.some.inj (type_pow.symm.trans hty)
    unfold Pow Lib.TabIs
    rw [hvar, ← Lib.cells_of_tab Tryz.underlying281 Tryz.underlying198 (by kernel_rfl) (by kernel_rfl) hd]
  · intro c hc
    obtain ⟨g, t, cs, fuel, p, hg, hty, hvar, hd⟩ := r3
    obtain rfl := Option.some.inj (glob_first.symm.trans hg)
    obtain rfl := Option.some.inj (type_first.symm.trans hty)
    have hcs := Lib.cells_of_tab Tryz.underlying261 Tryz.underlying5 cells_u8 (by kernel_rfl) hd
    have := World.var?_cell hg hvar c
    rw [this, ← Array.getElem?_toList, hcs]
    simp [Lib.firstTab, hc]
  · intro i hi
    obtain ⟨g, t, cs, fuel, p, hg, hty, hvar, hd⟩ := r2
    obtain rfl := Option.some.inj (glob_acc.symm.trans hg)
    obtain rfl := Option.some.inj (type_acc.symm.trans hty)
    obtain ⟨fuel', d, q, hdi, he⟩ := Lib.array_elem Tryz.underlying264 hd i hi
    simp only [List.getElem?_map, List.getElem?_range hi, Option.map_some, Option.some.injEq] at hdi
    subst hdi
    rw [cells_accE] at he
    have hcs := Lib.ints_of_struct Tryz.underlying263 (fun j f hj => by
      match j, hj with
      | 0, hj => simp at hj; subst hj; exact ⟨Tryz.underlying5, rfl, cells_u8⟩
      | 1, hj => simp at hj; subst hj; exact ⟨Tryz.underlying5, rfl, cells_u8⟩
      | j + 2, hj => simp at hj) (by rw [cells_accE]; rfl) he
    have e0 := congrArg (·[0]?) hcs
    have e1 := congrArg (·[1]?) hcs
    simp only [List.getElem?_take, List.getElem?_drop] at e0 e1
    constructor
    · rw [World.var?_cell hg hvar (2 * i), ← Array.getElem?_toList]
      simpa [Nat.mul_comm] using e0
    · rw [World.var?_cell hg hvar (2 * i + 1), ← Array.getElem?_toList]
      simpa [Nat.mul_comm] using e1
end Go.Proofs.YtadcidbeealdpaaGreatDoor

/- The law of pieces: the walk, wrapped into its row. -/
namespace Go.Proofs.YtadcidbeealdpaaGreatDoor
open Go.ChangeShapes Go.WideShapes Go.ChangeAt Go.RowKit
open Go.ChangeMaps (open_string shut_string)

theorem laidOut : laidOutB Tryz.prog = true := by kernel_rfl

/-- there is an input that fits, at a world that is written out -/
theorem witness_zip {H : Type} {enc : TypeId × Value → H} {C : Checked} {os : Os} {f : FuncId} {fn : Func} {s : OpenSpec} {conds : List PathCond} {apart : Bool} {laid : List (String × DataW Unit)} (w0 : World) (args : Array Value) (hos : w0.os = os)
    (hv : (w0.forCall (fun _ _ => 0) ⟨#[], args, []⟩).variablesZipB C.prog = true)
    (hr : ((w0.forCall (fun _ _ => 0) ⟨#[], args, []⟩).heap.toList.drop C.prog.globals.size).take ((begin C.prog (fun _ _ => 0) default).world.heap.size - C.prog.globals.size) =
      (begin C.prog (fun _ _ => 0) default).world.heap.toList.drop C.prog.globals.size)
    (hok : Input.okWideB C.prog (w0.forCall (fun _ _ => 0) ⟨#[], args, []⟩) f ⟨#[], args, []⟩ = true)
    (hrow : s.preRow enc C.prog fn conds apart laid (w0.forCall (fun _ _ => 0) ⟨#[], args, []⟩).memory args) :
    ∃ (w : World) (tape : Tape) (i : Input), w.os = os ∧ (w.forCall tape i).Shaped C.prog ∧ i.vars = [] ∧ Input.okWide C.prog (w.forCall tape i) .any w.heap.size f i ∧
      s.preRow enc C.prog fn conds apart laid (w.forCall tape i).memory i.args ∧ ({} : Assume).holds C.prog (lone (Frame.enter C.prog f i.args .normal) [] (w.forCall tape i)) :=
  ⟨w0, fun _ _ => 0, ⟨#[], args, []⟩, hos, World.shaped_of_ZipB hv hr, (Input.okWide_of_okWideB (base := 0) hok).1, (Input.okWide_of_okWideB hok).2, hrow, by simp [Assume.holds]⟩

theorem pieces_reads (os : Os) {H : Type} (enc : TypeId × Value → H) : ∃ places, DataW.whole enc Tryz.prog ((World.laidAll Tryz.prog os Rows.piecesUptoRow.laid).forCall (fun _ _ => 0) ⟨#[], #[.int .i64 0, .string ⟨#[]⟩, .slice none 0 0], []⟩).memory Tryz.f3.params.toList Rows.piecesSpec.vars false #[Value.int .i64 0, Value.string ⟨#[]⟩, Value.slice none 0 0].toList 8 = some ([.lit (.int .i64 0), .lit (.string []), .nil], [], places) :=
  ⟨[], by kernel_rfl⟩
theorem pieces_plain : (Rows.piecesUptoRow.laid.all fun x => x.2.handleName?.isNone) = true := by kernel_rfl

set_option maxRecDepth 100000 in
theorem pieces_lifted (os : Os) (started : os.Started) (H : Type) (enc : TypeId × Value → H) (F : Stop.Interp) :
    ReturnsInHanded {} Tryz.checked os 3 .any ((Rows.OpenSpec.upto Rows.piecesSpec).preRow enc Tryz.prog Tryz.f3 Rows.piecesUptoRow.domain false Rows.piecesUptoRow.laid)
      (((Rows.OpenSpec.upto Rows.piecesSpec).at F).post enc Tryz.prog Tryz.f3 false true false false) := by
  obtain ⟨places, hx⟩ := pieces_reads os enc
  refine returnsInHanded_of_row (C := Tryz.checked) (s := Rows.OpenSpec.upto Rows.piecesSpec) own started (by kernel_rfl) Tryz.func3
    (witness_zip (enc := enc) (C := Tryz.checked) (World.laidAll Tryz.prog os Rows.piecesUptoRow.laid) #[.int .i64 0, .string ⟨#[]⟩, .slice none 0 0] (World.laidAll_os _ _ _) (by kernel_rfl) (by kernel_rfl) (by kernel_rfl)
      (OpenSpec.preRow_of_cond 8 hx (by kernel_rfl) (fun k hk => by cases hk; kernel_rfl) (by kernel_rfl)
        (by rw [MakeChecks.laidMetH_plain _ _ _ pieces_plain]; exact laidMet_laidAll _ (by kernel_rfl) (by kernel_rfl)))) ?_
  intro W base args ds gs before hval0 hW _ hcond hsz hlaid hsh _
  rw [MakeChecks.laidMetH_plain _ _ _ pieces_plain] at hlaid
  have hval : ∀ (j : Nat) t v, Tryz.f3.params[j]? = some t → args[j]? = some v → Value.okWide Tryz.prog W .any base t v := hval0
  have hW' := hW
  obtain ⟨p, q, hA0, hV, rfl, _, _⟩ := hW
  have hA : DataW.TrodAll enc Tryz.prog W 0 (fun _ => true) true Tryz.f3.params.toList args.toList ds p := hA0
  rw [Tryz.params3] at hA hval
  obtain ⟨v0, v1, v2, d0, d1, d2, p0, p1, p2, rfl, rfl, rfl, h0, h1, h2⟩ := trodAll_three hA
  obtain ⟨rfl, rfl⟩ := trodVars_none hV
  obtain ⟨addr, rfl, rfl, rfl, w0⟩ := open_int Tryz.underlying3 (hval 0 3 v0 rfl rfl) h0
  obtain ⟨s, rfl, rfl, rfl, ws⟩ := open_string Tryz.underlying9 (hval 1 9 v1 rfl rfl) h1
  have h2k := h2
  have hlt : ∀ x ∈ p2, x.block < W.heap.size := fun x hx => hW'.lt x (by simp [hx])
  have hk0 : Rows.uptoSmall H ([.lit (.int .i64 addr), .lit (.string s.data.toList), d2] ++ []) = true := hcond _ rfl
  have hk : s.data.toList.length ≤ 1048576 ∧ Rows.uptoBulk d2 ≤ 1048576 := by
    have h : Rows.uptoBulkAll ([.lit (.int .i64 addr), .lit (.string s.data.toList), d2] ++ []) ≤ 1048576 := of_decide_eq_true hk0
    simp only [List.append_nil, Rows.uptoBulkAll, Rows.uptoBulk] at h
    omega
  obtain ⟨a, len, cap, rfl⟩ := okWide_slice Tryz.underlying22 (hval 2 22 v2 rfl rfl)
  obtain ⟨fuel, h3⟩ := h2
  obtain ⟨v, l, hc, hrow, hll, hlr⟩ := open_nums h3 hk.2
  have hv : Value.slice a len cap = v := by
    have e : [Value.slice a len cap] = [v] := hc
    exact List.cons.inj e |>.1
  subst hv
  have hg := glob_laid hlaid hsh
  clear hA0 hval0
  have hr := wf_range w0
  refine (pieces_any addr s.data.toList l _ W hg hr.1 hr.2 hk.1 hrow hll hlr).mono fun e W' ⟨he, hb⟩ => ?_
  subst he
  simp only [List.append_nil, List.nil_append] at hW'
  exact ⟨_, rfl, _, _, _, [], _, [], hW', trodAll_mk1 (shut_bool Tryz.underlying4 _), trodAll_mk3 (shut_int Tryz.underlying3 w0) (shut_string Tryz.underlying9 ws) (Below.trod laidOut (by kernel_rfl) (of_decide_eq_true (by kernel_rfl)) h2k hb hlt), rfl, hb.frame _, fun h => by cases h⟩

end Go.Proofs.YtadcidbeealdpaaGreatDoor
