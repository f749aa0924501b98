/- Settings that came in, opened: whatever a Config reads as, it is a Cfg, with sizes that the reach bounds. -/
import Derived.Test.YtnfhdbmmoicilaaDoorLent2
import Derived.Deep.SlicePairs
import Derived.SizedLaws
namespace Go.Proofs.YtnfhdbmmoicilaaDoor
open Go.ChangeShapes Go.WideShapes Go.RowKit Go.Deep

section
variable {H : Type} {enc : TypeId × Value → H} {w : World} {base : Nat} {spare : Nat → Bool} {held : Bool}

theorem reach_eq : reachBytes = 140737488351232 := by decide
theorem bytes_str : Tryd.prog.bytesOf 9 = 16 := by kernel_rfl
theorem bytes_net : Tryd.prog.bytesOf 47 = 16 := by kernel_rfl
theorem bytes_user : Tryd.prog.bytesOf 45 = 32 := by kernel_rfl
theorem bytes_int : Tryd.prog.bytesOf 3 = 8 := by kernel_rfl
theorem cells_str : Tryd.prog.cellsOf 9 = 1 := by kernel_rfl
theorem cells_int : Tryd.prog.cellsOf 3 = 1 := by kernel_rfl
theorem cells_net : Tryd.prog.cellsOf 47 = 2 := by kernel_rfl
theorem cells_user : Tryd.prog.cellsOf 45 = 2 := by kernel_rfl
theorem cells_strs : Tryd.prog.cellsOf 27 = 1 := by kernel_rfl
theorem cells_nets : Tryd.prog.cellsOf 28 = 1 := by kernel_rfl
theorem cells_users : Tryd.prog.cellsOf 29 = 1 := by kernel_rfl
theorem cells_ints : Tryd.prog.cellsOf 30 = 1 := by kernel_rfl
theorem cells_cfg : Tryd.prog.cellsOf 32 = 9 := by kernel_rfl

/-- the reach bounds a slice's length -/
theorem slice_weight {P : Program} {t e : TypeId} {el sp : List (DataW H)} (ht : P.underlying t = some (.slice e)) (hz : ((DataW.slice el sp).weights P t).all (· ≤ reachBytes) = true) : el.length * P.bytesOf e ≤ 140737488351232 := by
  simp only [DataW.weights, ht, List.all_cons, Bool.and_eq_true, decide_eq_true_eq] at hz
  have h1 := hz.1
  rw [reach_eq] at h1
  have h2 : el.length * P.bytesOf e ≤ (el.length + sp.length) * P.bytesOf e := Nat.mul_le_mul_right _ (by omega)
  omega

theorem row_mk {a : Addr} {len cap sz : Nat} {cs : List Value} (hsz : 0 < sz) (hl : cs.length = len * sz) (hcap : len ≤ cap) (hc : ∀ j : Nat, j < len * sz → w.cell? (a.add j) = cs[j]?) : RowAt w (.slice (some a) len cap) len sz cs := by
  refine ⟨hl, ?_⟩
  rcases Nat.eq_zero_or_pos len with rfl | hp
  · exact .inl ⟨rfl, _, _, rfl⟩
  · obtain ⟨b, off, spot⟩ := a
    have h0 : 0 < len * sz := Nat.mul_pos hp hsz
    have e0 := hc 0 h0
    rw [List.getElem?_eq_getElem (by omega)] at e0
    have hspot : spot = none := by simpa [Addr.add] using World.cell?_spot e0
    subst hspot
    exact .inr ⟨b, off, cap, rfl, hcap, fun j hj => by rw [← add_plain]; exact hc j hj⟩

theorem row_strs {fuel : Nat} {cs : List Value} {x : DataW H × List MemPlace} (h : DataW.trod enc Tryd.prog w base spare held fuel 27 cs = some x) (hz : (x.1.weights Tryd.prog 27).all (· ≤ reachBytes) = true) :
    ∃ (v : Value) (l : List ByteArray), cs = [v] ∧ RowAt w v l.length 1 (strCellsOf l) ∧ (∀ s ∈ l, s.size ≤ maxLen) ∧ 16 * l.length ≤ 140737488351232 := by
  rcases open_slice1 Tryd.underlying27 cells_str h with ⟨rfl, rfl⟩ | ⟨a, len, cap, m, n, V, D, Pl, rfl, _, hl, hm, hmm, rfl, hx⟩
  · exact ⟨_, [], rfl, ⟨rfl, .inl ⟨rfl, _, _, rfl⟩⟩, (fun _ h => by cases h), by decide⟩
  · have hlm : len ≤ m := by rw [hmm]; split <;> omega
    have hw := slice_weight Tryd.underlying27 hz
    simp only [List.length_map, List.length_range, bytes_str] at hw
    have each : ∀ i, i < len → ∃ s : ByteArray, w.cell? (a.add i) = some (.string s) ∧ s.size ≤ maxLen := fun i hi => by
      obtain ⟨h1, h2⟩ := hx i (by omega)
      obtain ⟨s, e, _, hs⟩ := DataW.trod_string Tryd.underlying9 h2
      simp only [List.cons.injEq, and_true] at e
      exact ⟨s, by rw [h1, e], hs⟩
    obtain ⟨S, hS⟩ := choose_lt each
    have hn : ((List.range len).map S).length = len := by simp
    refine ⟨_, (List.range len).map S, rfl, ?_, ?_, by rw [hn]; omega⟩
    · rw [hn]
      refine row_mk (by decide) (by simp [strCellsOf]) hl fun j hj => ?_
      rw [Nat.mul_one] at hj
      rw [(hS j hj).1]
      simp [strCellsOf, hj]
    · intro s hs
      obtain ⟨i, hi, rfl⟩ := List.mem_map.1 hs
      exact (hS i (List.mem_range.1 hi)).2

theorem row_ints {fuel : Nat} {cs : List Value} {x : DataW H × List MemPlace} (h : DataW.trod enc Tryd.prog w base spare held fuel 30 cs = some x) (hz : (x.1.weights Tryd.prog 30).all (· ≤ reachBytes) = true) :
    ∃ (v : Value) (l : List Int), cs = [v] ∧ RowAt w v l.length 1 (intCells l) ∧ 8 * l.length ≤ 140737488351232 := by
  rcases open_slice1 Tryd.underlying30 cells_int h with ⟨rfl, rfl⟩ | ⟨a, len, cap, m, n, V, D, Pl, rfl, _, hl, hm, hmm, rfl, hx⟩
  · exact ⟨_, [], rfl, ⟨rfl, .inl ⟨rfl, _, _, rfl⟩⟩, by decide⟩
  · have hlm : len ≤ m := by rw [hmm]; split <;> omega
    have hw := slice_weight Tryd.underlying30 hz
    simp only [List.length_map, List.length_range, bytes_int] at hw
    have each : ∀ i, i < len → ∃ s : Int, w.cell? (a.add i) = some (.int .i64 s) := fun i hi => by
      obtain ⟨h1, h2⟩ := hx i (by omega)
      obtain ⟨s, e, _⟩ := DataW.trod_int Tryd.underlying3 h2
      simp only [List.cons.injEq, and_true] at e
      exact ⟨s, by rw [h1, e]⟩
    obtain ⟨S, hS⟩ := choose_lt each
    have hn : ((List.range len).map S).length = len := by simp
    refine ⟨_, (List.range len).map S, rfl, ?_, by rw [hn]; omega⟩
    rw [hn]
    refine row_mk (by decide) (by simp [intCells]) hl fun j hj => ?_
    rw [Nat.mul_one] at hj
    rw [hS j hj]
    simp [intCells, hj]

theorem netCells_len (l : List (Int × Int)) : (netCells l).length = l.length * 2 := by
  induction l with
  | nil => rfl
  | cons a l ih => show (_ :: _ :: netCells l).length = _; simp only [List.length_cons, ih]; omega

theorem two_of {n j : Nat} (h : j < n * 2) : ∃ k, k < n ∧ (j = k * 2 ∨ j = k * 2 + 1) := ⟨j / 2, by omega, by omega⟩

theorem row_nets {f0 f1 : Field} {fuel : Nat} {cs : List Value} {x : DataW H × List MemPlace} (hs : Tryd.prog.underlying 47 = some (.struct #[f0, f1])) (o0 : f0.offset = 0) (o1 : f1.offset = 1) (t0 : f0.type = 3) (t1 : f1.type = 3)
    (h : DataW.trod enc Tryd.prog w base spare held fuel 28 cs = some x) (hz : (x.1.weights Tryd.prog 28).all (· ≤ reachBytes) = true) :
    ∃ (v : Value) (l : List (Int × Int)), cs = [v] ∧ RowAt w v l.length 2 (netCells l) ∧ 16 * l.length ≤ 140737488351232 := by
  rcases open_slice_pairs Tryd.underlying28 hs cells_net o0 o1 (by rw [t0]; exact cells_int) (by rw [t1]; exact cells_int) h with ⟨rfl, rfl⟩ | ⟨a, len, cap, m, n, V0, V1, D0, D1, P0, P1, rfl, _, hl, hm, hmm, rfl, hx⟩
  · exact ⟨_, [], rfl, ⟨rfl, .inl ⟨rfl, _, _, rfl⟩⟩, by decide⟩
  · have hlm : len ≤ m := by rw [hmm]; split <;> omega
    have hw := slice_weight Tryd.underlying28 hz
    simp only [List.length_map, List.length_range, bytes_net] at hw
    have each : ∀ i, i < len → ∃ s : Int × Int, w.cell? (a.add (i * 2)) = some (.int .i64 s.1) ∧ w.cell? (a.add (i * 2 + 1)) = some (.int .i64 s.2) := fun i hi => by
      obtain ⟨h1, h2, h3, h4⟩ := hx i (by omega)
      rw [t0] at h3
      rw [t1] at h4
      obtain ⟨s, e, _⟩ := DataW.trod_int Tryd.underlying3 h3
      obtain ⟨s', e', _⟩ := DataW.trod_int Tryd.underlying3 h4
      simp only [List.cons.injEq, and_true] at e e'
      exact ⟨(s, s'), by rw [h1, e], by rw [h2, e']⟩
    obtain ⟨S, hS⟩ := choose_lt each
    have hn : ((List.range len).map S).length = len := by simp
    refine ⟨_, (List.range len).map S, rfl, ?_, by rw [hn]; omega⟩
    rw [hn]
    refine row_mk (by decide) (by rw [netCells_len, hn]) hl fun j hj => ?_
    obtain ⟨k, hk, rfl | rfl⟩ := two_of hj
    · rw [(hS k hk).1, net_at _ k (by rw [hn]; exact hk)]; simp
    · rw [(hS k hk).2, net_at1 _ k (by rw [hn]; exact hk)]; simp

theorem row_users {f0 f1 : Field} {fuel : Nat} {cs : List Value} {x : DataW H × List MemPlace} (hs : Tryd.prog.underlying 45 = some (.struct #[f0, f1])) (o0 : f0.offset = 0) (o1 : f1.offset = 1) (t0 : f0.type = 9) (t1 : f1.type = 9)
    (h : DataW.trod enc Tryd.prog w base spare held fuel 29 cs = some x) (hz : (x.1.weights Tryd.prog 29).all (· ≤ reachBytes) = true) :
    ∃ (v : Value) (l : List (ByteArray × ByteArray)), cs = [v] ∧ RowAt w v l.length 2 (userCells l) ∧ (∀ s ∈ l, s.1.size ≤ maxLen ∧ s.2.size ≤ maxLen) ∧ 32 * l.length ≤ 140737488351232 := by
  rcases open_slice_pairs Tryd.underlying29 hs cells_user o0 o1 (by rw [t0]; exact cells_str) (by rw [t1]; exact cells_str) h with ⟨rfl, rfl⟩ | ⟨a, len, cap, m, n, V0, V1, D0, D1, P0, P1, rfl, _, hl, hm, hmm, rfl, hx⟩
  · exact ⟨_, [], rfl, ⟨rfl, .inl ⟨rfl, _, _, rfl⟩⟩, (fun _ h => by cases h), by decide⟩
  · have hlm : len ≤ m := by rw [hmm]; split <;> omega
    have hw := slice_weight Tryd.underlying29 hz
    simp only [List.length_map, List.length_range, bytes_user] at hw
    have each : ∀ i, i < len → ∃ s : ByteArray × ByteArray, w.cell? (a.add (i * 2)) = some (.string s.1) ∧ w.cell? (a.add (i * 2 + 1)) = some (.string s.2) ∧ s.1.size ≤ maxLen ∧ s.2.size ≤ maxLen := fun i hi => by
      obtain ⟨h1, h2, h3, h4⟩ := hx i (by omega)
      rw [t0] at h3
      rw [t1] at h4
      obtain ⟨s, e, _, z⟩ := DataW.trod_string Tryd.underlying9 h3
      obtain ⟨s', e', _, z'⟩ := DataW.trod_string Tryd.underlying9 h4
      simp only [List.cons.injEq, and_true] at e e'
      exact ⟨(s, s'), by rw [h1, e], by rw [h2, e'], z, z'⟩
    obtain ⟨S, hS⟩ := choose_lt each
    have hn : ((List.range len).map S).length = len := by simp
    refine ⟨_, (List.range len).map S, rfl, ?_, ?_, by rw [hn]; omega⟩
    · rw [hn]
      refine row_mk (by decide) (by rw [userCells_len, hn]) hl fun j hj => ?_
      obtain ⟨k, hk, rfl | rfl⟩ := two_of hj
      · rw [(hS k hk).1, user_at _ k (by rw [hn]; exact hk)]; simp
      · rw [(hS k hk).2.1, user_at1 _ k (by rw [hn]; exact hk)]; simp
    · intro s hs
      obtain ⟨i, hi, rfl⟩ := List.mem_map.1 hs
      exact (hS i (List.mem_range.1 hi)).2.2

theorem list9 {α : Type} {l : List α} (h : l.length = 9) : ∃ a b c d e f g i j, l = [a, b, c, d, e, f, g, i, j] := by
  match l, h with
  | [a, b, c, d, e, f, g, i, j], _ => exact ⟨a, b, c, d, e, f, g, i, j, rfl⟩

theorem each_weight {P : Program} {ts : List TypeId} {ds : List (DataW H)} (h : (DataW.weightsEach P ts ds).all (· ≤ reachBytes) = true) {j : Nat} {t : TypeId} {d : DataW H} (ht : ts[j]? = some t) (hd : ds[j]? = some d) : (d.weights P t).all (· ≤ reachBytes) = true :=
  List.all_eq_true.2 fun n hn => List.all_eq_true.1 h n (DataW.weights_mem_each ht hd n hn)

/-- a Config's nine cells, read -/
theorem open_cfg {fuel : Nat} {cs : List Value} {x : DataW H × List MemPlace} (h : DataW.trod enc Tryd.prog w base spare held fuel 32 cs = some x) (hz : (x.1.weights Tryd.prog 32).all (· ≤ reachBytes) = true) :
    ∃ (c : Cfg) (vD vN vU vW : Value), cs = [.string c.host, vD, vN, vU, .int .i64 c.most, .int .i64 c.size, vW, .int .i64 c.life, .int .i64 c.room] ∧ CfgAt w c vD vN vU vW ∧ CfgSz c ∧ CfgRm c := by
  obtain ⟨xs, n, _, rfl, hl, hx, hf⟩ := DataW.trod_struct Tryd.underlying32 h
  rw [cells_cfg] at hl
  obtain ⟨c0, c1, c2, c3, c4, c5, c6, c7, c8, rfl⟩ := list9 hl
  obtain ⟨y0, y1, y2, y3, y4, y5, y6, y7, y8, rfl⟩ := list9 hx
  have g0 : DataW.trod enc Tryd.prog w base spare held n 9 (([c0, c1, c2, c3, c4, c5, c6, c7, c8].drop 0).take (Tryd.prog.cellsOf 9)) = some y0 := hf 0 _ rfl
  have g1 : DataW.trod enc Tryd.prog w base spare held n 27 (([c0, c1, c2, c3, c4, c5, c6, c7, c8].drop 1).take (Tryd.prog.cellsOf 27)) = some y1 := hf 1 _ rfl
  have g2 : DataW.trod enc Tryd.prog w base spare held n 28 (([c0, c1, c2, c3, c4, c5, c6, c7, c8].drop 2).take (Tryd.prog.cellsOf 28)) = some y2 := hf 2 _ rfl
  have g3 : DataW.trod enc Tryd.prog w base spare held n 29 (([c0, c1, c2, c3, c4, c5, c6, c7, c8].drop 3).take (Tryd.prog.cellsOf 29)) = some y3 := hf 3 _ rfl
  have g4 : DataW.trod enc Tryd.prog w base spare held n 3 (([c0, c1, c2, c3, c4, c5, c6, c7, c8].drop 4).take (Tryd.prog.cellsOf 3)) = some y4 := hf 4 _ rfl
  have g5 : DataW.trod enc Tryd.prog w base spare held n 3 (([c0, c1, c2, c3, c4, c5, c6, c7, c8].drop 5).take (Tryd.prog.cellsOf 3)) = some y5 := hf 5 _ rfl
  have g6 : DataW.trod enc Tryd.prog w base spare held n 30 (([c0, c1, c2, c3, c4, c5, c6, c7, c8].drop 6).take (Tryd.prog.cellsOf 30)) = some y6 := hf 6 _ rfl
  have g7 : DataW.trod enc Tryd.prog w base spare held n 3 (([c0, c1, c2, c3, c4, c5, c6, c7, c8].drop 7).take (Tryd.prog.cellsOf 3)) = some y7 := hf 7 _ rfl
  have g8 : DataW.trod enc Tryd.prog w base spare held n 3 (([c0, c1, c2, c3, c4, c5, c6, c7, c8].drop 8).take (Tryd.prog.cellsOf 3)) = some y8 := hf 8 _ rfl
  simp only [cells_str, cells_int, cells_strs, cells_nets, cells_users, cells_ints, List.drop_zero, List.drop_succ_cons, List.take_succ_cons, List.take_zero] at g0 g1 g2 g3 g4 g5 g6 g7 g8
  simp only [DataW.weights, Tryd.underlying32, List.map_cons, List.map_nil] at hz
  obtain ⟨s0, e0, _, z0⟩ := DataW.trod_string Tryd.underlying9 g0
  obtain ⟨v1, l1, e1, r1, z1, m1⟩ := row_strs g1 (each_weight hz (j := 1) rfl rfl)
  obtain ⟨v2, l2, e2, r2, m2⟩ := row_nets Tryd.underlying47 rfl rfl rfl rfl g2 (each_weight hz (j := 2) rfl rfl)
  obtain ⟨v3, l3, e3, r3, z3, m3⟩ := row_users Tryd.underlying45 rfl rfl rfl rfl g3 (each_weight hz (j := 3) rfl rfl)
  obtain ⟨n4, e4, _⟩ := DataW.trod_int Tryd.underlying3 g4
  obtain ⟨n5, e5, _⟩ := DataW.trod_int Tryd.underlying3 g5
  obtain ⟨v6, l6, e6, r6, m6⟩ := row_ints g6 (each_weight hz (j := 6) rfl rfl)
  obtain ⟨n7, e7, _⟩ := DataW.trod_int Tryd.underlying3 g7
  obtain ⟨n8, e8, _⟩ := DataW.trod_int Tryd.underlying3 g8
  simp only [List.cons.injEq, and_true] at e0 e1 e2 e3 e4 e5 e6 e7 e8
  subst e0 e1 e2 e3 e4 e5 e6 e7 e8
  exact ⟨⟨s0, l1, l2, l3, n4, n5, l6, n7, n8⟩, _, _, _, _, rfl, ⟨r1, r2, r3, r6⟩, ⟨z0, by show l1.length ≤ _; omega, z1, by show l2.length ≤ _; omega, by show l3.length ≤ _; omega, z3, by show l6.length ≤ _; omega⟩, ⟨m1, m2, m3, m6⟩⟩
end
end Go.Proofs.YtnfhdbmmoicilaaDoor
