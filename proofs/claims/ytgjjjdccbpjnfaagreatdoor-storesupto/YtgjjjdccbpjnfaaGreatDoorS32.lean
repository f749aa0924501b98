import Derived.Test.YtgjjjdccbpjnfaaGreatDoorS31
import Derived.Test.YtgjjjdccbpjnfaaGreatDoorS30
import Derived.Test.YtgjjjdccbpjnfaaGreatDoorS29

/- Are settings that were lent as they were? And what else is written then. -/
namespace Go.Proofs.YtgjjjdccbpjnfaaGreatDoor
open Go.RowKit

/-- what stays while kept writes: what lay below B, what lies behind what was lent, and kept's own two boxes -/
def KInF (wa : World) (B : Nat) (w0 : World) (X C : Array Value) (w : World) : Prop :=
  (Below B wa w ∧ ∀ k, B + 7 ≤ k → k < w0.heap.size → w.heap[k]? = w0.heap[k]?) ∧ (∀ j : Nat, w.cell? ⟨w0.heap.size, j, none⟩ = X[j]?) ∧ ∀ j : Nat, w.cell? ⟨w0.heap.size + 1, j, none⟩ = C[j]?
theorem KInF.setCell {wa w0 w : World} {B : Nat} {X C : Array Value} (h : KInF wa B w0 X C w) {b i : Nat} (h1 : B ≤ b) (h2 : b < w0.heap.size) (v : Value) (h3 : b < B + 7 := by omega) : KInF wa B w0 X C (w.setCell ⟨b, i, none⟩ v) := by
  refine ⟨⟨h.1.1.setCell h1 v, fun k hk hk2 => (heap_setCell_other w ⟨b, i, none⟩ k v (by show k ≠ b; omega)).trans (h.1.2 k hk hk2)⟩, fun j => ?_, fun j => ?_⟩
  · have e := heap_setCell_other w ⟨b, i, none⟩ w0.heap.size v (by show w0.heap.size ≠ b; omega)
    rw [← h.2.1 j]; simp only [World.cell?, e]
  · have e := heap_setCell_other w ⟨b, i, none⟩ (w0.heap.size + 1) v (by show w0.heap.size + 1 ≠ b; omega)
    rw [← h.2.2 j]; simp only [World.cell?, e]
theorem KInF.drewN {wa w0 w : World} {B : Nat} {X C : Array Value} (h : KInF wa B w0 X C w) (n : Nat) : KInF wa B w0 X C (w.drewN n) :=
  ⟨⟨h.1.1.trans (below_drewN _ _ _), fun k hk hk2 => by simpa using h.1.2 k hk hk2⟩, fun j => by simpa using h.2.1 j, fun j => by simpa using h.2.2 j⟩
theorem KInF.start {wa w : World} {B : Nat} {X C : Array Value} (hb : Below B wa w) (hs : B ≤ w.heap.size) : KInF wa B w X C ((w.alloc (.cells X 36)).alloc (.cells C 36)) := by
  have h := KIn.start (X := X) (C := C) hb hs
  exact ⟨⟨h.1, fun k _ hk => (((Below.refl w.heap.size w).alloc (Nat.le_refl _) _).alloc (by simp) _).block k hk⟩, h.2⟩

set_option maxHeartbeats 4000000 in
set_option maxRecDepth 100000 in
theorem keptF_any (c : Cfg) (vD vN vU vW : Value) (B : Nat) (wa w : World) (h : CfgAt wa c vD vN vU vW) (hB : wa.heap.size = B) (hb : Below B wa w) (hr : CfgRm c) (hs : B + 7 ≤ w.heap.size) (hl : LentRows c B w) :
    Calls Tryz.prog 42 #[lentVal c B, .agg #[.string c.host, vD, vN, vU, .int .i64 c.most, .int .i64 c.size, vW, .int .i64 c.life, .int .i64 c.room]] w fun e w' => e = .returned (.bool true) ∧ Below B wa w' ∧ ∀ k, B + 7 ≤ k → k < w.heap.size → w'.heap[k]? = w.heap[k]? := by
  obtain ⟨host, doms, nets, users, most, size, waits, life, room⟩ := c
  obtain ⟨r1, r2, r3, r4⟩ := hr
  simp only at r1 r2 r3 r4
  obtain ⟨aD, cD, eD⟩ := slice_of h.1
  obtain ⟨aN, cN, eN⟩ := slice_of h.2.1
  obtain ⟨aU, cU, eU⟩ := slice_of h.2.2.1
  obtain ⟨aW, cW, eW⟩ := slice_of h.2.2.2
  simp only at eD eN eU eW
  subst eD eN eU eW
  have bD : (doms.length : Int) ≤ 17592186044416 := by omega
  have bN : (nets.length : Int) ≤ 17592186044416 := by omega
  have bU : (users.length : Int) ≤ 17592186044416 := by omega
  have bW : (waits.length : Int) ≤ 17592186044416 := by omega
  obtain ⟨D, N, U, V, hR, fD, fN, fU, fV⟩ := hl
  simp only at fD fN fU fV
  have HA := Lib.hid h
  have HWB := Lib.hid hB
  have HfD := Lib.hid fD
  have HfN := Lib.hid fN
  have HfU := Lib.hid fU
  have HfV := Lib.hid fV
  have HS := Lib.hid hs
  unfold lentVal
  simp only
  obtain ⟨X, hX⟩ : ∃ X : Array Value, X = #[.string host, .slice (some ⟨B + 1 + 1 + 1, 0, none⟩) doms.length (doms.length + 8), .slice (some ⟨B + 1 + 1 + 1 + 1, 0, none⟩) nets.length (nets.length + 8), .slice (some ⟨B + 1 + 1 + 1 + 1 + 1, 0, none⟩) users.length (users.length + 8), .int .i64 most, .int .i64 size, .slice (some ⟨B + 1 + 1 + 1 + 1 + 1 + 1, 0, none⟩) waits.length (waits.length + 8), .int .i64 life, .int .i64 room] := ⟨_, rfl⟩
  obtain ⟨C, hC⟩ : ∃ C : Array Value, C = #[.string host, .slice aD doms.length cD, .slice aN nets.length cN, .slice aU users.length cU, .int .i64 most, .int .i64 size, .slice aW waits.length cW, .int .i64 life, .int .i64 room] := ⟨_, rfl⟩
  have K0 : Hid (KInF wa B w X C ((w.alloc (.cells X 36)).alloc (.cells C 36))) := Lib.hid (KInF.start hb (by omega))
  have R1 : Hid (Rows4 ((w.alloc (.cells X 36)).alloc (.cells C 36)) B D N U V) := Lib.hid ((hR.alloc hs _).alloc (by simp; omega) _)
  clear h hB hb hs hR fD fN fU fV
  have x1 : X[1]? = some (.slice (some ⟨B + 1 + 1 + 1, 0, none⟩) doms.length (doms.length + 8)) := by rw [hX]; rfl
  have x2 : X[2]? = some (.slice (some ⟨B + 1 + 1 + 1 + 1, 0, none⟩) nets.length (nets.length + 8)) := by rw [hX]; rfl
  have x3 : X[3]? = some (.slice (some ⟨B + 1 + 1 + 1 + 1 + 1, 0, none⟩) users.length (users.length + 8)) := by rw [hX]; rfl
  have x6 : X[6]? = some (.slice (some ⟨B + 1 + 1 + 1 + 1 + 1 + 1, 0, none⟩) waits.length (waits.length + 8)) := by rw [hX]; rfl
  have c1 : C[1]? = some (.slice aD doms.length cD) := by rw [hC]; rfl
  have c2 : C[2]? = some (.slice aN nets.length cN) := by rw [hC]; rfl
  have c3 : C[3]? = some (.slice aU users.length cU) := by rw [hC]; rfl
  have c6 : C[6]? = some (.slice aW waits.length cW) := by rw [hC]; rfl
  have HX1 := Lib.hid x1
  have HX2 := Lib.hid x2
  have HX3 := Lib.hid x3
  have HX6 := Lib.hid x6
  have HC1 := Lib.hid c1
  have HC2 := Lib.hid c2
  have HC3 := Lib.hid c3
  have HC6 := Lib.hid c6
  clear x1 x2 x3 x6 c1 c2 c3 c6
  go_enter Tryz.func42, Tryz.ntmps42
  go_wp2_with fail
  go_loopw [5, 7] (fun ok i w' => ok = .bool true ∧ ∃ (k : Nat) (D' : Array Value), k ≤ doms.length + 8 ∧ i = .int .i64 k ∧ Rows4 w' B D' N U V ∧ Over (doms.length + 8) k D D' ∧ KInF wa B w X C w') (fun _ i _ => doms.length + 8 - (intOf i).toNat)
  case atStart => subst hX hC; exact ⟨rfl, 0, D, by omega, rfl, R1.out, ⟨by have := HfD.out.1; omega, fun j _ => rfl⟩, K0.out⟩
  case round =>
    clear K0 R1 hX hC
    obtain ⟨rfl, k, D', hk, rfl, hR, hO, hK⟩ := hrel
    have b1 : wr.cell? ⟨w.heap.size + 1, 1, none⟩ = some (.slice aD doms.length cD) := (hK.2.2 1).trans HC1.out
    have HR := Lib.hid hR
    have HO := Lib.hid hO
    have HK := Lib.hid hK
    by_cases hk8 : k < doms.length + 8
    · have hk8i : (k : Int) < (doms.length : Int) + 8 := by omega
      obtain ⟨_, fr0⟩ := row_cell (j := k) hR.1 (by rw [hO.1]; omega)
      have c0 : wr.cell? ⟨B + 1 + 1 + 1, k, none⟩ = D[k]? := by
        rw [← hO.2 (k) (by omega)]; exact Lib.cell_of_heap hR.1 _
      by_cases hkn : k < doms.length
      · have hlt : decide ((k : Int) < (doms.length : Int)) = true := by simp; omega
        obtain ⟨b, off, rfl, hbl, hc⟩ := (HA.out.1.below (by rw [HWB.out]; exact hK.1.1)).elem k hkn
        have e0 : D[k]? = some (.string doms[k]) := by rw [HfD.out.2.1 k (by omega)]; simp [strCellsOf, hkn]
        have d0 : wr.cell? ⟨b, off + k, none⟩ = some (.string doms[k]) := hc.trans (by simp [strCellsOf, hkn])
        clear hc
        rw [e0] at c0
        clear hR hO hK e0
        go_wp2_with fail
        go_quiet (fail)
        go_wp2_with fail
        exact ⟨⟨rfl, k + 1, _, by omega, by go_num, (HR.out.drewN nq).setD _ _, HO.out.set _, (HK.out.drewN nq).setCell (by omega) (by have := HS.out; omega) _⟩, by simp [intOf]; omega⟩
      · have hlt : decide ((k : Int) < (doms.length : Int)) = false := by simp; omega
        have hge : decide ((doms.length : Int) ≤ (k : Int)) = true := by simp; omega
        have hge1 : ¬ ((k : Int) < (doms.length : Int)) := by omega
        have hge2 : (doms.length : Int) ≤ (k : Int) := by omega
        have e0 : D[k]? = some (.string ⟨#[98, 101, 121, 111, 110, 100]⟩) := by
          have := HfD.out.2.2 (k - doms.length) 0 (by omega) (by omega)
          rw [show (doms.length + (k - doms.length)) * 1 + 0 = k by omega] at this
          exact this
        rw [e0] at c0
        clear hR hO hK e0
        go_wp2_with fail
        go_quiet (fail)
        go_wp2_with fail
        exact ⟨⟨rfl, k + 1, _, by omega, by go_num, (HR.out.drewN nq).setD _ _, HO.out.set _, (HK.out.drewN nq).setCell (by omega) (by have := HS.out; omega) _⟩, by simp [intOf]; omega⟩
    · have hk9 : (k : Int) = (doms.length : Int) + 8 := by omega
      rw [hk9]
      have b2 : wr.cell? ⟨w.heap.size, 2, none⟩ = some (.slice (some ⟨B + 1 + 1 + 1 + 1, 0, none⟩) nets.length (nets.length + 8)) := (hK.2.1 2).trans HX2.out
      have b3 : wr.cell? ⟨w.heap.size + 1, 2, none⟩ = some (.slice aN nets.length cN) := (hK.2.2 2).trans HC2.out
      clear hR hO hK hk8 HO hk9 hk
      go_wp2_with fail
      go_loopw [5, 9] (fun ok i w' => ok = .bool true ∧ ∃ (k : Nat) (N' : Array Value), k ≤ nets.length + 8 ∧ i = .int .i64 k ∧ Rows4 w' B D' N' U V ∧ Over ((nets.length + 8) * 2) (k * 2) N N' ∧ KInF wa B w X C w') (fun _ i _ => nets.length + 8 - (intOf i).toNat)
      case atStart => exact ⟨rfl, 0, N, by omega, rfl, HR.out, ⟨HfN.out.1, fun j _ => rfl⟩, HK.out⟩
      case round =>
        clear HR HK b1 b2 b3
        obtain ⟨rfl, k, N', hk, rfl, hR, hO, hK⟩ := hrel
        have b1 : wr.cell? ⟨w.heap.size + 1, 2, none⟩ = some (.slice aN nets.length cN) := (hK.2.2 2).trans HC2.out
        have HR := Lib.hid hR
        have HO := Lib.hid hO
        have HK := Lib.hid hK
        by_cases hk8 : k < nets.length + 8
        · have hk8i : (k : Int) < (nets.length : Int) + 8 := by omega
          obtain ⟨_, fr0⟩ := row_cell (j := k * 2) hR.2.1 (by rw [hO.1]; omega)
          have c0 : wr.cell? ⟨B + 1 + 1 + 1 + 1, k * 2, none⟩ = N[k * 2]? := by
            rw [← hO.2 (k * 2) (by omega)]; exact Lib.cell_of_heap hR.2.1 _
          obtain ⟨_, fr1⟩ := row_cell (j := k * 2 + 1) hR.2.1 (by rw [hO.1]; omega)
          have c1 : wr.cell? ⟨B + 1 + 1 + 1 + 1, k * 2 + 1, none⟩ = N[k * 2 + 1]? := by
            rw [← hO.2 (k * 2 + 1) (by omega)]; exact Lib.cell_of_heap hR.2.1 _
          by_cases hkn : k < nets.length
          · have hlt : decide ((k : Int) < (nets.length : Int)) = true := by simp; omega
            obtain ⟨b, off, rfl, hbl, hc, hc'⟩ := (HA.out.2.1.below (by rw [HWB.out]; exact hK.1.1)).elem2 k hkn
            have e0 : N[k * 2]? = some (.int .i64 nets[k].1) := by rw [HfN.out.2.1 (k * 2) (by omega)]; exact net_at nets k hkn
            have d0 : wr.cell? ⟨b, off + k * 2, none⟩ = some (.int .i64 nets[k].1) := hc.trans (net_at nets k hkn)
            have e1 : N[k * 2 + 1]? = some (.int .i64 nets[k].2) := by rw [HfN.out.2.1 (k * 2 + 1) (by omega)]; exact net_at1 nets k hkn
            have d1 : wr.cell? ⟨b, off + k * 2 + 1, none⟩ = some (.int .i64 nets[k].2) := hc'.trans (net_at1 nets k hkn)
            clear hc hc'
            rw [e0] at c0
            rw [e1] at c1
            clear hR hO hK e0 e1
            go_wp2_with fail
            go_quiet (fail)
            go_wp2_with fail
            exact ⟨⟨rfl, k + 1, _, by omega, by go_num, ((HR.out.drewN nq).setN _ _).setN _ _, HO.out.set2 _ _, ((HK.out.drewN nq).setCell (by omega) (by have := HS.out; omega) _).setCell (by omega) (by have := HS.out; omega) _⟩, by simp [intOf]; omega⟩
          · have hlt : decide ((k : Int) < (nets.length : Int)) = false := by simp; omega
            have hge : decide ((nets.length : Int) ≤ (k : Int)) = true := by simp; omega
            have hge1 : ¬ ((k : Int) < (nets.length : Int)) := by omega
            have hge2 : (nets.length : Int) ≤ (k : Int) := by omega
            have e0 : N[k * 2]? = some (.int .i64 0) := by
              have := HfN.out.2.2 (k - nets.length) 0 (by omega) (by omega)
              rw [show (nets.length + (k - nets.length)) * 2 + 0 = k * 2 by omega] at this
              exact this
            have e1 : N[k * 2 + 1]? = some (.int .i64 (-77)) := by
              have := HfN.out.2.2 (k - nets.length) 1 (by omega) (by omega)
              rw [show (nets.length + (k - nets.length)) * 2 + 1 = k * 2 + 1 by omega] at this
              exact this
            rw [e0] at c0
            rw [e1] at c1
            clear hR hO hK e0 e1
            go_wp2_with fail
            go_quiet (fail)
            go_wp2_with fail
            exact ⟨⟨rfl, k + 1, _, by omega, by go_num, ((HR.out.drewN nq).setN _ _).setN _ _, HO.out.set2 _ _, ((HK.out.drewN nq).setCell (by omega) (by have := HS.out; omega) _).setCell (by omega) (by have := HS.out; omega) _⟩, by simp [intOf]; omega⟩
        · have hk9 : (k : Int) = (nets.length : Int) + 8 := by omega
          rw [hk9]
          have b2 : wr.cell? ⟨w.heap.size, 3, none⟩ = some (.slice (some ⟨B + 1 + 1 + 1 + 1 + 1, 0, none⟩) users.length (users.length + 8)) := (hK.2.1 3).trans HX3.out
          have b3 : wr.cell? ⟨w.heap.size + 1, 3, none⟩ = some (.slice aU users.length cU) := (hK.2.2 3).trans HC3.out
          clear hR hO hK hk8 HO hk9 hk
          go_wp2_with fail
          go_loopw [5, 11] (fun ok i w' => ok = .bool true ∧ ∃ (k : Nat) (U' : Array Value), k ≤ users.length + 8 ∧ i = .int .i64 k ∧ Rows4 w' B D' N' U' V ∧ Over ((users.length + 8) * 2) (k * 2) U U' ∧ KInF wa B w X C w') (fun _ i _ => users.length + 8 - (intOf i).toNat)
          case atStart => exact ⟨rfl, 0, U, by omega, rfl, HR.out, ⟨HfU.out.1, fun j _ => rfl⟩, HK.out⟩
          case round =>
            clear HR HK b1 b2 b3
            obtain ⟨rfl, k, U', hk, rfl, hR, hO, hK⟩ := hrel
            have b1 : wr.cell? ⟨w.heap.size + 1, 3, none⟩ = some (.slice aU users.length cU) := (hK.2.2 3).trans HC3.out
            have HR := Lib.hid hR
            have HO := Lib.hid hO
            have HK := Lib.hid hK
            by_cases hk8 : k < users.length + 8
            · have hk8i : (k : Int) < (users.length : Int) + 8 := by omega
              obtain ⟨_, fr0⟩ := row_cell (j := k * 2) hR.2.2.1 (by rw [hO.1]; omega)
              have c0 : wr.cell? ⟨B + 1 + 1 + 1 + 1 + 1, k * 2, none⟩ = U[k * 2]? := by
                rw [← hO.2 (k * 2) (by omega)]; exact Lib.cell_of_heap hR.2.2.1 _
              obtain ⟨_, fr1⟩ := row_cell (j := k * 2 + 1) hR.2.2.1 (by rw [hO.1]; omega)
              have c1 : wr.cell? ⟨B + 1 + 1 + 1 + 1 + 1, k * 2 + 1, none⟩ = U[k * 2 + 1]? := by
                rw [← hO.2 (k * 2 + 1) (by omega)]; exact Lib.cell_of_heap hR.2.2.1 _
              by_cases hkn : k < users.length
              · have hlt : decide ((k : Int) < (users.length : Int)) = true := by simp; omega
                obtain ⟨b, off, rfl, hbl, hc, hc'⟩ := (HA.out.2.2.1.below (by rw [HWB.out]; exact hK.1.1)).elem2 k hkn
                have e0 : U[k * 2]? = some (.string users[k].1) := by rw [HfU.out.2.1 (k * 2) (by omega)]; exact user_at users k hkn
                have d0 : wr.cell? ⟨b, off + k * 2, none⟩ = some (.string users[k].1) := hc.trans (user_at users k hkn)
                have e1 : U[k * 2 + 1]? = some (.string users[k].2) := by rw [HfU.out.2.1 (k * 2 + 1) (by omega)]; exact user_at1 users k hkn
                have d1 : wr.cell? ⟨b, off + k * 2 + 1, none⟩ = some (.string users[k].2) := hc'.trans (user_at1 users k hkn)
                clear hc hc'
                rw [e0] at c0
                rw [e1] at c1
                clear hR hO hK e0 e1
                go_wp2_with fail
                go_quiet (fail)
                go_wp2_with fail
                exact ⟨⟨rfl, k + 1, _, by omega, by go_num, ((HR.out.drewN nq).setU _ _).setU _ _, HO.out.set2 _ _, ((HK.out.drewN nq).setCell (by omega) (by have := HS.out; omega) _).setCell (by omega) (by have := HS.out; omega) _⟩, by simp [intOf]; omega⟩
              · have hlt : decide ((k : Int) < (users.length : Int)) = false := by simp; omega
                have hge : decide ((users.length : Int) ≤ (k : Int)) = true := by simp; omega
                have hge1 : ¬ ((k : Int) < (users.length : Int)) := by omega
                have hge2 : (users.length : Int) ≤ (k : Int) := by omega
                have e0 : U[k * 2]? = some (.string ⟨#[98, 101, 121, 111, 110, 100]⟩) := by
                  have := HfU.out.2.2 (k - users.length) 0 (by omega) (by omega)
                  rw [show (users.length + (k - users.length)) * 2 + 0 = k * 2 by omega] at this
                  exact this
                have e1 : U[k * 2 + 1]? = some (.string ⟨#[]⟩) := by
                  have := HfU.out.2.2 (k - users.length) 1 (by omega) (by omega)
                  rw [show (users.length + (k - users.length)) * 2 + 1 = k * 2 + 1 by omega] at this
                  exact this
                rw [e0] at c0
                rw [e1] at c1
                clear hR hO hK e0 e1
                go_wp2_with fail
                go_quiet (fail)
                go_wp2_with fail
                exact ⟨⟨rfl, k + 1, _, by omega, by go_num, ((HR.out.drewN nq).setU _ _).setU _ _, HO.out.set2 _ _, ((HK.out.drewN nq).setCell (by omega) (by have := HS.out; omega) _).setCell (by omega) (by have := HS.out; omega) _⟩, by simp [intOf]; omega⟩
            · have hk9 : (k : Int) = (users.length : Int) + 8 := by omega
              rw [hk9]
              have b2 : wr.cell? ⟨w.heap.size, 6, none⟩ = some (.slice (some ⟨B + 1 + 1 + 1 + 1 + 1 + 1, 0, none⟩) waits.length (waits.length + 8)) := (hK.2.1 6).trans HX6.out
              have b3 : wr.cell? ⟨w.heap.size + 1, 6, none⟩ = some (.slice aW waits.length cW) := (hK.2.2 6).trans HC6.out
              clear hR hO hK hk8 HO hk9 hk
              go_wp2_with fail
              go_loopw [5, 13] (fun ok i w' => ok = .bool true ∧ ∃ (k : Nat) (V' : Array Value), k ≤ waits.length + 8 ∧ i = .int .i64 k ∧ Rows4 w' B D' N' U' V' ∧ Over (waits.length + 8) k V V' ∧ KInF wa B w X C w') (fun _ i _ => waits.length + 8 - (intOf i).toNat)
              case atStart => exact ⟨rfl, 0, V, by omega, rfl, HR.out, ⟨by have := HfV.out.1; omega, fun j _ => rfl⟩, HK.out⟩
              case round =>
                clear HR HK b1 b2 b3
                obtain ⟨rfl, k, V', hk, rfl, hR, hO, hK⟩ := hrel
                have b1 : wr.cell? ⟨w.heap.size + 1, 6, none⟩ = some (.slice aW waits.length cW) := (hK.2.2 6).trans HC6.out
                have HR := Lib.hid hR
                have HO := Lib.hid hO
                have HK := Lib.hid hK
                by_cases hk8 : k < waits.length + 8
                · have hk8i : (k : Int) < (waits.length : Int) + 8 := by omega
                  obtain ⟨_, fr0⟩ := row_cell (j := k) hR.2.2.2 (by rw [hO.1]; omega)
                  have c0 : wr.cell? ⟨B + 1 + 1 + 1 + 1 + 1 + 1, k, none⟩ = V[k]? := by
                    rw [← hO.2 (k) (by omega)]; exact Lib.cell_of_heap hR.2.2.2 _
                  by_cases hkn : k < waits.length
                  · have hlt : decide ((k : Int) < (waits.length : Int)) = true := by simp; omega
                    obtain ⟨b, off, rfl, hbl, hc⟩ := (HA.out.2.2.2.below (by rw [HWB.out]; exact hK.1.1)).elem k hkn
                    have e0 : V[k]? = some (.int .i64 waits[k]) := by rw [HfV.out.2.1 k (by omega)]; simp [intCells, hkn]
                    have d0 : wr.cell? ⟨b, off + k, none⟩ = some (.int .i64 waits[k]) := hc.trans (by simp [intCells, hkn])
                    clear hc
                    rw [e0] at c0
                    clear hR hO hK e0
                    go_wp2_with fail
                    go_quiet (fail)
                    go_wp2_with fail
                    exact ⟨⟨rfl, k + 1, _, by omega, by go_num, (HR.out.drewN nq).setV _ _, HO.out.set _, (HK.out.drewN nq).setCell (by omega) (by have := HS.out; omega) _⟩, by simp [intOf]; omega⟩
                  · have hlt : decide ((k : Int) < (waits.length : Int)) = false := by simp; omega
                    have hge : decide ((waits.length : Int) ≤ (k : Int)) = true := by simp; omega
                    have hge1 : ¬ ((k : Int) < (waits.length : Int)) := by omega
                    have hge2 : (waits.length : Int) ≤ (k : Int) := by omega
                    have e0 : V[k]? = some (.int .i64 (-77)) := by
                      have := HfV.out.2.2 (k - waits.length) 0 (by omega) (by omega)
                      rw [show (waits.length + (k - waits.length)) * 1 + 0 = k by omega] at this
                      exact this
                    rw [e0] at c0
                    clear hR hO hK e0
                    go_wp2_with fail
                    go_quiet (fail)
                    go_wp2_with fail
                    exact ⟨⟨rfl, k + 1, _, by omega, by go_num, (HR.out.drewN nq).setV _ _, HO.out.set _, (HK.out.drewN nq).setCell (by omega) (by have := HS.out; omega) _⟩, by simp [intOf]; omega⟩
                · have hk9 : (k : Int) = (waits.length : Int) + 8 := by omega
                  rw [hk9]
                  clear hR hO hK hk8 HO hk9 hk
                  go_wp2_with fail
                  go_ret
                  exact ⟨rfl, HK.out.1.1, HK.out.1.2⟩
end Go.Proofs.YtgjjjdccbpjnfaaGreatDoor

/- The law: a post is opened, and the document's. -/
namespace Go.Proofs.YtgjjjdccbpjnfaaGreatDoor
open Go.RowKit

theorem box9 {w : World} {b : Nat} {T : TypeId} {z : Nat × Nat} {x0 x1 x2 x3 x4 x5 x6 x7 x8 : Value} (h : w.heap[b]? = some (.cells #[x0, x1, x2, x3, x4, x5, x6, x7, x8] T z)) : w.cell? ⟨b, 0, none⟩ = some x0 ∧ w.cell? ⟨b, 1, none⟩ = some x1 ∧ w.cell? ⟨b, 2, none⟩ = some x2 ∧ w.cell? ⟨b, 3, none⟩ = some x3 ∧ w.cell? ⟨b, 4, none⟩ = some x4 ∧ w.cell? ⟨b, 5, none⟩ = some x5 ∧ w.cell? ⟨b, 6, none⟩ = some x6 ∧ w.cell? ⟨b, 7, none⟩ = some x7 ∧ w.cell? ⟨b, 8, none⟩ = some x8 := by
  refine ⟨?_, ?_, ?_, ?_, ?_, ?_, ?_, ?_, ?_⟩ <;> (rw [Lib.cell_of_heap h]; rfl)

theorem twin_set {w W : World} {b : Nat} {u0 u1 x y : Value} (h : w.heap[b]? = some (.cells #[u0, u1] 69 (0, 0))) (hW : (w.setCell ⟨b, 0, none⟩ x).setCell ⟨b, 1, none⟩ y = W) : W.cell? ⟨b, 0, none⟩ = some x ∧ W.cell? ⟨b, 1, none⟩ = some y ∧ Same b w W := by
  have h1 := heap_setCell_same _ b 1 _ _ y (heap_setCell_same w b 0 _ _ x h)
  rw [hW] at h1
  exact ⟨by rw [Lib.cell_of_heap h1]; rfl, by rw [Lib.cell_of_heap h1]; rfl, by rw [← hW]; exact ((Same.refl _ _).setCell _).setCell _⟩

set_option maxHeartbeats 4000000 in
set_option maxRecDepth 100000 in
theorem opened_any (c : Cfg) (vD vN vU vW : Value) (l : List UInt8) (m : Int) (w : World) (h : CfgAt w c vD vN vU vW) (hz : CfgSz c) (hr : CfgRm c) (hl : l.length ≤ 1048576) (hm : w.cell? ⟨0, 0, none⟩ = some (.int .i64 m)) :
    Calls Tryz.prog 19 #[.agg #[.string c.host, vD, vN, vU, .int .i64 c.most, .int .i64 c.size, vW, .int .i64 c.life, .int .i64 c.room], .string (bs l)] w fun e w' => ∃ vx vw, e = .returned (.tuple #[.agg #[vx, vw], .bool true]) ∧ TwinIn w' vx vw ∧ Below w.heap.size w w' := by
  obtain ⟨W0, hW0⟩ : ∃ W0 : World, (w.alloc (.cells #[.string c.host, vD, vN, vU, .int .i64 c.most, .int .i64 c.size, vW, .int .i64 c.life, .int .i64 c.room] 36)).alloc (.cells #[.pointer none, .pointer none] 69) = W0 := ⟨_, rfl⟩
  have B0 : Below w.heap.size w W0 := by rw [← hW0]; exact ((Below.refl _ _).alloc (Nat.le_refl _) _).alloc (by simp) _
  have z0 : W0.heap.size = w.heap.size + 2 := by rw [← hW0]; simp
  have X0 : W0.heap[w.heap.size]? = some (.cells #[.string c.host, vD, vN, vU, .int .i64 c.most, .int .i64 c.size, vW, .int .i64 c.life, .int .i64 c.room] 36 (0, 0)) := by rw [← hW0]; exact below_some ((Below.refl _ _).alloc (Nat.le_refl _) _) (heap_alloc_new w _)
  have Y0 : W0.heap[w.heap.size + 1]? = some (.cells #[.pointer none, .pointer none] 69 (0, 0)) := by
    rw [← hW0]
    have := heap_alloc_new (w.alloc (.cells #[.string c.host, vD, vN, vU, .int .i64 c.most, .int .i64 c.size, vW, .int .i64 c.life, .int .i64 c.room] 36)) (.cells #[.pointer none, .pointer none] 69)
    simpa using this
  have hgl := block_lt hm
  have A0 := h.below B0
  have HLT := Lib.hid (lent_any c vD vN vU vW W0 A0 hr)
  have HA0 := Lib.hid A0
  have HB0 := Lib.hid B0
  have HX0 := Lib.hid X0
  have HY0 := Lib.hid Y0
  have HW0 := Lib.hid hW0
  have HM := Lib.hid hm
  obtain ⟨aD, cD, eD⟩ := slice_of h.1
  obtain ⟨aN, cN, eN⟩ := slice_of h.2.1
  obtain ⟨aU, cU, eU⟩ := slice_of h.2.2.1
  obtain ⟨aW, cW, eW⟩ := slice_of h.2.2.2
  subst eD eN eU eW
  have HZ0 := Lib.hid z0
  clear h A0 B0 X0 Y0 hW0 hm z0
  go_enter Tryz.func19, Tryz.ntmps19
  go_wp2_with fail
  rw [HW0.out]
  refine HLT.out.mono ?_
  rintro e w1 ⟨rfl, hL1, hb1⟩
  have HL1 := Lib.hid hL1
  have HB1 := Lib.hid hb1
  have HS1 := Lib.hid hL1.size
  obtain ⟨W1, hW1⟩ : ∃ W1 : World, w1.alloc (.cells #[.string c.host, .slice (some ⟨W0.heap.size + 1 + 1 + 1, 0, none⟩) c.doms.length (c.doms.length + 8), .slice (some ⟨W0.heap.size + 1 + 1 + 1 + 1, 0, none⟩) c.nets.length (c.nets.length + 8), .slice (some ⟨W0.heap.size + 1 + 1 + 1 + 1 + 1, 0, none⟩) c.users.length (c.users.length + 8), .int .i64 c.most, .int .i64 c.size, .slice (some ⟨W0.heap.size + 1 + 1 + 1 + 1 + 1 + 1, 0, none⟩) c.waits.length (c.waits.length + 8), .int .i64 c.life, .int .i64 c.room] 36) = W1 := ⟨_, rfl⟩
  have B1 : Below w1.heap.size w1 W1 := by rw [← hW1]; exact (Below.refl _ _).alloc (Nat.le_refl _) _
  have X1 := Lib.hid (show W1.heap[w1.heap.size]? = some (.cells #[.string c.host, .slice (some ⟨W0.heap.size + 1 + 1 + 1, 0, none⟩) c.doms.length (c.doms.length + 8), .slice (some ⟨W0.heap.size + 1 + 1 + 1 + 1, 0, none⟩) c.nets.length (c.nets.length + 8), .slice (some ⟨W0.heap.size + 1 + 1 + 1 + 1 + 1, 0, none⟩) c.users.length (c.users.length + 8), .int .i64 c.most, .int .i64 c.size, .slice (some ⟨W0.heap.size + 1 + 1 + 1 + 1 + 1 + 1, 0, none⟩) c.waits.length (c.waits.length + 8), .int .i64 c.life, .int .i64 c.room] 36 (0, 0)) from by rw [← hW1]; exact heap_alloc_new w1 _)
  have HZ1 : Hid (W1.heap.size = w1.heap.size + 1) := Lib.hid (by rw [← hW1]; simp)
  have BW1 : Hid (Below W0.heap.size W0 W1) := Lib.hid (HB1.out.trans (B1.mono HB1.out.size))
  have LW1 := Lib.hid (HL1.out.below B1)
  have m1 : W1.cell? ⟨0, 0, none⟩ = some (.int .i64 m) := ((HB0.out.trans (BW1.out.mono (by have := HZ0.out; omega))).cell (by exact hgl)).trans HM.out
  have HOP := Lib.hid (open_any c _ _ _ _ l m W1 (lent_at HA0.out LW1.out) hz hl m1)
  have HW1 := Lib.hid hW1
  simp only [lentVal]
  clear hL1 hb1 hW1 B1 m1
  go_wp2_with fail
  rw [HW1.out]
  refine HOP.out.mono ?_
  intro e w2 hpost
  obtain ⟨hor, hb2⟩ := hpost
  have BW2 := Lib.hid (BW1.out.trans (hb2.mono BW1.out.size))
  have LW2 := Lib.hid (LW1.out.below hb2)
  have HKP := Lib.hid (keptF_any c _ _ _ _ W0.heap.size W0 w2 HA0.out rfl BW2.out hr LW2.out.size LW2.out)
  obtain ⟨x0, x1, x2, x3, x4, x5, x6, x7, x8⟩ := box9 ((BW2.out.block _ (by have := HZ0.out; omega)).trans HX0.out)
  obtain ⟨y0, y1, y2, y3, y4, y5, y6, y7, y8⟩ := box9 (below_some hb2 X1.out)
  have HB2 := Lib.hid hb2
  clear hb2
  rcases hor with ⟨hmay, rfl⟩ | ⟨pp, hmay, rfl, hPI⟩
  · have HRO := Lib.hid (fun w9 h9 => refOpen_no c (.slice aD c.doms.length cD) (.slice aN c.nets.length cN) (.slice aU c.users.length cU) (.slice aW c.waits.length cW) l w9 h9 hz hmay)
    clear hmay
    go_wp2_with fail
    refine HKP.out.mono ?_
    rintro e w3 ⟨rfl, hb3, hf3⟩
    clear x0 x1 x2 x3 x4 x5 x6 x7 x8 y0 y1 y2 y3 y4 y5 y6 y7 y8
    obtain ⟨x0, x1, x2, x3, x4, x5, x6, x7, x8⟩ := box9 ((hb3.block _ (by have := HZ0.out; omega)).trans HX0.out)
    have HB3 := Lib.hid hb3
    clear hb3 hf3
    go_wp2_with fail
    refine (HRO.out w3 (HA0.out.below HB3.out)).mono ?_
    rintro e w4 ⟨rfl, hb4⟩
    have t4 : w4.heap[w.heap.size + 1]? = some (.cells #[.pointer none, .pointer none] 69 (0, 0)) := below_some hb4 ((HB3.out.block _ (by have := HZ0.out; omega)).trans HY0.out)
    have r0 : w4.cell? ⟨w.heap.size + 1, 0, none⟩ = some (.pointer none) := by rw [Lib.cell_of_heap t4]; rfl
    have r1 : w4.cell? ⟨w.heap.size + 1, 1, none⟩ = some (.pointer none) := by rw [Lib.cell_of_heap t4]; rfl
    have f0 := Lib.frozen_of_heap t4 0
    have f1 := Lib.frozen_of_heap t4 1
    have HB4 := Lib.hid (hb4)
    have HT4 := Lib.hid t4
    clear x0 x1 x2 x3 x4 x5 x6 x7 x8 t4 hb4
    go_wp2_with fail
    obtain ⟨W5, hW5⟩ : ∃ W5 : World, (w4.setCell ⟨w.heap.size + 1, 0, none⟩ (.pointer none)).setCell ⟨w.heap.size + 1, 1, none⟩ (.pointer none) = W5 := ⟨_, rfl⟩
    rw [hW5]
    obtain ⟨c0, c1, S5⟩ := twin_set HT4.out hW5
    refine bodyPost_ret (v := .tuple #[.agg #[.pointer none, .pointer none], .bool true]) (by simp [results, Tryz.results19, go_sem, c0, c1]) rfl ?_
    refine ⟨_, _, rfl, .inl ⟨rfl, rfl⟩, ?_⟩
    exact ((HB0.out.trans (HB3.out.mono (by have := HZ0.out; omega))).trans (HB4.out.mono (by have := HZ0.out; have := HB3.out.size; omega))).trans (S5.below (by omega))
  · have HPI := Lib.hid hPI
    have HRO := Lib.hid (fun w9 h9 => refOpen_any c (.slice aD c.doms.length cD) (.slice aN c.nets.length cN) (.slice aU c.users.length cU) (.slice aW c.waits.length cW) l w9 h9 hz hr hl hmay)
    clear hmay hPI
    go_wp2_with fail
    refine HKP.out.mono ?_
    rintro e w3 ⟨rfl, hb3, hf3⟩
    clear x0 x1 x2 x3 x4 x5 x6 x7 x8 y0 y1 y2 y3 y4 y5 y6 y7 y8
    obtain ⟨x0, x1, x2, x3, x4, x5, x6, x7, x8⟩ := box9 ((hb3.block _ (by have := HZ0.out; omega)).trans HX0.out)
    have HB3 := Lib.hid hb3
    have HP3 := Lib.hid (HPI.out.moves fun k o hk e => (hf3 k (by have := HS1.out; have := HZ1.out; omega) (heap_some_lt e)).trans e)
    clear hb3 hf3
    go_wp2_with fail
    refine (HRO.out w3 (HA0.out.below HB3.out)).mono ?_
    rintro e w4 ⟨p, A, vDue, vFails, k, rfl, hPA, hA9, hA10, hb4⟩
    have t4 : w4.heap[w.heap.size + 1]? = some (.cells #[.pointer none, .pointer none] 69 (0, 0)) := below_some hb4 ((HB3.out.block _ (by have := HZ0.out; omega)).trans HY0.out)
    have r0 : w4.cell? ⟨w.heap.size + 1, 0, none⟩ = some (.pointer none) := by rw [Lib.cell_of_heap t4]; rfl
    have r1 : w4.cell? ⟨w.heap.size + 1, 1, none⟩ = some (.pointer none) := by rw [Lib.cell_of_heap t4]; rfl
    have f0 := Lib.frozen_of_heap t4 0
    have f1 := Lib.frozen_of_heap t4 1
    have HB4 := Lib.hid (hb4)
    have HT4 := Lib.hid t4
    have HRH : Hid (RefHas w4 p (l.take (readS l).2)) := Lib.hid ⟨A, hPA.block, hA9⟩
    have HP4 := Lib.hid (HP3.out.keep hb4)
    clear x0 x1 x2 x3 x4 x5 x6 x7 x8 t4 hb4 hPA hA9 hA10
    go_wp2_with fail
    obtain ⟨W5, hW5⟩ : ∃ W5 : World, (w4.setCell ⟨w.heap.size + 1, 0, none⟩ (.pointer (some ⟨pp, 0, none⟩))).setCell ⟨w.heap.size + 1, 1, none⟩ (.pointer (some ⟨p, 0, none⟩)) = W5 := ⟨_, rfl⟩
    rw [hW5]
    obtain ⟨c0, c1, S5⟩ := twin_set HT4.out hW5
    have T5 : Touch [69] w4 W5 := (Touch.refl _ w4).same HT4.out (by decide) S5
    refine bodyPost_ret (v := .tuple #[.agg #[.pointer (some ⟨pp, 0, none⟩), .pointer (some ⟨p, 0, none⟩)], .bool true]) (by simp [results, Tryz.results19, go_sem, c0, c1]) rfl ?_
    refine ⟨_, _, rfl, .inr ⟨_, pp, p, l, rfl, rfl, HP4.out.touch T5 (by decide), HRH.out.touch T5 (by decide), hl⟩, ?_⟩
    exact ((HB0.out.trans (HB3.out.mono (by have := HZ0.out; omega))).trans (HB4.out.mono (by have := HZ0.out; have := HB3.out.size; omega))).trans (S5.below (by omega))
end Go.Proofs.YtgjjjdccbpjnfaaGreatDoor
