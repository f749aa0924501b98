import Derived.Test.YtgjjjdccbpjnfaaGreatDoorS06
import Derived.Test.YtgjjjdccbpjnfaaGreatDoorS15

/- Are settings that were lent as they were? -/
namespace Go.Proofs.YtgjjjdccbpjnfaaGreatDoor
open Go.RowKit

/-- what stays while kept writes: what lay below B, and kept's own two boxes -/
def KIn (wa : World) (B s : Nat) (X C : Array Value) (w : World) : Prop :=
  Below B wa w ∧ (∀ j : Nat, w.cell? ⟨s, j, none⟩ = X[j]?) ∧ ∀ j : Nat, w.cell? ⟨s + 1, j, none⟩ = C[j]?
theorem KIn.setCell {wa w : World} {B s : Nat} {X C : Array Value} (h : KIn wa B s X C w) {b i : Nat} (h1 : B ≤ b) (h2 : b < s) (v : Value) : KIn wa B s X C (w.setCell ⟨b, i, none⟩ v) := by
  refine ⟨h.1.setCell h1 v, fun j => ?_, fun j => ?_⟩
  · have e := heap_setCell_other w ⟨b, i, none⟩ s v (by show s ≠ b; omega)
    rw [← h.2.1 j]; simp only [World.cell?, e]
  · have e := heap_setCell_other w ⟨b, i, none⟩ (s + 1) v (by show s + 1 ≠ b; omega)
    rw [← h.2.2 j]; simp only [World.cell?, e]
theorem KIn.drewN {wa w : World} {B s : Nat} {X C : Array Value} (h : KIn wa B s X C w) (n : Nat) : KIn wa B s X C (w.drewN n) :=
  ⟨h.1.trans (below_drewN _ _ _), fun j => by simpa using h.2.1 j, fun j => by simpa using h.2.2 j⟩
theorem Rows4.drewN {w : World} {B : Nat} {D N U V : Array Value} (h : Rows4 w B D N U V) (n : Nat) : Rows4 (w.drewN n) B D N U V := by
  simpa [Rows4] using h
/-- a row written over up to k -/
def Over (m k : Nat) (A A' : Array Value) : Prop := A'.size = m ∧ ∀ j : Nat, k ≤ j → A'[j]? = A[j]?
theorem Over.set {m k : Nat} {A A' : Array Value} (h : Over m k A A') (v : Value) : Over m (k + 1) A (A'.setIfInBounds k v) :=
  ⟨by simpa using h.1, fun j hj => by rw [Array.getElem?_setIfInBounds_ne (by omega)]; exact h.2 j (by omega)⟩
theorem Over.set2 {m k : Nat} {A A' : Array Value} (h : Over m (k * 2) A A') (v v' : Value) : Over m ((k + 1) * 2) A ((A'.setIfInBounds (k * 2) v).setIfInBounds (k * 2 + 1) v') :=
  ⟨by simpa using h.1, fun j hj => by rw [Array.getElem?_setIfInBounds_ne (by omega), Array.getElem?_setIfInBounds_ne (by omega)]; exact h.2 j (by omega)⟩

theorem KIn.start {wa w : World} {B : Nat} {X C : Array Value} (hb : Below B wa w) (hs : B ≤ w.heap.size) : KIn wa B w.heap.size X C ((w.alloc (.cells X 36)).alloc (.cells C 36)) := by
  refine ⟨(hb.alloc hs _).alloc (by simp; omega) _, fun j => ?_, fun j => ?_⟩
  · rw [((Below.refl (w.heap.size + 1) _).alloc (by simp) _).cell (p := ⟨w.heap.size, j, none⟩) (by show w.heap.size < w.heap.size + 1; omega)]
    exact World.cell?_alloc_mark w _ 36 (0, 0) j
  · simp
theorem Rows4.alloc {w : World} {B : Nat} {D N U V : Array Value} (h : Rows4 w B D N U V) (hs : B + 7 ≤ w.heap.size) (o : Obj) : Rows4 (w.alloc o) B D N U V := by
  have hb := (Below.refl w.heap.size w).alloc (Nat.le_refl _) o
  exact ⟨(hb.block _ (by omega)).trans h.1, (hb.block _ (by omega)).trans h.2.1, (hb.block _ (by omega)).trans h.2.2.1, (hb.block _ (by omega)).trans h.2.2.2⟩

theorem RowAt.elem2 {w : World} {a : Option Addr} {n m cap : Nat} {cs : List Value} (h : RowAt w (.slice a n cap) m 2 cs) (k : Nat) (hk : k < m) : ∃ b off, a = some ⟨b, off, none⟩ ∧ b < w.heap.size ∧ w.cell? ⟨b, off + k * 2, none⟩ = cs[k * 2]? ∧ w.cell? ⟨b, off + k * 2 + 1, none⟩ = cs[k * 2 + 1]? := by
  obtain ⟨a', cap', hv, hc⟩ := h.shape
  injection hv with ha _ _
  subst ha
  obtain ⟨b, off, e, hb, h0⟩ := hc k 0 hk (by decide)
  obtain ⟨b', off', e', _, h1⟩ := hc k 1 hk (by decide)
  rw [e] at e'
  injection e' with e'
  injection e' with e1 e2
  subst e1 e2
  exact ⟨b, off, e, hb, by simpa using h0, by simpa [Nat.add_assoc] using h1⟩

set_option maxHeartbeats 4000000 in
set_option maxRecDepth 100000 in
theorem kept_any (c : Cfg) (vD vN vU vW : Value) (B : Nat) (wa w : World) (h : CfgAt wa c vD vN vU vW) (hB : wa.heap.size = B) (hb : Below B wa w) (hr : CfgRm c) (hs : B + 7 ≤ w.heap.size) (hl : LentRows c B w) :
    Calls Tryz.prog 42 #[lentVal c B, .agg #[.string c.host, vD, vN, vU, .int .i64 c.most, .int .i64 c.size, vW, .int .i64 c.life, .int .i64 c.room]] w fun e w' => e = .returned (.bool true) ∧ Below B wa w' := by
  obtain ⟨host, doms, nets, users, most, size, waits, life, room⟩ := c
  obtain ⟨r1, r2, r3, r4⟩ := hr
  simp only at r1 r2 r3 r4
  obtain ⟨aD, cD, eD⟩ := slice_of h.1
  obtain ⟨aN, cN, eN⟩ := slice_of h.2.1
  obtain ⟨aU, cU, eU⟩ := slice_of h.2.2.1
  obtain ⟨aW, cW, eW⟩ := slice_of h.2.2.2
  simp only at eD eN eU eW
  subst eD eN eU eW
  have bD : (doms.length : Int) ≤ 17592186044416 := by omega
  have bN : (nets.length : Int) ≤ 17592186044416 := by omega
  have bU : (users.length : Int) ≤ 17592186044416 := by omega
  have bW : (waits.length : Int) ≤ 17592186044416 := by omega
  obtain ⟨D, N, U, V, hR, fD, fN, fU, fV⟩ := hl
  simp only at fD fN fU fV
  have HA := Lib.hid h
  have HWB := Lib.hid hB
  have HfD := Lib.hid fD
  have HfN := Lib.hid fN
  have HfU := Lib.hid fU
  have HfV := Lib.hid fV
  have HS := Lib.hid hs
  unfold lentVal
  simp only
  obtain ⟨X, hX⟩ : ∃ X : Array Value, X = #[.string host, .slice (some ⟨B + 1 + 1 + 1, 0, none⟩) doms.length (doms.length + 8), .slice (some ⟨B + 1 + 1 + 1 + 1, 0, none⟩) nets.length (nets.length + 8), .slice (some ⟨B + 1 + 1 + 1 + 1 + 1, 0, none⟩) users.length (users.length + 8), .int .i64 most, .int .i64 size, .slice (some ⟨B + 1 + 1 + 1 + 1 + 1 + 1, 0, none⟩) waits.length (waits.length + 8), .int .i64 life, .int .i64 room] := ⟨_, rfl⟩
  obtain ⟨C, hC⟩ : ∃ C : Array Value, C = #[.string host, .slice aD doms.length cD, .slice aN nets.length cN, .slice aU users.length cU, .int .i64 most, .int .i64 size, .slice aW waits.length cW, .int .i64 life, .int .i64 room] := ⟨_, rfl⟩
  have K0 : Hid (KIn wa B w.heap.size X C ((w.alloc (.cells X 36)).alloc (.cells C 36))) := Lib.hid (KIn.start hb (by omega))
  have R1 : Hid (Rows4 ((w.alloc (.cells X 36)).alloc (.cells C 36)) B D N U V) := Lib.hid ((hR.alloc hs _).alloc (by simp; omega) _)
  clear h hB hb hs hR fD fN fU fV
  have x1 : X[1]? = some (.slice (some ⟨B + 1 + 1 + 1, 0, none⟩) doms.length (doms.length + 8)) := by rw [hX]; rfl
  have x2 : X[2]? = some (.slice (some ⟨B + 1 + 1 + 1 + 1, 0, none⟩) nets.length (nets.length + 8)) := by rw [hX]; rfl
  have x3 : X[3]? = some (.slice (some ⟨B + 1 + 1 + 1 + 1 + 1, 0, none⟩) users.length (users.length + 8)) := by rw [hX]; rfl
  have x6 : X[6]? = some (.slice (some ⟨B + 1 + 1 + 1 + 1 + 1 + 1, 0, none⟩) waits.length (waits.length + 8)) := by rw [hX]; rfl
  have c1 : C[1]? = some (.slice aD doms.length cD) := by rw [hC]; rfl
  have c2 : C[2]? = some (.slice aN nets.length cN) := by rw [hC]; rfl
  have c3 : C[3]? = some (.slice aU users.length cU) := by rw [hC]; rfl
  have c6 : C[6]? = some (.slice aW waits.length cW) := by rw [hC]; rfl
  have HX1 := Lib.hid x1
  have HX2 := Lib.hid x2
  have HX3 := Lib.hid x3
  have HX6 := Lib.hid x6
  have HC1 := Lib.hid c1
  have HC2 := Lib.hid c2
  have HC3 := Lib.hid c3
  have HC6 := Lib.hid c6
  clear x1 x2 x3 x6 c1 c2 c3 c6
  go_enter Tryz.func42, Tryz.ntmps42
  go_wp2_with fail
  go_loopw [5, 7] (fun ok i w' => ok = .bool true ∧ ∃ (k : Nat) (D' : Array Value), k ≤ doms.length + 8 ∧ i = .int .i64 k ∧ Rows4 w' B D' N U V ∧ Over (doms.length + 8) k D D' ∧ KIn wa B w.heap.size X C w') (fun _ i _ => doms.length + 8 - (intOf i).toNat)
  case atStart => subst hX hC; exact ⟨rfl, 0, D, by omega, rfl, R1.out, ⟨by have := HfD.out.1; omega, fun j _ => rfl⟩, K0.out⟩
  case round =>
    clear K0 R1 hX hC
    obtain ⟨rfl, k, D', hk, rfl, hR, hO, hK⟩ := hrel
    have b1 : wr.cell? ⟨w.heap.size + 1, 1, none⟩ = some (.slice aD doms.length cD) := (hK.2.2 1).trans HC1.out
    have HR := Lib.hid hR
    have HO := Lib.hid hO
    have HK := Lib.hid hK
    by_cases hk8 : k < doms.length + 8
    · have hk8i : (k : Int) < (doms.length : Int) + 8 := by omega
      obtain ⟨_, fr0⟩ := row_cell (j := k) hR.1 (by rw [hO.1]; omega)
      have c0 : wr.cell? ⟨B + 1 + 1 + 1, k, none⟩ = D[k]? := by
        rw [← hO.2 (k) (by omega)]; exact Lib.cell_of_heap hR.1 _
      by_cases hkn : k < doms.length
      · have hlt : decide ((k : Int) < (doms.length : Int)) = true := by simp; omega
        obtain ⟨b, off, rfl, hbl, hc⟩ := (HA.out.1.below (by rw [HWB.out]; exact hK.1)).elem k hkn
        have e0 : D[k]? = some (.string doms[k]) := by rw [HfD.out.2.1 k (by omega)]; simp [strCellsOf, hkn]
        have d0 : wr.cell? ⟨b, off + k, none⟩ = some (.string doms[k]) := hc.trans (by simp [strCellsOf, hkn])
        clear hc
        rw [e0] at c0
        clear hR hO hK e0
        go_wp2_with fail
        go_quiet (fail)
        go_wp2_with fail
        exact ⟨⟨rfl, k + 1, _, by omega, by go_num, (HR.out.drewN nq).setD _ _, HO.out.set _, (HK.out.drewN nq).setCell (by omega) (by have := HS.out; omega) _⟩, by simp [intOf]; omega⟩
      · have hlt : decide ((k : Int) < (doms.length : Int)) = false := by simp; omega
        have hge : decide ((doms.length : Int) ≤ (k : Int)) = true := by simp; omega
        have hge1 : ¬ ((k : Int) < (doms.length : Int)) := by omega
        have hge2 : (doms.length : Int) ≤ (k : Int) := by omega
        have e0 : D[k]? = some (.string ⟨#[98, 101, 121, 111, 110, 100]⟩) := by
          have := HfD.out.2.2 (k - doms.length) 0 (by omega) (by omega)
          rw [show (doms.length + (k - doms.length)) * 1 + 0 = k by omega] at this
          exact this
        rw [e0] at c0
        clear hR hO hK e0
        go_wp2_with fail
        go_quiet (fail)
        go_wp2_with fail
        exact ⟨⟨rfl, k + 1, _, by omega, by go_num, (HR.out.drewN nq).setD _ _, HO.out.set _, (HK.out.drewN nq).setCell (by omega) (by have := HS.out; omega) _⟩, by simp [intOf]; omega⟩
    · have hk9 : (k : Int) = (doms.length : Int) + 8 := by omega
      rw [hk9]
      have b2 : wr.cell? ⟨w.heap.size, 2, none⟩ = some (.slice (some ⟨B + 1 + 1 + 1 + 1, 0, none⟩) nets.length (nets.length + 8)) := (hK.2.1 2).trans HX2.out
      have b3 : wr.cell? ⟨w.heap.size + 1, 2, none⟩ = some (.slice aN nets.length cN) := (hK.2.2 2).trans HC2.out
      clear hR hO hK hk8 HO hk9 hk
      go_wp2_with fail
      go_loopw [5, 9] (fun ok i w' => ok = .bool true ∧ ∃ (k : Nat) (N' : Array Value), k ≤ nets.length + 8 ∧ i = .int .i64 k ∧ Rows4 w' B D' N' U V ∧ Over ((nets.length + 8) * 2) (k * 2) N N' ∧ KIn wa B w.heap.size X C w') (fun _ i _ => nets.length + 8 - (intOf i).toNat)
      case atStart => exact ⟨rfl, 0, N, by omega, rfl, HR.out, ⟨HfN.out.1, fun j _ => rfl⟩, HK.out⟩
      case round =>
        clear HR HK b1 b2 b3
        obtain ⟨rfl, k, N', hk, rfl, hR, hO, hK⟩ := hrel
        have b1 : wr.cell? ⟨w.heap.size + 1, 2, none⟩ = some (.slice aN nets.length cN) := (hK.2.2 2).trans HC2.out
        have HR := Lib.hid hR
        have HO := Lib.hid hO
        have HK := Lib.hid hK
        by_cases hk8 : k < nets.length + 8
        · have hk8i : (k : Int) < (nets.length : Int) + 8 := by omega
          obtain ⟨_, fr0⟩ := row_cell (j := k * 2) hR.2.1 (by rw [hO.1]; omega)
          have c0 : wr.cell? ⟨B + 1 + 1 + 1 + 1, k * 2, none⟩ = N[k * 2]? := by
            rw [← hO.2 (k * 2) (by omega)]; exact Lib.cell_of_heap hR.2.1 _
          obtain ⟨_, fr1⟩ := row_cell (j := k * 2 + 1) hR.2.1 (by rw [hO.1]; omega)
          have c1 : wr.cell? ⟨B + 1 + 1 + 1 + 1, k * 2 + 1, none⟩ = N[k * 2 + 1]? := by
            rw [← hO.2 (k * 2 + 1) (by omega)]; exact Lib.cell_of_heap hR.2.1 _
          by_cases hkn : k < nets.length
          · have hlt : decide ((k : Int) < (nets.length : Int)) = true := by simp; omega
            obtain ⟨b, off, rfl, hbl, hc, hc'⟩ := (HA.out.2.1.below (by rw [HWB.out]; exact hK.1)).elem2 k hkn
            have e0 : N[k * 2]? = some (.int .i64 nets[k].1) := by rw [HfN.out.2.1 (k * 2) (by omega)]; exact net_at nets k hkn
            have d0 : wr.cell? ⟨b, off + k * 2, none⟩ = some (.int .i64 nets[k].1) := hc.trans (net_at nets k hkn)
            have e1 : N[k * 2 + 1]? = some (.int .i64 nets[k].2) := by rw [HfN.out.2.1 (k * 2 + 1) (by omega)]; exact net_at1 nets k hkn
            have d1 : wr.cell? ⟨b, off + k * 2 + 1, none⟩ = some (.int .i64 nets[k].2) := hc'.trans (net_at1 nets k hkn)
            clear hc hc'
            rw [e0] at c0
            rw [e1] at c1
            clear hR hO hK e0 e1
            go_wp2_with fail
            go_quiet (fail)
            go_wp2_with fail
            exact ⟨⟨rfl, k + 1, _, by omega, by go_num, ((HR.out.drewN nq).setN _ _).setN _ _, HO.out.set2 _ _, ((HK.out.drewN nq).setCell (by omega) (by have := HS.out; omega) _).setCell (by omega) (by have := HS.out; omega) _⟩, by simp [intOf]; omega⟩
          · have hlt : decide ((k : Int) < (nets.length : Int)) = false := by simp; omega
            have hge : decide ((nets.length : Int) ≤ (k : Int)) = true := by simp; omega
            have hge1 : ¬ ((k : Int) < (nets.length : Int)) := by omega
            have hge2 : (nets.length : Int) ≤ (k : Int) := by omega
            have e0 : N[k * 2]? = some (.int .i64 0) := by
              have := HfN.out.2.2 (k - nets.length) 0 (by omega) (by omega)
              rw [show (nets.length + (k - nets.length)) * 2 + 0 = k * 2 by omega] at this
              exact this
            have e1 : N[k * 2 + 1]? = some (.int .i64 (-77)) := by
              have := HfN.out.2.2 (k - nets.length) 1 (by omega) (by omega)
              rw [show (nets.length + (k - nets.length)) * 2 + 1 = k * 2 + 1 by omega] at this
              exact this
            rw [e0] at c0
            rw [e1] at c1
            clear hR hO hK e0 e1
            go_wp2_with fail
            go_quiet (fail)
            go_wp2_with fail
            exact ⟨⟨rfl, k + 1, _, by omega, by go_num, ((HR.out.drewN nq).setN _ _).setN _ _, HO.out.set2 _ _, ((HK.out.drewN nq).setCell (by omega) (by have := HS.out; omega) _).setCell (by omega) (by have := HS.out; omega) _⟩, by simp [intOf]; omega⟩
        · have hk9 : (k : Int) = (nets.length : Int) + 8 := by omega
          rw [hk9]
          have b2 : wr.cell? ⟨w.heap.size, 3, none⟩ = some (.slice (some ⟨B + 1 + 1 + 1 + 1 + 1, 0, none⟩) users.length (users.length + 8)) := (hK.2.1 3).trans HX3.out
          have b3 : wr.cell? ⟨w.heap.size + 1, 3, none⟩ = some (.slice aU users.length cU) := (hK.2.2 3).trans HC3.out
          clear hR hO hK hk8 HO hk9 hk
          go_wp2_with fail
          go_loopw [5, 11] (fun ok i w' => ok = .bool true ∧ ∃ (k : Nat) (U' : Array Value), k ≤ users.length + 8 ∧ i = .int .i64 k ∧ Rows4 w' B D' N' U' V ∧ Over ((users.length + 8) * 2) (k * 2) U U' ∧ KIn wa B w.heap.size X C w') (fun _ i _ => users.length + 8 - (intOf i).toNat)
          case atStart => exact ⟨rfl, 0, U, by omega, rfl, HR.out, ⟨HfU.out.1, fun j _ => rfl⟩, HK.out⟩
          case round =>
            clear HR HK b1 b2 b3
            obtain ⟨rfl, k, U', hk, rfl, hR, hO, hK⟩ := hrel
            have b1 : wr.cell? ⟨w.heap.size + 1, 3, none⟩ = some (.slice aU users.length cU) := (hK.2.2 3).trans HC3.out
            have HR := Lib.hid hR
            have HO := Lib.hid hO
            have HK := Lib.hid hK
            by_cases hk8 : k < users.length + 8
            · have hk8i : (k : Int) < (users.length : Int) + 8 := by omega
              obtain ⟨_, fr0⟩ := row_cell (j := k * 2) hR.2.2.1 (by rw [hO.1]; omega)
              have c0 : wr.cell? ⟨B + 1 + 1 + 1 + 1 + 1, k * 2, none⟩ = U[k * 2]? := by
                rw [← hO.2 (k * 2) (by omega)]; exact Lib.cell_of_heap hR.2.2.1 _
              obtain ⟨_, fr1⟩ := row_cell (j := k * 2 + 1) hR.2.2.1 (by rw [hO.1]; omega)
              have c1 : wr.cell? ⟨B + 1 + 1 + 1 + 1 + 1, k * 2 + 1, none⟩ = U[k * 2 + 1]? := by
                rw [← hO.2 (k * 2 + 1) (by omega)]; exact Lib.cell_of_heap hR.2.2.1 _
              by_cases hkn : k < users.length
              · have hlt : decide ((k : Int) < (users.length : Int)) = true := by simp; omega
                obtain ⟨b, off, rfl, hbl, hc, hc'⟩ := (HA.out.2.2.1.below (by rw [HWB.out]; exact hK.1)).elem2 k hkn
                have e0 : U[k * 2]? = some (.string users[k].1) := by rw [HfU.out.2.1 (k * 2) (by omega)]; exact user_at users k hkn
                have d0 : wr.cell? ⟨b, off + k * 2, none⟩ = some (.string users[k].1) := hc.trans (user_at users k hkn)
                have e1 : U[k * 2 + 1]? = some (.string users[k].2) := by rw [HfU.out.2.1 (k * 2 + 1) (by omega)]; exact user_at1 users k hkn
                have d1 : wr.cell? ⟨b, off + k * 2 + 1, none⟩ = some (.string users[k].2) := hc'.trans (user_at1 users k hkn)
                clear hc hc'
                rw [e0] at c0
                rw [e1] at c1
                clear hR hO hK e0 e1
                go_wp2_with fail
                go_quiet (fail)
                go_wp2_with fail
                exact ⟨⟨rfl, k + 1, _, by omega, by go_num, ((HR.out.drewN nq).setU _ _).setU _ _, HO.out.set2 _ _, ((HK.out.drewN nq).setCell (by omega) (by have := HS.out; omega) _).setCell (by omega) (by have := HS.out; omega) _⟩, by simp [intOf]; omega⟩
              · have hlt : decide ((k : Int) < (users.length : Int)) = false := by simp; omega
                have hge : decide ((users.length : Int) ≤ (k : Int)) = true := by simp; omega
                have hge1 : ¬ ((k : Int) < (users.length : Int)) := by omega
                have hge2 : (users.length : Int) ≤ (k : Int) := by omega
                have e0 : U[k * 2]? = some (.string ⟨#[98, 101, 121, 111, 110, 100]⟩) := by
                  have := HfU.out.2.2 (k - users.length) 0 (by omega) (by omega)
                  rw [show (users.length + (k - users.length)) * 2 + 0 = k * 2 by omega] at this
                  exact this
                have e1 : U[k * 2 + 1]? = some (.string ⟨#[]⟩) := by
                  have := HfU.out.2.2 (k - users.length) 1 (by omega) (by omega)
                  rw [show (users.length + (k - users.length)) * 2 + 1 = k * 2 + 1 by omega] at this
                  exact this
                rw [e0] at c0
                rw [e1] at c1
                clear hR hO hK e0 e1
                go_wp2_with fail
                go_quiet (fail)
                go_wp2_with fail
                exact ⟨⟨rfl, k + 1, _, by omega, by go_num, ((HR.out.drewN nq).setU _ _).setU _ _, HO.out.set2 _ _, ((HK.out.drewN nq).setCell (by omega) (by have := HS.out; omega) _).setCell (by omega) (by have := HS.out; omega) _⟩, by simp [intOf]; omega⟩
            · have hk9 : (k : Int) = (users.length : Int) + 8 := by omega
              rw [hk9]
              have b2 : wr.cell? ⟨w.heap.size, 6, none⟩ = some (.slice (some ⟨B + 1 + 1 + 1 + 1 + 1 + 1, 0, none⟩) waits.length (waits.length + 8)) := (hK.2.1 6).trans HX6.out
              have b3 : wr.cell? ⟨w.heap.size + 1, 6, none⟩ = some (.slice aW waits.length cW) := (hK.2.2 6).trans HC6.out
              clear hR hO hK hk8 HO hk9 hk
              go_wp2_with fail
              go_loopw [5, 13] (fun ok i w' => ok = .bool true ∧ ∃ (k : Nat) (V' : Array Value), k ≤ waits.length + 8 ∧ i = .int .i64 k ∧ Rows4 w' B D' N' U' V' ∧ Over (waits.length + 8) k V V' ∧ KIn wa B w.heap.size X C w') (fun _ i _ => waits.length + 8 - (intOf i).toNat)
              case atStart => exact ⟨rfl, 0, V, by omega, rfl, HR.out, ⟨by have := HfV.out.1; omega, fun j _ => rfl⟩, HK.out⟩
              case round =>
                clear HR HK b1 b2 b3
                obtain ⟨rfl, k, V', hk, rfl, hR, hO, hK⟩ := hrel
                have b1 : wr.cell? ⟨w.heap.size + 1, 6, none⟩ = some (.slice aW waits.length cW) := (hK.2.2 6).trans HC6.out
                have HR := Lib.hid hR
                have HO := Lib.hid hO
                have HK := Lib.hid hK
                by_cases hk8 : k < waits.length + 8
                · have hk8i : (k : Int) < (waits.length : Int) + 8 := by omega
                  obtain ⟨_, fr0⟩ := row_cell (j := k) hR.2.2.2 (by rw [hO.1]; omega)
                  have c0 : wr.cell? ⟨B + 1 + 1 + 1 + 1 + 1 + 1, k, none⟩ = V[k]? := by
                    rw [← hO.2 (k) (by omega)]; exact Lib.cell_of_heap hR.2.2.2 _
                  by_cases hkn : k < waits.length
                  · have hlt : decide ((k : Int) < (waits.length : Int)) = true := by simp; omega
                    obtain ⟨b, off, rfl, hbl, hc⟩ := (HA.out.2.2.2.below (by rw [HWB.out]; exact hK.1)).elem k hkn
                    have e0 : V[k]? = some (.int .i64 waits[k]) := by rw [HfV.out.2.1 k (by omega)]; simp [intCells, hkn]
                    have d0 : wr.cell? ⟨b, off + k, none⟩ = some (.int .i64 waits[k]) := hc.trans (by simp [intCells, hkn])
                    clear hc
                    rw [e0] at c0
                    clear hR hO hK e0
                    go_wp2_with fail
                    go_quiet (fail)
                    go_wp2_with fail
                    exact ⟨⟨rfl, k + 1, _, by omega, by go_num, (HR.out.drewN nq).setV _ _, HO.out.set _, (HK.out.drewN nq).setCell (by omega) (by have := HS.out; omega) _⟩, by simp [intOf]; omega⟩
                  · have hlt : decide ((k : Int) < (waits.length : Int)) = false := by simp; omega
                    have hge : decide ((waits.length : Int) ≤ (k : Int)) = true := by simp; omega
                    have hge1 : ¬ ((k : Int) < (waits.length : Int)) := by omega
                    have hge2 : (waits.length : Int) ≤ (k : Int) := by omega
                    have e0 : V[k]? = some (.int .i64 (-77)) := by
                      have := HfV.out.2.2 (k - waits.length) 0 (by omega) (by omega)
                      rw [show (waits.length + (k - waits.length)) * 1 + 0 = k by omega] at this
                      exact this
                    rw [e0] at c0
                    clear hR hO hK e0
                    go_wp2_with fail
                    go_quiet (fail)
                    go_wp2_with fail
                    exact ⟨⟨rfl, k + 1, _, by omega, by go_num, (HR.out.drewN nq).setV _ _, HO.out.set _, (HK.out.drewN nq).setCell (by omega) (by have := HS.out; omega) _⟩, by simp [intOf]; omega⟩
                · have hk9 : (k : Int) = (waits.length : Int) + 8 := by omega
                  rw [hk9]
                  clear hR hO hK hk8 HO hk9 hk
                  go_wp2_with fail
                  go_ret
                  exact ⟨rfl, HK.out.1⟩
end Go.Proofs.YtgjjjdccbpjnfaaGreatDoor
