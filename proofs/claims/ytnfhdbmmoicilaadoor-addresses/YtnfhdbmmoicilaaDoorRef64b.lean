/- The document's answer: Base64. -/
import Derived.Test.YtnfhdbmmoicilaaDoorRef64
import Derived.Test.YtnfhdbmmoicilaaDoorRefSmall
import Derived.Lib.UnsafeStr
import Derived.Lib.Builder
namespace Go.Proofs.YtnfhdbmmoicilaaDoor
open Go.RowKit

/-- the look for the letter: its number is below K, or not yet -/
def updV (o : Option Nat) (K V : Nat) : Nat := match o with | some q => if q < K then (64 * V + q) % 65536 else V | none => V
def updN (o : Option Nat) (K N : Nat) : Nat := match o with | some q => if q < K then N + 6 else N | none => N

theorem upd_hit {o : Option Nat} {K V N : Nat} (h : o = some K) : updV o K V = V ∧ updN o K N = N ∧ updV o (K + 1) V = (64 * V + K) % 65536 ∧ updN o (K + 1) N = N + 6 := by
  subst h
  simp [updV, updN]
theorem upd_miss {o : Option Nat} {K V N : Nat} (h : o ≠ some K) : updV o (K + 1) V = updV o K V ∧ updN o (K + 1) N = updN o K N := by
  cases o with
  | none => exact ⟨rfl, rfl⟩
  | some q =>
    have : q ≠ K := fun e => h (by rw [e])
    by_cases hq : q < K
    · simp [updV, updN, hq, show q < K + 1 by omega]
    · simp [updV, updN, hq, show ¬ q < K + 1 by omega]

theorem updV_le (o : Option Nat) (K V : Nat) (h : V ≤ 65535) : updV o K V ≤ 65535 := by
  cases o with
  | none => exact h
  | some q =>
    unfold updV
    by_cases hq : q < K
    · simp only [hq, if_true]; omega
    · simp only [hq, if_false]; exact h
theorem updN_le (o : Option Nat) (K N : Nat) (h : N ≤ 7) : updN o K N ≤ 13 := by
  cases o with
  | none => show N ≤ 13; omega
  | some q =>
    unfold updN
    by_cases hq : q < K
    · simp only [hq, if_true]; omega
    · simp only [hq, if_false]; omega
theorem table_get (K : Nat) (h : K < 64) : table[K]'h = let6 K := by
  have h1 := get_of table K h
  rw [table_at K h] at h1
  exact (Option.some.inj h1).symm
theorem hit_of {c : UInt8} {K : Nat} (hK : K < 64) (h : (((table[K]'hK).toNat : Int) == (c.toNat : Int)) = true) : val c = some K := by
  have h : ((table[K]'hK).toNat : Int) = (c.toNat : Int) := by simpa using h
  have : table[K]'hK = c := UInt8.toNat_inj.1 (by omega)
  rw [← this, table_get K hK]; exact val_let6 K hK
theorem miss_of {c : UInt8} {K : Nat} (hK : K < 64) (h : (((table[K]'hK).toNat : Int) == (c.toNat : Int)) = false) : val c ≠ some K := by
  intro e
  have := (let6_val e).2
  rw [table_get K hK, this] at h
  simp at h
theorem step_upd (acc : List UInt8) (V N : Nat) (c : UInt8) (hN : N ≤ 7) : step6 (acc, V, N) c = if 8 ≤ updN (val c) 64 N then (acc ++ [bOf (updV (val c) 64 V / 2 ^ (updN (val c) 64 N - 8))], updV (val c) 64 V, updN (val c) 64 N - 8) else (acc, updV (val c) 64 V, updN (val c) 64 N) := by
  unfold step6
  cases h : val c with
  | none =>
    show (acc, V, N) = if 8 ≤ N then _ else _
    rw [if_neg (by omega)]; rfl
  | some q =>
    have hq := (let6_val h).1
    simp only [updV, updN, hq, if_true]
theorem all6_succ (l : List UInt8) (k : Nat) (h : k < l.length) : all6 (l.take (k + 1)) = step6 (all6 (l.take k)) (l.getD k 0) := by
  rw [all6, all6, List.take_succ_eq_append_getElem h, List.foldl_append, List.getD_eq_getElem?_getD, List.getElem?_eq_getElem h]
  rfl
theorem below_drewN' (n : Nat) (w : World) (B : Nat) : Below B w (w.drewN n) := by
  induction n with
  | zero => exact Below.refl _ _
  | succ n ih => exact ih.trans ((Below.refl _ _).drew)
theorem ownsRow_drewN {w : World} {base : Nat} {e : TypeId} {v : Value} {n : Nat} {xs : List Value} : ∀ (m : Nat), w.ownsRow base e 1 v n xs → (w.drewN m).ownsRow base e 1 v n xs
  | 0, h => h
  | m + 1, h => ownsRow_drewN m h

theorem info_u8 : (Tryd.prog.info? 5).map (fun i => (i.zero, i.size, i.bytes)) = some (some (.int .u8 0), 1, 1) := by kernel_rfl

theorem byte_cast (V n : Nat) : ((bOf (V / 2 ^ n)).toNat : Int) = (V : Int) / 2 ^ n % 256 := by
  rw [bOf_toNat, Int.natCast_emod, Int.natCast_ediv, Int.natCast_pow]; rfl
theorem bytes_snoc (acc : List UInt8) (c : UInt8) : Lib.byteCells (acc ++ [c]) = Lib.byteCells acc ++ [.int .u8 (c.toNat : Int)] := by simp [Lib.byteCells]
theorem exact_num {N : Nat} (h : 8 ≤ N) : Value.int .i64 ((N : Int) - 8) = .int .i64 ((N - 8 : Nat) : Int) := congrArg (Value.int .i64) (by omega)
theorem conv_own {w : World} {base : Nat} {v : Value} {l : List UInt8} (h : w.ownsRow base 5 1 v l.length (Lib.byteCells l)) : (convert 43 9 v).run Tryd.prog w = .ok (.string ⟨l.toArray⟩) w := by
  rcases h.2 with ⟨rfl, h0⟩ | ⟨g, cap, cur, rfl, hb, hg, h1, h2, h3, h4⟩
  · have : l = [] := List.length_eq_zero_iff.1 h0
    subst this
    rw [run_convert_bytes_string w 43 9 5 none 0 0 Tryd.underlying43 Tryd.underlying5 Tryd.underlying9]
    simp [Conv.bytesToString, Sem.run_pure]
    rfl
  · refine bytes_back w g cap l.length l rfl (fun j hj => ?_)
    rw [Lib.cell_of_heap hg]
    have h5 : (cur.toList.take (l.length * 1))[j]? = cur.toList[j]? := List.getElem?_take_of_lt (by omega)
    rw [h4] at h5
    rw [← Array.getElem?_toList, ← h5, Lib.byteCells, List.getElem?_map, List.getElem?_eq_getElem hj, List.getD_eq_getElem?_getD, List.getElem?_eq_getElem hj]
    rfl

def R64Post (l : List UInt8) (w : World) (e : Ending) (w' : World) : Prop := e = .returned (.tuple #[.string ⟨(ref64 l).1.toArray⟩, .bool (ref64 l).2]) ∧ Below w.heap.size w w'
theorem R64Post.mk {l : List UInt8} {w : World} {e : Ending} {w' : World} (x : List UInt8) (f : Bool) (h : ref64 l = (x, f)) (he : e = .returned (.tuple #[.string ⟨x.toArray⟩, .bool f])) (hw : Below w.heap.size w w') : R64Post l w e w' := ⟨by rw [he, h], hw⟩

def strOf (v : Value) : List UInt8 := match v with | .string s => s.data.toList | _ => []

def B64Rel (l : List UInt8) (w : World) (bv v n i : Value) (w' : World) : Prop :=
  ∃ (k V N : Nat) (acc : List UInt8), k ≤ l.length ∧ i = .int .i64 k ∧ v = .int .i64 V ∧ n = .int .i64 N ∧ N ≤ 7 ∧ V ≤ 65535 ∧ all6 (l.take k) = (acc, V, N) ∧ acc.length ≤ k ∧
    w'.ownsRow w.heap.size 5 1 bv acc.length (Lib.byteCells acc) ∧ Below w.heap.size w w'

set_option maxHeartbeats 1000000 in
set_option maxRecDepth 100000 in
theorem refBase64_any (s : ByteArray) (w : World) (hs : s.size ≤ 140737488351232) :
    Calls Tryd.prog 8 #[.string s] w (R64Post s.data.toList w) := by
  obtain ⟨i0, hi, hz0, hz1, hz2⟩ := info_parts info_u8
  go_enter Tryd.func8, Tryd.ntmps8
  go_wp2
  go_loopw [4, 5, 6, 7] (fun bv v n i w' => B64Rel s.data.toList w bv v n i w') (fun _ _ _ i _ => s.size - (intOf i).toNat)
  case atStart => exact ⟨0, 0, 0, [], Nat.zero_le _, rfl, rfl, rfl, by omega, by omega, rfl, by simp, World.ownsRow_nil _ _ _ _, Below.refl _ _⟩
  case round =>
    obtain ⟨k, V, N, acc, hk, rfl, rfl, rfl, hN, hV, hall, hacc, hown, hbel⟩ := hrel
    rw [size_of_toList] at hk
    have HA := Lib.hid hall
    have HW := Lib.hid hown
    have HB := Lib.hid hbel
    clear hall hown hbel
    by_cases hlt : k < s.size
    · have hg : Hid (s.data.toList.getD k 0 = s[k]) := getD_of s k hlt
      have hki : (k : Int) < (s.size : Int) := by omega
      obtain ⟨o, ho⟩ : ∃ o, val s[k] = o := ⟨_, rfl⟩
      have HO := Lib.hid ho
      clear ho
      go_wp2_with fail
      go_loopw [5, 6, 8] (fun v n kv w1 => ∃ (K V1 N1 m : Nat), K ≤ 64 ∧ kv = .int .i64 K ∧ v = .int .i64 V1 ∧ n = .int .i64 N1 ∧ Hid (updV o K V = V1) ∧ Hid (updN o K N = N1) ∧ w1 = wr.drewN m) (fun _ _ kv _ => 64 - (intOf kv).toNat)
      case atStart => exact ⟨0, V, N, 0, by omega, rfl, rfl, rfl, (by show _ = _; cases o <;> simp [updV]), (by show _ = _; cases o <;> simp [updN]), rfl⟩
      case round =>
        obtain ⟨K, V1, N1, m, hK, rfl, rfl, rfl, H1, H2, rfl⟩ := hrel
        by_cases hK4 : K < 64
        · have hb4 : decide ((K : Int) < 64) = true := by simp; omega
          have hKi : (K : Int) < 64 := by omega
          go_wp2_with fail
          have hV1 : (V1 : Int) ≤ 65535 := by have := updV_le o K V hV; rw [H1.out] at this; omega
          have hN1 : (N1 : Int) ≤ 13 := by have := updN_le o K N hN; rw [H2.out] at this; omega
          go_region
          go_wp2
          · rename_i hq
            have he := hit_of hK4 hq
            rw [HO.out] at he
            have hu := upd_hit (V := V) (N := N) he
            rw [H1.out, H2.out] at hu
            refine ⟨⟨K + 1, (64 * V1 + K) % 65536, N1 + 6, m + 1, by omega, by go_num, ?_, by go_num, ?_, ?_, rfl⟩, by simp [intOf]; omega⟩
            · exact congrArg (Value.int .i64) (by omega)
            · show _ = _
              rw [hu.2.2.1, hu.1]
            · show _ = _
              rw [hu.2.2.2, hu.2.1]
          · rename_i hq
            have he := miss_of hK4 hq
            rw [HO.out] at he
            have hu := upd_miss (V := V) (N := N) he
            exact ⟨⟨K + 1, V1, N1, m + 1, by omega, by go_num, rfl, rfl, (by show _ = _; rw [hu.1, H1.out]), (by show _ = _; rw [hu.2, H2.out]), rfl⟩, by simp [intOf]; omega⟩
        · have hb4 : decide ((K : Int) < 64) = false := by simp; omega
          have hK64 : K = 64 := by omega
          rw [hK64] at H1 H2
          have HV1 : Hid (V1 ≤ 65535) := by show _ ≤ _; have := updV_le o 64 V hV; rw [H1.out] at this; exact this
          have hN1 : (N1 : Int) ≤ 13 := by have := updN_le o 64 N hN; rw [H2.out] at this; omega
          have HST : Hid (all6 (s.data.toList.take (k + 1)) = if 8 ≤ N1 then (acc ++ [bOf (V1 / 2 ^ (N1 - 8))], V1, N1 - 8) else (acc, V1, N1)) := by
            show _ = _
            rw [← H1.out, ← H2.out, ← HO.out, ← step_upd acc V N s[k] hN, ← HA.out, all6_succ _ k (by rw [size_of_toList]; exact hlt), hg.out]
          have HBm : Hid (Below w.heap.size w (wr.drewN m)) := HB.out.trans (below_drewN' _ _ _)
          have HWm : Hid ((wr.drewN m).ownsRow w.heap.size 5 1 u4 acc.length (Lib.byteCells acc)) := ownsRow_drewN m HW.out
          clear hK64
          by_cases h8 : 8 ≤ N1
          · have h8i : (8 : Int) ≤ (N1 : Int) := by omega
            have hHB : wr.heap.size = (wr.drewN m).heap.size := by simp
            obtain ⟨W0, hW0⟩ : ∃ W0, wr.drewN m = W0 := ⟨_, rfl⟩
            rw [hW0] at HBm HWm ⊢
            clear hW0 hHB
            have hown := HWm.out
            have hl := Lib.byteCells_length acc
            go_wp2_with (first
              | (at_builtin; refine wpList_append_own _ rfl _ _ 43 rfl w.heap.size 5 i0 (.int .u8 0) 1 1 Tryd.underlying43 hi hz0 hz1 hz2 rfl (by decide) _ _ _ rfl (hown.alloc _) ⟨W0.heap.size, 0, none⟩ 1 1 [.int .u8 ((bOf (V1 / 2 ^ (N1 - 8))).toNat : Int)] rfl rfl ?c1 ?c2 ?c3 ?c4 ?c5 ?_)
              | fail)
            case c1 =>
              intro j u hj
              match j, hj with
              | 0, hj =>
                simp only [List.getElem?_cons_zero, Option.some.injEq] at hj
                subst hj
                rw [byte_cast V1 (N1 - 8)]
                simp [Addr.add]
            case c2 => intro u hu; simp at hu; subst hu; rfl
            case c3 => unfold maxLen; omega
            case c4 => omega
            case c5 => have := HBm.out.size; simp; omega
            · intro v' w1 hown' hgrow _
              have HO' := Lib.hid hown'
              have HBn : Hid (Below w.heap.size w w1) := by
                have hb0 : Below w.heap.size w (W0.alloc (.cells #[.int .u8 ((V1 : Int) / 2 ^ (N1 - 8) % 256)] 5)) := HBm.out.alloc HBm.out.size _
                exact hb0.grown hgrow (by have := HBm.out.size; simp; omega) (fun k hk => (hown.lt k hk).1)
              clear hown' hgrow hown hl
              go_wp2
              refine ⟨⟨k + 1, V1, N1 - 8, acc ++ [bOf (V1 / 2 ^ (N1 - 8))], by rw [size_of_toList]; omega, by go_num, rfl, exact_num h8, by omega, HV1.out, ?_, by simp; omega, ?_, HBn.out⟩, by simp [intOf]; omega⟩
              · rw [HST.out, if_pos h8]
              · have h := HO'.out
                rw [List.length_append, bytes_snoc]
                exact h
          · have h8i : (N1 : Int) < 8 := by omega
            go_wp2_with fail
            refine ⟨⟨k + 1, V1, N1, acc, by rw [size_of_toList]; omega, by go_num, rfl, rfl, by omega, HV1.out, ?_, by omega, HWm.out, HBm.out⟩, by simp [intOf]; omega⟩
            rw [HST.out, if_neg h8]
    · have hks : Hid (k = s.data.toList.length) := by
        show _ = _
        rw [size_of_toList]; omega
      have HL : Hid ((all6 s.data.toList).1 = acc) := by
        show _ = _
        have := HA.out
        rw [hks.out, List.take_length] at this
        rw [this]
      have hconv := conv_own HW.out
      have hsz : (⟨acc.toArray⟩ : ByteArray).size ≤ 140737488355328 := by
        show acc.toArray.size ≤ _
        simp; omega
      cases hq : ((wr64 acc) == s.data.toList) with
      | true =>
        have HE : Hid (ref64 s.data.toList = (acc, true)) := by
          show _ = _
          unfold ref64
          rw [HL.out, if_pos (by simpa using hq)]
        have hne : (wr64 acc == s.toList) = true := by
          rw [Lib.toList_data]; exact hq
        clear hq
        go_wp2_with (go_at_call 21; refine (written_any _ _ hsz).mono ?_; rintro e w' ⟨rfl, rfl⟩)
        go_ret2
        exact R64Post.mk _ _ HE.out rfl HB.out
      | false =>
        have HE : Hid (ref64 s.data.toList = ([], false)) := by
          show _ = _
          unfold ref64
          rw [HL.out, if_neg (by simpa using hq)]
        have hne : (wr64 acc == s.toList) = false := by
          rw [Lib.toList_data]; exact hq
        clear hq
        go_wp2_with (go_at_call 21; refine (written_any _ _ hsz).mono ?_; rintro e w' ⟨rfl, rfl⟩)
        go_ret2
        exact R64Post.mk _ _ HE.out rfl HB.out
end Go.Proofs.YtnfhdbmmoicilaaDoor
