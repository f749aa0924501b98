import Derived.Test.YtadcidbeealdpaaGreatDoorS08
import Derived.Test.YtadcidbeealdpaaGreatDoorS07
import Derived.Test.YtadcidbeealdpaaGreatDoorS01
import Derived.Test.YtadcidbeealdpaaGreatDoorS06

/- The program reads a mail. -/
namespace Go.Proofs.YtadcidbeealdpaaGreatDoor
open Go.RowKit

def noMail : PMail := ⟨0, 0, [], [], []⟩
/-- what ReadMail answers -/
def ReadMailPost (l : List UInt8) (w : World) (e : Ending) (w' : World) : Prop :=
  (readMailS l = none ∧ e = .returned (.tuple #[.agg (mailCells noMail (.slice none 0 0)), .bool false]) ∨ ∃ mm v, readMailS l = some mm ∧ e = .returned (.tuple #[.agg (mailCells mm v), .bool true]) ∧ w'.ownsRow w.heap.size 9 1 v mm.tos.length (textCells mm.tos) ∧ MailSz mm) ∧ Below w.heap.size w w'

/-- what a cell holds -/
def valAt (w : World) (a : Addr) : Value := (w.cell? a).getD undef
theorem valAt_of {w : World} {a : Addr} {v : Value} (h : w.cell? a = some v) : w.cell? a = some (valAt w a) := by unfold valAt; rw [h]; rfl
theorem valAt_is {w : World} {a : Addr} {v : Value} (h : w.cell? a = some v) : valAt w a = v := by unfold valAt; rw [h]; rfl
structure RS (w wk : World) (s : Nat) (o : Option (List UInt8)) (I T : Nat) (f : List UInt8) (v : Value) (B : List UInt8) : Prop where
  fd : FdIn wk (s + 1) o
  res : MailAt wk s 0 0 [] (.slice none 0 0) []
  mail : MailAt wk (s + 2) I T f v B
  below : Below s w wk
  size : s + 3 ≤ wk.heap.size
theorem FdIn.same {w w' : World} {b s : Nat} {o : Option (List UInt8)} (h : FdIn w b o) (hs : Same s w w') (hne : b ≠ s) : FdIn w' b o := by
  cases o with
  | none => obtain ⟨l, h⟩ := h; exact ⟨l, (hs.2 b hne).trans h⟩
  | some l => exact ⟨(hs.2 b hne).trans h.1, h.2⟩
theorem FdIn.blk {w w' : World} {b : Nat} {o : Option (List UInt8)} (h : FdIn w b o) (hs : w'.heap[b]? = w.heap[b]?) : FdIn w' b o := by
  cases o with
  | none => obtain ⟨l, h⟩ := h; exact ⟨l, hs.trans h⟩
  | some l => exact ⟨hs.trans h.1, h.2⟩
theorem RS.fdStep {w wk wk' : World} {s I T : Nat} {o o' : Option (List UInt8)} {f B : List UInt8} {v : Value} (h : RS w wk s o I T f v B) (hs : Same (s + 1) wk wk') (hf : FdIn wk' (s + 1) o') : RS w wk' s o' I T f v B :=
  ⟨hf, h.res.same hs (by omega), h.mail.same hs (by omega), h.below.trans (hs.below (by omega)), by rw [hs.1]; exact h.size⟩
theorem RS.keep {w wk wk' : World} {s I T : Nat} {o : Option (List UInt8)} {f B : List UInt8} {v : Value} (h : RS w wk s o I T f v B) (hb : Below wk.heap.size wk wk') : RS w wk' s o I T f v B := by
  have hz := h.size
  refine ⟨h.fd.blk (hb.block (s + 1) (by omega)), ?_, ?_, h.below.trans (hb.mono (by omega)), Nat.le_trans h.size hb.size⟩
  · have := h.res; unfold MailAt at this ⊢; rw [hb.block s (by omega)]; exact this
  · have := h.mail; unfold MailAt at this ⊢; rw [hb.block (s + 2) (by omega)]; exact this
theorem RS.cellAt {w wk : World} {s I T : Nat} {o : Option (List UInt8)} {f B : List UInt8} {v : Value} (h : RS w wk s o I T f v B) (j : Nat) : wk.cell? ⟨s + 2, j, none⟩ = (#[.int .i64 I, .int .i64 T, .string (bs f), v, .string (bs B)] : Array Value)[j]? ∧ wk.frozen? ⟨s + 2, j, none⟩ = false := h.mail.cell j
theorem RS.set {w wk : World} {s I T I' T' j : Nat} {o : Option (List UInt8)} {f B f' B' : List UInt8} {v v' u : Value} (h : RS w wk s o I T f v B) (e : (#[.int .i64 I, .int .i64 T, .string (bs f), v, .string (bs B)] : Array Value).setIfInBounds j u = #[.int .i64 I', .int .i64 T', .string (bs f'), v', .string (bs B')]) : RS w (wk.setCell ⟨s + 2, j, none⟩ u) s o I' T' f' v' B' := by
  have hs : Same (s + 2) wk (wk.setCell ⟨s + 2, j, none⟩ u) := (Same.refl _ _).setCell _
  refine ⟨h.fd.same hs (by omega), h.res.same hs (by omega), ?_, h.below.trans (hs.below (by omega)), by rw [hs.1]; exact h.size⟩
  have := heap_setCell_same wk (s + 2) j _ _ u h.mail
  unfold MailAt
  rw [this, e]
theorem RS.ofGrown {w wk wa wg : World} {s I T n : Nat} {o : Option (List UInt8)} {f B : List UInt8} {v : Value} {xs : List Value} (h : RS w wk s o I T f v B) (hO : wk.ownsRow (s + 3) 9 1 v n xs) (hB : Below wk.heap.size wk wa) (hg : wa.grownBy wg v.ownBlock) : RS w wg s o I T f v B := by
  have hz := h.size
  have hrow : ∀ j, v.ownBlock = some j → s + 3 ≤ j := fun j hj => (hO.lt j hj).1
  have old : ∀ k, k < s + 3 → wg.heap[k]? = wk.heap[k]? := fun k hk => by
    rw [hg.block k (by have := hB.size; omega) (fun e => by have := hrow k e.symm; omega), hB.block k (by omega)]
  refine ⟨h.fd.blk (old _ (by omega)), ?_, ?_, ?_, by have := hB.size; have := hg.size; omega⟩
  · have := h.res; unfold MailAt at this ⊢; rw [old s (by omega)]; exact this
  · have := h.mail; unfold MailAt at this ⊢; rw [old (s + 2) (by omega)]; exact this
  · exact (h.below.trans (hB.mono (by omega))).grown hg (by have := hB.size; omega) (fun j hj => by have := hrow j hj; omega)

set_option maxHeartbeats 2000000 in
set_option maxRecDepth 100000 in
theorem readMail_any (l : List UInt8) (m : Int) (w : World) (hl : l.length ≤ 1048576) (hm : w.cell? ⟨0, 0, none⟩ = some (.int .i64 m)) :
    Calls Tryz.prog 59 #[.string (bs l)] w (ReadMailPost l w) := by
  have h0 := block_lt hm
  have sl := bs_size l
  obtain ⟨s, hs⟩ : ∃ s, w.heap.size = s := ⟨_, rfl⟩
  rw [hs] at h0
  obtain ⟨W0, hW0⟩ : ∃ W0 : World, (w.alloc (.cells #[.int .i64 0, .int .i64 0, .string ⟨#[]⟩, .slice none 0 0, .string ⟨#[]⟩] 54)).alloc (.cells #[.string (bs l), .bool false] 131) = W0 := ⟨_, rfl⟩
  have F0 : FdIn W0 (s + 1) (some l) := ⟨by rw [← hW0, ← hs]; have := heap_alloc_new (w.alloc (.cells #[.int .i64 0, .int .i64 0, .string ⟨#[]⟩, .slice none 0 0, .string ⟨#[]⟩] 54)) (.cells #[.string (bs l), .bool false] 131); simpa using this, by unfold maxLen; omega⟩
  have R0 : MailAt W0 s 0 0 [] (.slice none 0 0) [] := by
    unfold MailAt
    rw [← hW0, ← hs, ((Below.refl (w.alloc (.cells #[.int .i64 0, .int .i64 0, .string ⟨#[]⟩, .slice none 0 0, .string ⟨#[]⟩] 54)).heap.size _).alloc (Nat.le_refl _) _).block w.heap.size (by simp)]
    exact heap_alloc_new w _
  have B0 : Below s w W0 := by rw [← hW0]; exact ((Below.refl _ _).alloc (by omega) _).alloc (by simp; omega) _
  have Z0 : W0.heap.size = s + 2 := by rw [← hW0, ← hs]; simp
  have HC0 := Lib.hid (fdBytes_any (s + 1) 1 (some l) W0 F0 (by decide))
  have HW0 := Lib.hid hW0
  have HSS := Lib.hid hs
  have HR0 := Lib.hid R0
  have HB0 := Lib.hid B0
  have HZ0 := Lib.hid Z0
  clear hW0 F0 R0 B0 Z0
  by_cases h77 : l.take 1 = [77]
  · obtain ⟨r, hr⟩ : ∃ r, l.drop 1 = r := ⟨_, rfl⟩
    have HL : Hid (l = 77 :: r) := Lib.hid (by rw [← List.take_append_drop 1 l, h77, hr]; rfl)
    have e1 : (some l).bind (bytesS 1) = some ([77], r) := by
      show bytesS 1 l = _
      rw [HL.out]
      rfl
    have HRM : Hid (readMailS l = (mailS r).bind fun m => if mailMayB m then some m else none) := Lib.hid (by
      rw [HL.out]; unfold readMailS; simp only; rw [if_pos trivial])
    rw [e1] at HC0
    have hrl : r.length ≤ 1048576 := by rw [← hr, List.length_drop]; omega
    clear e1 hr h77
    go_enter Tryz.func59, Tryz.ntmps59
    go_wp2_with fail
    rw [HW0.out]
    refine HC0.out.mono ?_
    rintro e w1 ⟨rfl, h1, h2⟩
    have m1 : ((bs (outS (some ([77], r)))).toList == [77]) = true := by
      show ((bs [77]).toList == [77]) = true
      rw [eq_lit]; rfl
    have F1 : FdIn w1 (s + 1) (some r) := h1
    have R1 := HR0.out.same h2 (by omega)
    have B1 := HB0.out.trans (h2.below (by omega))
    have Z1 : w1.heap.size = s + 2 := h2.1.trans HZ0.out
    obtain ⟨W2, hW2⟩ : ∃ W2 : World, w1.alloc (.cells #[.int .i64 0, .int .i64 0, .string ⟨#[]⟩, .slice none 0 0, .string ⟨#[]⟩] 54) = W2 := ⟨_, rfl⟩
    have S2 : RS w W2 s (some r) 0 0 [] (.slice none 0 0) [] := by
      have hb : Below w1.heap.size w1 W2 := by rw [← hW2]; exact (Below.refl _ _).alloc (Nat.le_refl _) _
      refine ⟨F1.blk (hb.block (s + 1) (by omega)), ?_, ?_, B1.trans (hb.mono (by omega)), by rw [← hW2]; simp; omega⟩
      · unfold MailAt at R1 ⊢; rw [hb.block s (by omega)]; exact R1
      · unfold MailAt; rw [← hW2, ← Z1]; exact heap_alloc_new w1 _
    have HS2 := Lib.hid S2
    have HW2 := Lib.hid hW2
    clear h1 h2 F1 R1 B1 HC0 HR0 HB0 HZ0 HW0 S2 hW2
    obtain ⟨I, o1, hI⟩ : ∃ I o1, numO 4 (some r) = (I, o1) := ⟨_, _, rfl⟩
    have hI4 : I ≤ 4294967295 := by have := numO_lt 4 (some r); rw [hI] at this; simp at this; omega
    have hc : Calls Tryz.prog 56 #[.pointer (some ⟨s + 1, 0, none⟩), .int .i64 4] W2 fun e w' => e = .returned (.int .i64 (numO 4 (some r)).1) ∧ FdIn w' (s + 1) (numO 4 (some r)).2 ∧ Same (s + 1) W2 w' := fdNumber_any (s + 1) 4 (some r) W2 HS2.out.fd (by decide)
    rw [hI] at hc
    have HC := Lib.hid hc
    have HI := Lib.hid hI
    clear hc hI
    go_wp2_with fail
    rw [HW2.out]
    refine HC.out.mono ?_
    rintro e w3 ⟨rfl, h1, h2⟩
    have S3 := HS2.out.fdStep h2 h1
    obtain ⟨c0, f0⟩ := S3.cellAt 0
    have S3' : RS w (w3.setCell ⟨s + 2, 0, none⟩ (.int .i64 I)) s o1 I 0 [] (.slice none 0 0) [] := S3.set rfl
    obtain ⟨W3, hW3⟩ : ∃ W3 : World, w3.setCell ⟨s + 2, 0, none⟩ (.int .i64 I) = W3 := ⟨_, rfl⟩
    rw [hW3] at S3'
    have HS3 := Lib.hid S3'
    have HW3 := Lib.hid hW3
    clear h1 h2 S3 S3' hW3 HC HS2 HW2
    obtain ⟨T, o2, hT⟩ : ∃ T o2, numO 4 o1 = (T, o2) := ⟨_, _, rfl⟩
    have hT4 : T ≤ 4294967295 := by have := numO_lt 4 o1; rw [hT] at this; simp at this; omega
    have hc : Calls Tryz.prog 56 #[.pointer (some ⟨s + 1, 0, none⟩), .int .i64 4] W3 fun e w' => e = .returned (.int .i64 (numO 4 o1).1) ∧ FdIn w' (s + 1) (numO 4 o1).2 ∧ Same (s + 1) W3 w' := fdNumber_any (s + 1) 4 o1 W3 HS3.out.fd (by decide)
    rw [hT] at hc
    have HC := Lib.hid hc
    have HT := Lib.hid hT
    clear hc hT
    go_wp2_with fail
    rw [HW3.out]
    refine HC.out.mono ?_
    rintro e w4 ⟨rfl, h1, h2⟩
    have S4 := HS3.out.fdStep h2 h1
    obtain ⟨c1, f1⟩ := S4.cellAt 1
    have S4' : RS w (w4.setCell ⟨s + 2, 1, none⟩ (.int .i64 T)) s o2 I T [] (.slice none 0 0) [] := S4.set rfl
    obtain ⟨W4, hW4⟩ : ∃ W4 : World, w4.setCell ⟨s + 2, 1, none⟩ (.int .i64 T) = W4 := ⟨_, rfl⟩
    rw [hW4] at S4'
    have HS4 := Lib.hid S4'
    have HW4 := Lib.hid hW4
    clear h1 h2 S4 S4' hW4 HC HS3 HW3 c0 f0
    obtain ⟨f, o3, hf⟩ : ∃ f o3, txtO 1 o2 = (f, o3) := ⟨_, _, rfl⟩
    have hfl : f.length ≤ 255 := by have := txtO_lt 1 o2; rw [hf] at this; simp at this; omega
    have hc : Calls Tryz.prog 96 #[.pointer (some ⟨s + 1, 0, none⟩), .int .i64 1] W4 fun e w' => e = .returned (.string (bs (txtO 1 o2).1)) ∧ FdIn w' (s + 1) (txtO 1 o2).2 ∧ Same (s + 1) W4 w' := fdText_any (s + 1) 1 o2 W4 HS4.out.fd (by decide)
    rw [hf] at hc
    have HC := Lib.hid hc
    have HF := Lib.hid hf
    have sf := bs_size f
    clear hc hf
    go_wp2_with fail
    rw [HW4.out]
    refine HC.out.mono ?_
    rintro e w5 ⟨rfl, h1, h2⟩
    have HS5 := Lib.hid (HS4.out.fdStep h2 h1)
    have HCL := Lib.hid (clone_any (bs f) w5 (by omega))
    clear h1 h2 HC HS4 HW4 c1 f1
    go_wp2_with fail
    refine HCL.out.mono ?_
    rintro e w6 ⟨rfl, hb6⟩
    have S6 := HS5.out.keep hb6
    obtain ⟨c2, f2⟩ := S6.cellAt 2
    have S6' : RS w (w6.setCell ⟨s + 2, 2, none⟩ (.string (bs f))) s o3 I T f (.slice none 0 0) [] := S6.set rfl
    obtain ⟨W6, hW6⟩ : ∃ W6 : World, w6.setCell ⟨s + 2, 2, none⟩ (.string (bs f)) = W6 := ⟨_, rfl⟩
    rw [hW6] at S6'
    have HS6 := Lib.hid S6'
    have HW6 := Lib.hid hW6
    clear hb6 S6 S6' hW6 HCL HS5
    obtain ⟨N, o4, hN⟩ : ∃ N o4, numO 1 o3 = (N, o4) := ⟨_, _, rfl⟩
    have hN4 : N ≤ 255 := by have := numO_lt 1 o3; rw [hN] at this; simp at this; omega
    have hc : Calls Tryz.prog 56 #[.pointer (some ⟨s + 1, 0, none⟩), .int .i64 1] W6 fun e w' => e = .returned (.int .i64 (numO 1 o3).1) ∧ FdIn w' (s + 1) (numO 1 o3).2 ∧ Same (s + 1) W6 w' := fdNumber_any (s + 1) 1 o3 W6 HS6.out.fd (by decide)
    rw [hN] at hc
    have HC := Lib.hid hc
    have HN := Lib.hid hN
    clear hc hN
    go_wp2_with fail
    rw [HW6.out]
    refine HC.out.mono ?_
    rintro e w7 ⟨rfl, h1, h2⟩
    have HS7 := Lib.hid (HS6.out.fdStep h2 h1)
    clear h1 h2 HC HS6 HW6 c2 f2
    go_wp2_with fail
    obtain ⟨is, his, hzs0, hzs1, hzs2⟩ := info_parts info_str'
    go_loopw [19] (fun i w' => ∃ (k : Nat) (v : Value) (Ts : List (List UInt8)) (o : Option (List UInt8)), k ≤ N ∧ i = .int .i64 k ∧ Hid (txtsO k o4 = (Ts, o)) ∧ Hid (RS w w' s o I T f v []) ∧ Hid (w'.ownsRow (s + 3) 9 1 v k (textCells Ts))) (fun i _ => N - (intOf i).toNat)
    case atStart => exact ⟨0, _, [], o4, Nat.zero_le _, rfl, Lib.hid rfl, HS7, Lib.hid (World.ownsRow_nil _ _ _ _)⟩
    case round =>
      clear HS7
      obtain ⟨k, v, Ts, o, hk, rfl, HTS, HS, HO⟩ := hrel
      obtain ⟨av, nv, cv, rfl⟩ : ∃ a n c, v = .slice a n c := by
        rcases HO.out.2 with ⟨e, _⟩ | ⟨g, cap, cur, e, _⟩
        · exact ⟨_, _, _, e⟩
        · exact ⟨_, _, _, e⟩
      by_cases hlt : k < N
      · have hlti : (k : Int) < (N : Int) := by omega
        obtain ⟨t, o', ht⟩ : ∃ t o', txtO 1 o = (t, o') := ⟨_, _, rfl⟩
        have htl : t.length ≤ 255 := by have := txtO_lt 1 o; rw [ht] at this; simp at this; omega
        have st := bs_size t
        have HNX : Hid (txtsO (k + 1) o4 = (Ts ++ [t], o')) := Lib.hid (by rw [txtsO, HTS.out]; simp only [ht])
        have HTX : Hid (∀ w', FdIn w' (s + 1) o → Calls Tryz.prog 96 #[.pointer (some ⟨s + 1, 0, none⟩), .int .i64 1] w' fun e w'' => e = .returned (.string (bs t)) ∧ FdIn w'' (s + 1) o' ∧ Same (s + 1) w' w'') := Lib.hid (fun w' h' => by
          have hc : Calls Tryz.prog 96 #[.pointer (some ⟨s + 1, 0, none⟩), .int .i64 1] w' fun e w'' => e = .returned (.string (bs (txtO 1 o).1)) ∧ FdIn w'' (s + 1) (txtO 1 o).2 ∧ Same (s + 1) w' w'' := fdText_any (s + 1) 1 o w' h' (by decide)
          rw [ht] at hc
          exact hc)
        have HCL : Hid (∀ w', Calls Tryz.prog 30 #[.string (bs t)] w' fun e w'' => e = .returned (.string (bs t)) ∧ Below w'.heap.size w' w'') := Lib.hid (fun w' => clone_any (bs t) w' (by omega))
        have Sd : Hid (RS w wr.drew s o I T f (.slice av nv cv) []) := Lib.hid (HS.out.keep ((Below.refl _ _).drew))
        have Od : Hid (wr.drew.ownsRow (s + 3) 9 1 (.slice av nv cv) k (textCells Ts)) := Lib.hid HO.out.drew
        have c3 : wr.drew.cell? ⟨s + 2, 3, none⟩ = some (.slice av nv cv) := (Sd.out.cellAt 3).1
        have c3' : wr.cell? ⟨s + 2, 3, none⟩ = some (.slice av nv cv) := (HS.out.cellAt 3).1
        clear ht
        go_wp2_with fail
        go_region_law (first
          | (refine step_append_lies _ (by rfl) _ _ _ (by rfl) (s + 3) 9 is _ 1 16 Tryz.underlying23 his hzs0 hzs1 hzs2 rfl (by decide) (.slice av nv cv) k (textCells Ts) (by rfl) (O10.out.alloc _) ⟨w10.heap.size, 0, none⟩ 1 1 [.string (bs t)] (by rfl) (by rfl) (World.news_of_block (cs := #[.string (bs t)]) (t := 9) (fr := (0, 0)) (heap_alloc_new w10 _)) (by simp [Value.oneCell']) (by decide) (by unfold maxLen; omega) (by omega) (by simp; omega) (w10.heap.size + 1) (by simp) ?_; intro ga capa w11 hown hgrow hat hlt11; have S11 := Lib.hid (S10.out.ofGrown O10.out ((Below.refl _ _).alloc (Nat.le_refl _) _) hgrow); have m11 : w11.cell? ⟨s + 2, 3, none⟩ = some (.slice av nv cv) := (S11.out.cellAt 3).1; have f11 := (S11.out.cellAt 3).2; have m12 : (w11.setCell ⟨s + 2, 3, none⟩ (.slice (some ⟨ga, 0, none⟩) (k + 1) capa)).cell? ⟨s + 2, 3, none⟩ = some (.slice (some ⟨ga, 0, none⟩) (k + 1) capa) := ((S11.out.set (u := .slice (some ⟨ga, 0, none⟩) (k + 1) capa) rfl).cellAt 3).1; have HOW := Lib.hid hown; clear hown hgrow hat)
          | (go_simp; go_at_call 96; refine (HTX.out _ Sd.out.fd).mono ?_; rintro e w9 ⟨rfl, h1, h2⟩; have S9 := Lib.hid (Sd.out.fdStep h2 h1); have O9 := Lib.hid (ownsRow_same Od.out h2 (by omega)); have c9 : w9.cell? ⟨s + 2, 3, none⟩ = some (.slice av nv cv) := (S9.out.cellAt 3).1; clear h1 h2; dsimp only)
          | (go_simp; go_at_call 30; refine (HCL.out _).mono ?_; rintro e w10 ⟨rfl, hb10⟩; have S10 := Lib.hid (S9.out.keep hb10); have O10 := Lib.hid (ownsRow_touch (Touch.below (ts := []) hb10) (by simp) O9.out); have c10 : w10.cell? ⟨s + 2, 3, none⟩ = some (.slice av nv cv) := (S10.out.cellAt 3).1; have z10 := S10.out.size; have c10' : ∀ o : Obj, (w10.alloc o).cell? ⟨s + 2, 3, none⟩ = some (.slice av nv cv) := (fun o => (((Below.refl w10.heap.size w10).alloc (Nat.le_refl _) o).cell (block_lt c10)).trans c10); clear hb10; dsimp only))
        all_goals
          have S12 := Lib.hid (S11.out.set (j := 3) (u := .slice (some ⟨ga, 0, none⟩) (k + 1) capa) (I' := I) (T' := T) (f' := f) (B' := []) (v' := .slice (some ⟨ga, 0, none⟩) (k + 1) capa) rfl)
          have O12 := Lib.hid (ownsRow_same HOW.out (show Same (s + 2) w11 (w11.setCell ⟨s + 2, 3, none⟩ (.slice (some ⟨ga, 0, none⟩) (k + 1) capa)) from (Same.refl _ _).setCell _) (by omega))
          clear m11 f11 m12 HOW S11
          go_wp2_with fail
          exact ⟨⟨k + 1, _, Ts ++ [t], o', by omega, by go_num, HNX, S12, Lib.hid (by rw [show textCells (Ts ++ [t]) = textCells Ts ++ [.string (bs t)] by simp [textCells]]; exact O12.out)⟩, by simp [intOf]; omega⟩
      · have hkN : k = N := by omega
        subst hkN
        have hTl : Ts.length = k := by have := txtsO_len k o4; rw [HTS.out] at this; exact this
        have hTt : ∀ t ∈ Ts, t.length < 256 := by have := txtsO_lt k o4; rw [HTS.out] at this; exact this
        have HTL := Lib.hid hTl
        have HTT := Lib.hid hTt
        obtain ⟨D, o6, hD⟩ : ∃ D o6, txtO 2 o = (D, o6) := ⟨_, _, rfl⟩
        have hDl : D.length ≤ 65535 := by have := txtO_lt 2 o; rw [hD] at this; simp at this; omega
        have HMS : Hid (mailS r = if o6 = some [] then some ⟨I, T, f, Ts, D⟩ else none) := Lib.hid (mail_steps r HI.out HT.out HF.out HN.out HTS.out hD)
        have hc : Calls Tryz.prog 96 #[.pointer (some ⟨s + 1, 0, none⟩), .int .i64 2] wr fun e w' => e = .returned (.string (bs (txtO 2 o).1)) ∧ FdIn w' (s + 1) (txtO 2 o).2 ∧ Same (s + 1) wr w' := fdText_any (s + 1) 2 o wr HS.out.fd (by decide)
        rw [hD] at hc
        have HC := Lib.hid hc
        have sD := bs_size D
        clear hc hD hTl hTt
        go_wp2_with fail
        refine HC.out.mono ?_
        rintro e w8 ⟨rfl, h1, h2⟩
        have HS8 := Lib.hid (HS.out.fdStep h2 h1)
        have HO8 := Lib.hid (ownsRow_same HO.out h2 (by omega))
        have HCL := Lib.hid (clone_any (bs D) w8 (by omega))
        clear h1 h2 HC HS HO
        go_wp2_with fail
        refine HCL.out.mono ?_
        rintro e w9 ⟨rfl, hb9⟩
        have S9 := HS8.out.keep hb9
        have O9 := ownsRow_touch (Touch.below (ts := []) hb9) (by simp) HO8.out
        obtain ⟨c4, f4⟩ := S9.cellAt 4
        have k0 : w9.cell? ⟨s + 2, 0, none⟩ = some (.int .i64 I) := (S9.cellAt 0).1
        have k1 : w9.cell? ⟨s + 2, 1, none⟩ = some (.int .i64 T) := (S9.cellAt 1).1
        have k2 : w9.cell? ⟨s + 2, 2, none⟩ = some (.string (bs f)) := (S9.cellAt 2).1
        have k3 : w9.cell? ⟨s + 2, 3, none⟩ = some (.slice av nv cv) := (S9.cellAt 3).1
        have S9' : RS w (w9.setCell ⟨s + 2, 4, none⟩ (.string (bs D))) s o6 I T f (.slice av nv cv) D := S9.set rfl
        have O9' : (w9.setCell ⟨s + 2, 4, none⟩ (.string (bs D))).ownsRow (s + 3) 9 1 (.slice av nv cv) k (textCells Ts) := ownsRow_same O9 (show Same (s + 2) w9 _ from (Same.refl _ _).setCell _) (by omega)
        obtain ⟨W9, hW9⟩ : ∃ W9 : World, w9.setCell ⟨s + 2, 4, none⟩ (.string (bs D)) = W9 := ⟨_, rfl⟩
        rw [hW9] at S9' O9'
        have HS9 := Lib.hid S9'
        have HO9 := Lib.hid O9'
        have HW9 := Lib.hid hW9
        have HDN := Lib.hid (fdDone_any (s + 1) o6 W9 S9'.fd)
        clear hb9 S9 O9 S9' O9' hW9 HCL HS8 HO8
        go_wp2_with fail
        rw [HW9.out]
        refine HDN.out.mono ?_
        rintro e w10 ⟨rfl, rfl⟩
        cases hq : decide (o6 = some []) with
        | false =>
          have HRN : Hid (readMailS l = none) := Lib.hid (by rw [HRM.out, HMS.out, if_neg (by simpa using hq)]; rfl)
          have r0 : W9.cell? ⟨s, 0, none⟩ = some (.int .i64 0) := (HS9.out.res.cell 0).1
          have g0 := (HS9.out.res.cell 0).2
          have r1 : W9.cell? ⟨s, 1, none⟩ = some (.int .i64 0) := (HS9.out.res.cell 1).1
          have g1 := (HS9.out.res.cell 1).2
          have r2 : W9.cell? ⟨s, 2, none⟩ = some (.string ⟨#[]⟩) := (HS9.out.res.cell 2).1
          have g2 := (HS9.out.res.cell 2).2
          have r3 : W9.cell? ⟨s, 3, none⟩ = some (.slice none 0 0) := (HS9.out.res.cell 3).1
          have g3 := (HS9.out.res.cell 3).2
          have r4 : W9.cell? ⟨s, 4, none⟩ = some (.string ⟨#[]⟩) := (HS9.out.res.cell 4).1
          have g4 := (HS9.out.res.cell 4).2
          have HB9 := Lib.hid HS9.out.below
          clear HS9 HO9 HW9 HDN k0 k1 k2 k3 c4 f4 HRM HMS hq
          go_wp2_with fail
          refine bodyPost_ret (v := .tuple #[.agg (mailCells noMail (.slice none 0 0)), .bool false]) (by simp [results, Tryz.results59, go_sem, noMail, mailCells, bs, *]) rfl ?_
          refine ⟨.inl ⟨HRN.out, rfl⟩, ?_⟩
          rw [HSS.out]
          exact ((((HB9.out.setCell (Nat.le_refl _) _).setCell (Nat.le_refl _) _).setCell (Nat.le_refl _) _).setCell (Nat.le_refl _) _).setCell (Nat.le_refl _) _
        | true =>
          have hzm : MailSz ⟨I, T, f, Ts, D⟩ := ⟨hI4, hT4, hfl, by show Ts.length ≤ 255; have := HTL.out; omega, fun x hx => by have := HTT.out x hx; omega, by show D.length ≤ 1048576; omega⟩
          have hTk : (⟨I, T, f, Ts, D⟩ : PMail).tos.length = k := HTL.out
          have hrow : RowAt W9 (.slice av nv cv) (⟨I, T, f, Ts, D⟩ : PMail).tos.length 1 (textCells (⟨I, T, f, Ts, D⟩ : PMail).tos) := by rw [hTk]; exact row_of_own HO9.out
          have hm9 : W9.cell? ⟨0, 0, none⟩ = some (.int .i64 m) := (HS9.out.below.cell (by rw [← HSS.out]; exact block_lt hm)).trans hm
          have HMM := Lib.hid (mailMay_any ⟨I, T, f, Ts, D⟩ (.slice av nv cv) m W9 hrow hzm hm9)
          have HRS : Hid (readMailS l = if mailMayB ⟨I, T, f, Ts, D⟩ then some ⟨I, T, f, Ts, D⟩ else none) := Lib.hid (by rw [HRM.out, HMS.out, if_pos (by simpa using hq)]; rfl)
          have q0 : W9.cell? ⟨s + 2, 0, none⟩ = some (.int .i64 I) := (HS9.out.cellAt 0).1
          have q1 : W9.cell? ⟨s + 2, 1, none⟩ = some (.int .i64 T) := (HS9.out.cellAt 1).1
          have q2 : W9.cell? ⟨s + 2, 2, none⟩ = some (.string (bs f)) := (HS9.out.cellAt 2).1
          have q3 : W9.cell? ⟨s + 2, 3, none⟩ = some (.slice av nv cv) := (HS9.out.cellAt 3).1
          have q4 : W9.cell? ⟨s + 2, 4, none⟩ = some (.string (bs D)) := (HS9.out.cellAt 4).1
          have HZM := Lib.hid hzm
          have HTK := Lib.hid hTk
          simp only [mailCells] at HMM
          clear hzm hTk hrow hm9 HW9 HDN k0 k1 k2 k3 c4 f4 HRM HMS hq
          cases hM : mailMayB ⟨I, T, f, Ts, D⟩ with
          | false =>
            have HRN : Hid (readMailS l = none) := Lib.hid (by rw [HRS.out, hM]; rfl)
            rw [hM] at HMM
            clear hM HRS
            go_wp2_with fail
            refine HMM.out.mono ?_
            rintro e w11 ⟨rfl, hb11⟩
            have S11 := HS9.out.keep hb11
            have r0 : w11.cell? ⟨s, 0, none⟩ = some (.int .i64 0) := (S11.res.cell 0).1
            have g0 := (S11.res.cell 0).2
            have r1 : w11.cell? ⟨s, 1, none⟩ = some (.int .i64 0) := (S11.res.cell 1).1
            have g1 := (S11.res.cell 1).2
            have r2 : w11.cell? ⟨s, 2, none⟩ = some (.string ⟨#[]⟩) := (S11.res.cell 2).1
            have g2 := (S11.res.cell 2).2
            have r3 : w11.cell? ⟨s, 3, none⟩ = some (.slice none 0 0) := (S11.res.cell 3).1
            have g3 := (S11.res.cell 3).2
            have r4 : w11.cell? ⟨s, 4, none⟩ = some (.string ⟨#[]⟩) := (S11.res.cell 4).1
            have g4 := (S11.res.cell 4).2
            have HB11 := Lib.hid S11.below
            clear S11 hb11 HS9 HO9 HMM q0 q1 q2 q3 q4
            go_wp2_with fail
            refine bodyPost_ret (v := .tuple #[.agg (mailCells noMail (.slice none 0 0)), .bool false]) (by simp [results, Tryz.results59, go_sem, noMail, mailCells, bs, *]) rfl ?_
            refine ⟨.inl ⟨HRN.out, rfl⟩, ?_⟩
            rw [HSS.out]
            exact ((((HB11.out.setCell (Nat.le_refl _) _).setCell (Nat.le_refl _) _).setCell (Nat.le_refl _) _).setCell (Nat.le_refl _) _).setCell (Nat.le_refl _) _
          | true =>
            have HRN : Hid (readMailS l = some ⟨I, T, f, Ts, D⟩) := Lib.hid (by rw [HRS.out, hM]; rfl)
            rw [hM] at HMM
            clear hM HRS
            go_wp2_with fail
            refine HMM.out.mono ?_
            rintro e w11 ⟨rfl, hb11⟩
            have S11 := HS9.out.keep hb11
            have O11 := ownsRow_touch (Touch.below (ts := []) hb11) (by simp) HO9.out
            have r0 : w11.cell? ⟨s, 0, none⟩ = some (.int .i64 0) := (S11.res.cell 0).1
            have g0 := (S11.res.cell 0).2
            have r1 : w11.cell? ⟨s, 1, none⟩ = some (.int .i64 0) := (S11.res.cell 1).1
            have g1 := (S11.res.cell 1).2
            have r2 : w11.cell? ⟨s, 2, none⟩ = some (.string ⟨#[]⟩) := (S11.res.cell 2).1
            have g2 := (S11.res.cell 2).2
            have r3 : w11.cell? ⟨s, 3, none⟩ = some (.slice none 0 0) := (S11.res.cell 3).1
            have g3 := (S11.res.cell 3).2
            have r4 : w11.cell? ⟨s, 4, none⟩ = some (.string ⟨#[]⟩) := (S11.res.cell 4).1
            have g4 := (S11.res.cell 4).2
            have p0 : w11.cell? ⟨s + 2, 0, none⟩ = some (.int .i64 I) := (S11.cellAt 0).1
            have p1 : w11.cell? ⟨s + 2, 1, none⟩ = some (.int .i64 T) := (S11.cellAt 1).1
            have p2 : w11.cell? ⟨s + 2, 2, none⟩ = some (.string (bs f)) := (S11.cellAt 2).1
            have p3 : w11.cell? ⟨s + 2, 3, none⟩ = some (.slice av nv cv) := (S11.cellAt 3).1
            have p4 : w11.cell? ⟨s + 2, 4, none⟩ = some (.string (bs D)) := (S11.cellAt 4).1
            have HB11 := Lib.hid S11.below
            have HO11 := Lib.hid O11
            have HX11 := Lib.hid S11.res
            clear S11 O11 hb11 HS9 HO9 HMM q0 q1 q2 q3 q4
            go_wp2_with fail
            refine bodyPost_ret (v := .tuple #[.agg (mailCells ⟨I, T, f, Ts, D⟩ (.slice av nv cv)), .bool true]) (by simp [results, Tryz.results59, go_sem, mailCells, *]) rfl ?_
            refine ⟨.inr ⟨⟨I, T, f, Ts, D⟩, .slice av nv cv, HRN.out, rfl, ?_, HZM.out⟩, ?_⟩
            · rw [HSS.out, HTK.out]
              refine World.ownsRow.mono (base := s + 3) ?_ (by omega)
              have hS : ∀ (u : World) (j : Nat) (x : Value), u.ownsRow (s + 3) 9 1 (.slice av nv cv) k (textCells Ts) → (u.setCell ⟨s, j, none⟩ x).ownsRow (s + 3) 9 1 (.slice av nv cv) k (textCells Ts) := fun u j x h => ownsRow_same h (show Same s u _ from (Same.refl _ _).setCell _) (by omega)
              exact hS _ _ _ (hS _ _ _ (hS _ _ _ (hS _ _ _ (hS _ _ _ HO11.out))))
            · rw [HSS.out]
              exact ((((HB11.out.setCell (Nat.le_refl _) _).setCell (Nat.le_refl _) _).setCell (Nat.le_refl _) _).setCell (Nat.le_refl _) _).setCell (Nat.le_refl _) _
  · have HRM : Hid (readMailS l = none) := Lib.hid (by
      cases l with
      | nil => rfl
      | cons c r =>
        have hc : ¬ c = 77 := fun e => h77 (by rw [e]; rfl)
        unfold readMailS
        simp only
        rw [if_neg hc])
    have m1 : ((bs (outS ((some l).bind (bytesS 1)))).toList == [77]) = false := by
      rw [eq_lit]
      cases l with
      | nil => rfl
      | cons c r =>
        have hc : ¬ c = 77 := fun e => h77 (by rw [e]; rfl)
        show ([c] == [77]) = false
        simpa using hc
    obtain ⟨t, et⟩ : ∃ t, outS ((some l).bind (bytesS 1)) = t := ⟨_, rfl⟩
    rw [et] at m1 HC0
    clear h77 et
    go_enter Tryz.func59, Tryz.ntmps59
    go_wp2_with fail
    rw [HW0.out]
    refine HC0.out.mono ?_
    rintro e w1 ⟨rfl, h1, h2⟩
    have R1 := HR0.out.same h2 (by omega)
    have k0 : w1.cell? ⟨s, 0, none⟩ = some (.int .i64 0) := (R1.cell 0).1
    have k1 : w1.cell? ⟨s, 1, none⟩ = some (.int .i64 0) := (R1.cell 1).1
    have k2 : w1.cell? ⟨s, 2, none⟩ = some (.string ⟨#[]⟩) := (R1.cell 2).1
    have k3 : w1.cell? ⟨s, 3, none⟩ = some (.slice none 0 0) := (R1.cell 3).1
    have k4 : w1.cell? ⟨s, 4, none⟩ = some (.string ⟨#[]⟩) := (R1.cell 4).1
    have f0 := (R1.cell 0).2
    have f1 := (R1.cell 1).2
    have f2 := (R1.cell 2).2
    have f3 := (R1.cell 3).2
    have f4 := (R1.cell 4).2
    have HB1 := Lib.hid (HB0.out.trans (h2.below (by omega)))
    clear h1 h2 R1 HC0 HR0 HB0
    go_wp2_with fail
    refine bodyPost_ret (v := .tuple #[.agg (mailCells noMail (.slice none 0 0)), .bool false]) (by simp [results, Tryz.results59, go_sem, noMail, mailCells, bs, *]) rfl ?_
    refine ⟨.inl ⟨HRM.out, rfl⟩, ?_⟩
    rw [HSS.out]
    exact ((((HB1.out.setCell (Nat.le_refl _) _).setCell (Nat.le_refl _) _).setCell (Nat.le_refl _) _).setCell (Nat.le_refl _) _).setCell (Nat.le_refl _) _
end Go.Proofs.YtadcidbeealdpaaGreatDoor

/- The program's sum. -/
namespace Go.Proofs.YtadcidbeealdpaaGreatDoor
open Go.RowKit

theorem ret_u32 {a b : Int} (h : a = b) : Ending.returned (.int .u32 a) = .returned (.int .u32 b) := by rw [h]

set_option maxHeartbeats 400000 in
set_option maxRecDepth 100000 in
theorem reverseBytes_at (w : World) : Calls Tryz.prog 134 #[.int .u32 545503469] w fun e w' => e = .returned (.int .u32 3988292384) ∧ w = w' := by
  go_enter Tryz.func134, Tryz.ntmps134
  go_wp2_with fail
  go_ret
  exact ⟨ret_u32 (by decide +kernel), rfl⟩
set_option maxHeartbeats 400000 in
set_option maxRecDepth 100000 in
theorem reverse_at (w : World) : Calls Tryz.prog 95 #[.int .u32 79764919] w fun e w' => e = .returned (.int .u32 3988292384) ∧ w = w' := by
  have key : ∀ (E : Int) (Q : Ending → World → Prop), E = 545503469 → (∀ e w', e = .returned (.int .u32 3988292384) ∧ w = w' → Q e w') → Calls Tryz.prog 134 #[.int .u32 E] w Q := fun E Q hE h => by
    subst hE; exact (reverseBytes_at w).mono h
  go_enter Tryz.func95, Tryz.ntmps95
  go_wp2_with fail
  refine key _ _ (by decide +kernel) ?_
  rintro e w' ⟨rfl, rfl⟩
  go_wp2_with fail
  go_ret
  exact ⟨rfl, rfl⟩

theorem crcBit_u32 {D : Nat} (h : D < 2 ^ 32) : bits .xor .u32 ((D : Int) / 2) (bits .and .u32 (D : Int) 1 * 3988292384 % 4294967296) = ((crcBit D : Nat) : Int) := by
  have e1 : bits .and .u32 (D : Int) 1 = ((D % 2 : Nat) : Int) := by
    rw [show (1 : Int) = ((1 : Nat) : Int) from rfl, (bits_nat .u32 32 (by decide) wraps_u32 D 1 h (by decide)).1, Nat.and_one_is_mod]
  have e2 : ((D : Int) / 2) = ((D / 2 : Nat) : Int) := by omega
  rw [e1, e2]
  have e3 : (((D % 2 : Nat) : Int) * 3988292384 % 4294967296) = (((if D % 2 = 1 then poly else 0) : Nat) : Int) := by
    unfold poly
    split <;> omega
  rw [e3, bits_xor_nat .u32 32 (by decide) wraps_u32 _ _ (by omega) (by split <;> decide)]
  rfl
theorem not_u32 {C : Nat} (h : C < 2 ^ 32) : bits .xor .u32 4294967295 (C : Int) = ((4294967295 - C : Nat) : Int) := by
  rw [show (4294967295 : Int) = ((4294967295 : Nat) : Int) from rfl, bits_xor_nat .u32 32 (by decide) wraps_u32 _ _ (by decide) h]
  congr 1
  have := BitVec.toNat_not (x := BitVec.ofNat 32 C)
  have e : (BitVec.ofNat 32 C).toNat = C := by rw [BitVec.toNat_ofNat]; exact Nat.mod_eq_of_lt h
  rw [e] at this
  have x : ~~~(BitVec.ofNat 32 C) = BitVec.allOnes 32 ^^^ BitVec.ofNat 32 C := by
    rw [BitVec.allOnes_xor]
  rw [x, BitVec.toNat_xor, e] at this
  simpa using this
set_option maxHeartbeats 400000 in
set_option maxRecDepth 100000 in
theorem recSum_any (s : ByteArray) (w : World) (hs : s.size ≤ maxLen) : Calls Tryz.prog 58 #[.string s] w fun e w' => e = .returned (.int .u32 (crc s.data.toList)) ∧ w = w' := by
  unfold maxLen at hs
  go_enter Tryz.func58, Tryz.ntmps58
  go_wp2_with fail
  refine (reverse_at _).mono ?_
  rintro e w' ⟨rfl, rfl⟩
  go_wp2_with fail
  go_loop [4, 10] (fun c i => ∃ k C : Nat, k ≤ s.size ∧ i = .int .i64 k ∧ c = .int .u32 C ∧ Hid (C < 2 ^ 32) ∧ Hid (C = crcOn 4294967295 (s.data.toList.take k))) (fun _ i => s.size - (intOf i).toNat)
  case atStart => exact ⟨0, 4294967295, Nat.zero_le _, rfl, rfl, Lib.hid (by decide), rfl⟩
  case round =>
    obtain ⟨k, C, hk, rfl, rfl, HL, HC⟩ := hrel
    by_cases hlt : k < s.size
    · go_wp2_with fail
      go_loop [4, 19] (fun c i => ∃ j D : Nat, j ≤ 8 ∧ i = .int .i64 j ∧ c = .int .u32 D ∧ Hid (D = crcBits j (C ^^^ s[k].toNat))) (fun _ i => 8 - (intOf i).toNat)
      case atStart =>
        refine ⟨0, C ^^^ s[k].toNat, by omega, rfl, ?_, rfl⟩
        have hb := s[k].toNat_lt
        rw [show ((s[k].toNat : Int) % 4294967296) = ((s[k].toNat : Nat) : Int) by omega, bits_xor_nat .u32 32 (by decide) wraps_u32 _ _ HL.out (by omega)]
      case round =>
        obtain ⟨j, D, hj, rfl, rfl, HD⟩ := hrel
        have HDL : Hid (D < 2 ^ 32) := Lib.hid (by rw [HD.out]; exact crcBits_lt j (Nat.xor_lt_two_pow HL.out (by have := s[k].toNat_lt; omega)))
        by_cases hj8 : j < 8
        · go_wp2_with fail
          refine ⟨⟨j + 1, crcBit D, by omega, by go_num, ?_, Lib.hid (by rw [HD.out, crcBits_succ])⟩, by simp [intOf]; omega⟩
          rw [crcBit_u32 HDL.out]
        · have hj9 : j = 8 := by omega
          subst hj9
          go_wp2_with fail
          refine ⟨⟨k + 1, D, by omega, by go_num, rfl, HDL, Lib.hid ?_⟩, by simp [intOf]; omega⟩
          rw [HD.out, HC.out, crcOn_take _ _ k (by simpa using hlt), crcByte_eq]
          rfl
    · have hk9 : k = s.size := by omega
      subst hk9
      have hL := HL.out
      have hcrc : crc s.data.toList = 4294967295 - C := by
        unfold crc; rw [HC.out, List.take_of_length_le (by simp)]
      have hnot := not_u32 hL
      clear HL HC
      go_wp2_with fail
      go_ret
      refine ⟨ret_u32 ?_, rfl⟩
      rw [show IntKind.u32.max = 4294967295 from rfl]
      exact hnot
end Go.Proofs.YtadcidbeealdpaaGreatDoor

/- The program's Cut: one record off the front. -/
namespace Go.Proofs.YtadcidbeealdpaaGreatDoor
open Go.RowKit

/-- one record off the front: its content, and what stands behind -/
def cutS (l : List UInt8) : Option (List UInt8 × List UInt8) :=
  (numS 4 l).bind fun a => (numS 4 a.2).bind fun b => (bytesS a.1 b.2).bind fun c => if crc c.1 = b.1 then some c else none
def CutRet (o : Option (List UInt8 × List UInt8)) : Value :=
  match o with
  | some c => .tuple #[.string (bs c.1), .string (bs c.2), .bool true]
  | none => .tuple #[.string (bs []), .string (bs []), .bool false]
theorem fd_some {w : World} {b : Nat} {o : Option (List UInt8)} {l : List UInt8} (h : FdIn w b o) (e : o = some l) : w.cell? ⟨b, 0, none⟩ = some (.string (bs l)) ∧ w.cell? ⟨b, 1, none⟩ = some (.bool false) := by
  subst e
  exact ⟨by rw [Lib.cell_of_heap h.1]; rfl, by rw [Lib.cell_of_heap h.1]; rfl⟩
theorem fd_none {w : World} {b : Nat} {o : Option (List UInt8)} (h : FdIn w b o) (e : o = none) : w.cell? ⟨b, 1, none⟩ = some (.bool true) := by
  subst e
  obtain ⟨l, h⟩ := h
  rw [Lib.cell_of_heap h]; rfl
theorem touch_same {w a c : World} (h1 : Touch [] w a) (h2 : Same w.heap.size a c) : Touch [] w c :=
  ⟨by rw [h2.1]; exact h1.1, fun k o e n => by
    rw [h2.2 k (by have := heap_lt e; omega)]; exact h1.2 k o e n, h1.3.trans h2.3⟩
theorem cut_steps (l : List UInt8) {o1 o2 o3 : Option (List UInt8)} {N1 N2 : Nat} {C : List UInt8}
    (h1 : ((some l).bind (bytesS 4)).map (·.2) = o1) (n1 : be (outS ((some l).bind (bytesS 4))) = N1) (h2 : (o1.bind (bytesS 4)).map (·.2) = o2) (n2 : be (outS (o1.bind (bytesS 4))) = N2) (h3 : (o2.bind (bytesS N1)).map (·.2) = o3) (c3 : outS (o2.bind (bytesS N1)) = C) :
    cutS l = o3.bind fun r => if crc C = N2 then some (C, r) else none := by
  obtain ⟨a1, a2⟩ := number_two 4 (some l)
  rw [a1] at h1
  rw [a2] at n1
  obtain ⟨b1, b2⟩ := number_two 4 o1
  rw [b1] at h2
  rw [b2] at n2
  have ec : cutS l = (numS 4 l).bind fun a => (numS 4 a.2).bind fun b => (bytesS a.1 b.2).bind fun c => if crc c.1 = b.1 then some c else none := rfl
  have e1 : (some l).bind (numS 4) = numS 4 l := rfl
  rw [e1] at h1 n1
  cases x : numS 4 l with
  | none =>
    rw [x] at h1 ec
    subst h1 h2 h3
    rw [ec]; rfl
  | some a =>
    rw [x] at h1 n1 ec
    subst h1 n1
    have e2 : ((some a).map (·.2)).bind (numS 4) = numS 4 a.2 := rfl
    rw [e2] at h2 n2
    have ec2 : cutS l = (numS 4 a.2).bind fun b => (bytesS a.1 b.2).bind fun c => if crc c.1 = b.1 then some c else none := ec
    cases y : numS 4 a.2 with
    | none =>
      rw [y] at h2 ec2
      subst h2 h3
      rw [ec2]; rfl
    | some b =>
      rw [y] at h2 n2 ec2
      subst h2 n2
      have e3 : ((some b).map (·.2)).bind (bytesS (((some a).map (·.1)).getD 0)) = bytesS a.1 b.2 := rfl
      rw [e3] at h3 c3
      have ec3 : cutS l = (bytesS a.1 b.2).bind fun c => if crc c.1 = b.1 then some c else none := ec2
      cases z : bytesS a.1 b.2 with
      | none =>
        rw [z] at h3 ec3
        subst h3
        rw [ec3]; rfl
      | some c =>
        rw [z] at h3 c3 ec3
        subst h3 c3
        rw [ec3]; rfl

set_option maxHeartbeats 400000 in
set_option maxRecDepth 100000 in
theorem recCut_any (l : List UInt8) (w : World) (hl : l.length ≤ maxLen) :
    Calls Tryz.prog 35 #[.string (bs l)] w fun e w' => e = .returned (CutRet (cutS l)) ∧ Touch [] w w' := by
  obtain ⟨W0, hW0⟩ : ∃ W0 : World, w.alloc (.cells #[.string (bs l), .bool false] 131) = W0 := ⟨_, rfl⟩
  have HF0 : Hid (FdIn W0 w.heap.size (some l)) := Lib.hid ⟨by rw [← hW0]; exact heap_alloc_new w _, hl⟩
  have T0 : Hid (Touch [] w W0) := Lib.hid (by rw [← hW0]; exact (Touch.refl _ w).alloc _)
  have HW0 := Lib.hid hW0
  clear hW0
  have b4 : ∀ o : Option (List UInt8), be (outS (o.bind (bytesS 4))) ≤ 4294967295 := fun o => by
    have hlen : (outS (o.bind (bytesS 4))).length ≤ 4 := by
      cases e : o.bind (bytesS 4) with
      | none => simp [outS]
      | some x =>
        obtain ⟨l, h1, h2⟩ := bind_some' e
        obtain ⟨y, r⟩ := x
        have := (bytesS_dec h2).2.2.2
        show y.length ≤ 4
        omega
    have := be_four hlen
    omega
  obtain ⟨o1, e1⟩ : ∃ o1, ((some l).bind (bytesS 4)).map (·.2) = o1 := ⟨_, rfl⟩
  obtain ⟨N1, n1⟩ : ∃ N1, be (outS ((some l).bind (bytesS 4))) = N1 := ⟨_, rfl⟩
  obtain ⟨o2, e2⟩ : ∃ o2, (o1.bind (bytesS 4)).map (·.2) = o2 := ⟨_, rfl⟩
  obtain ⟨N2, n2⟩ : ∃ N2, be (outS (o1.bind (bytesS 4))) = N2 := ⟨_, rfl⟩
  obtain ⟨o3, e3⟩ : ∃ o3, (o2.bind (bytesS N1)).map (·.2) = o3 := ⟨_, rfl⟩
  obtain ⟨C, c3⟩ : ∃ C, outS (o2.bind (bytesS N1)) = C := ⟨_, rfl⟩
  have HC := Lib.hid (cut_steps l e1 n1 e2 n2 e3 c3)
  have hN1 : N1 ≤ 4294967295 := by rw [← n1]; exact b4 _
  have hN2 : N2 ≤ 4294967295 := by rw [← n2]; exact b4 _
  have hCl : C.length ≤ 4294967295 := by
    rw [← c3]
    cases e : o2.bind (bytesS N1) with
    | none => simp [outS]
    | some x =>
      obtain ⟨l, h1, h2⟩ := bind_some' e
      obtain ⟨y, r⟩ := x
      have := (bytesS_dec h2).2.2.2
      show y.length ≤ _
      omega
  have hc1 := fdNumber_any w.heap.size 4 (some l) W0 HF0.out (by decide)
  have hc2 := fun w' h' => fdNumber_any w.heap.size 4 o1 w' h' (by decide)
  have hc3 := fun w' h' => fdBytes_any w.heap.size N1 o2 w' h' (by unfold maxLen; omega)
  have hc4 := fun w' => recSum_any (bs C) w' (by rw [bs_size]; unfold maxLen; omega)
  rw [e1, n1] at hc1
  rw [e2, n2] at hc2
  rw [e3, c3] at hc3
  rw [bs_toList] at hc4
  have hcr : crc C ≤ 4294967295 := by unfold crc; omega
  obtain ⟨Q, hQ⟩ : ∃ Q, crc C = Q := ⟨_, rfl⟩
  rw [hQ] at hc4 hcr HC
  have HC2 := Lib.hid hc2
  have HC3 := Lib.hid hc3
  have HC4 := Lib.hid hc4
  have sC := bs_size C
  clear e1 n1 e2 n2 e3 c3 hc2 hc3 hc4 hQ b4
  go_enter Tryz.func35, Tryz.ntmps35
  go_wp2_with fail
  rw [HW0.out]
  refine hc1.mono ?_
  rintro e w1 ⟨rfl, h1, h2⟩
  have F1 := Lib.hid h1
  have T1 := Lib.hid (touch_same T0.out h2)
  clear hc1 h1 h2
  go_wp2_with fail
  refine (HC2.out _ F1.out).mono ?_
  rintro e w2 ⟨rfl, h1, h2⟩
  have F2 := Lib.hid h1
  have T2 := Lib.hid (touch_same T1.out h2)
  clear h1 h2
  go_wp2_with fail
  refine (HC3.out _ F2.out).mono ?_
  rintro e w3 ⟨rfl, h1, h2⟩
  have F3 := Lib.hid h1
  have T3 := Lib.hid (touch_same T2.out h2)
  clear h1 h2
  cases o3 with
  | none =>
    have c1 := fd_none F3.out rfl
    have HE : Hid (CutRet (cutS l) = .tuple #[.string (bs []), .string (bs []), .bool false]) := Lib.hid (by rw [HC.out]; rfl)
    go_wp2_with fail
    go_ret3
    exact ⟨by rw [HE.out]; rfl, T3.out⟩
  | some r =>
    obtain ⟨c0, c1⟩ := fd_some F3.out rfl
    go_wp2_with fail
    refine (HC4.out _).mono ?_
    rintro e w4 ⟨rfl, rfl⟩
    go_wp2_with fail
    · rename_i h
      have hne : ¬ Q = N2 := by simp at h; omega
      have HE : Hid (CutRet (cutS l) = .tuple #[.string (bs []), .string (bs []), .bool false]) := Lib.hid (by
        rw [HC.out]
        show CutRet (if Q = N2 then some (C, r) else none) = _
        rw [if_neg hne]; rfl)
      go_ret3
      exact ⟨by rw [HE.out]; rfl, T3.out⟩
    · have h : ((Q : Int) != (N2 : Int)) = false := by assumption
      have he : Q = N2 := by simp at h; omega
      have HE : Hid (CutRet (cutS l) = .tuple #[.string (bs C), .string (bs r), .bool true]) := Lib.hid (by
        rw [HC.out]
        show CutRet (if Q = N2 then some (C, r) else none) = _
        rw [if_pos he]; rfl)
      clear h he
      go_quiet (fail)
      go_wp2_with fail
      go_ret3
      exact ⟨by rw [HE.out]; rfl, T3.out.drewN _⟩
end Go.Proofs.YtadcidbeealdpaaGreatDoor
