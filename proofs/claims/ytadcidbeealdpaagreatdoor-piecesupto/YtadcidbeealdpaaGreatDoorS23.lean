import Derived.Test.YtadcidbeealdpaaGreatDoorS22
import Derived.Test.YtadcidbeealdpaaGreatDoorS08
import Derived.Lib.SlBytesConst
import Derived.BigQuiet
import Derived.Deep.RegionLaw
import Derived.Test.YtadcidbeealdpaaGreatDoorS20
import Derived.Test.YtadcidbeealdpaaGreatDoorS21

/- What is written: a mail. -/
namespace Go.Proofs.YtadcidbeealdpaaGreatDoor
open Go.RowKit

theorem below_of_chg {A : Nat → Prop} {B : Nat} {a b : World} (h : Chg A a b) (hA : ∀ k, A k → B ≤ k) (hB : B ≤ a.heap.size) : Below B a b :=
  ⟨h.still.1, h.still.2.1, h.still.2.2, h.size, fun k hk => h.block k (by omega) (fun e => by have := hA k e; omega)⟩
theorem below_bytesW {W : World} {e : TypeId} {x : ByteArray} : Below W.heap.size W (Lib.bytesWorld W e x) :=
  ⟨by simp [Lib.bytesWorld, World.freeze, World.alloc, World.drew, -World.alloc_eq, -World.drew_eq], by simp [Lib.bytesWorld, World.freeze, World.alloc, World.drew, -World.alloc_eq, -World.drew_eq], by simp [Lib.bytesWorld, World.freeze, World.alloc, World.drew, -World.alloc_eq, -World.drew_eq], by rw [Lib.bytesWorld_size]; omega, fun k hk => Lib.bytesWorld_at_old W e x k hk⟩
/-- bytes that are being written, in memory of their own -/
structure WR (B : Nat) (w w' : World) (v : Value) (acc : List UInt8) : Prop where
  row : RowM w' v acc
  own : ∀ k, v.ownBlock = some k → B ≤ k
  below : Below B w w'
theorem WR.le {B : Nat} {w w' : World} {v : Value} {acc : List UInt8} (h : WR B w w' v acc) (hB : B ≤ w.heap.size) : B ≤ w'.heap.size := Nat.le_trans hB h.below.size
theorem WR.step {B : Nat} {w w' w'' : World} {v v' : Value} {acc acc' : List UInt8} (h : WR B w w' v acc) (hB : B ≤ w.heap.size) (hr : RowM w'' v' acc') (hk : Chg (fun k => v.ownBlock = some k) w' w'') (ho : ∀ k, v'.ownBlock = some k → v.ownBlock = some k ∨ w'.heap.size ≤ k) : WR B w w'' v' acc' :=
  ⟨hr, fun k e => (ho k e).elim (h.own k) (fun e => Nat.le_trans (h.le hB) e), h.below.trans (below_of_chg hk h.own (h.le hB))⟩

theorem textsE_len (l : List (List UInt8)) (h : ∀ t ∈ l, t.length ≤ 255) : (textsE l).length ≤ 256 * l.length := by
  induction l with
  | nil => simp [textsE]
  | cons t l ih =>
    have h1 := ih (fun x hx => h x (List.mem_cons_of_mem _ hx))
    have h2 := h t (List.mem_cons_self ..)
    have e : textsE (t :: l) = textE t ++ textsE l := by simp [textsE]
    rw [e, List.length_append, textE, List.length_append, beBytes_len, List.length_cons]
    omega

set_option maxHeartbeats 2000000 in
set_option maxRecDepth 100000 in
theorem writeMail_any (id time : Nat) (frm : List UInt8) (tos : List (List UInt8)) (body : List UInt8) (v : Value) (w : World) (h : RowAt w v tos.length 1 (textCells tos)) (hz : MailSz ⟨id, time, frm, tos, body⟩) :
    Calls Tryz.prog 153 #[.agg #[.int .i64 id, .int .i64 time, .string (bs frm), v, .string (bs body)]] w fun e w' => e = .returned (.string (bs (mailE ⟨id, time, frm, tos, body⟩))) ∧ Below w.heap.size w w' := by
  obtain ⟨z1, z2, z3, z4, z5, z6⟩ := hz
  simp only at z1 z2 z3 z4 z5 z6
  obtain ⟨av, cv, rfl, hcell⟩ := h.one
  have HV := Lib.hid hcell
  have HZ5 := Lib.hid z5
  obtain ⟨W0, hW0⟩ : ∃ W0 : World, w.alloc (.cells #[.int .i64 id, .int .i64 time, .string (bs frm), .slice av tos.length cv, .string (bs body)] 54) = W0 := ⟨_, rfl⟩
  have B0 : Below w.heap.size w W0 := by rw [← hW0]; exact (Below.refl _ _).alloc (Nat.le_refl _) _
  have X0 : W0.heap[w.heap.size]? = some (.cells #[.int .i64 id, .int .i64 time, .string (bs frm), .slice av tos.length cv, .string (bs body)] 54 (0, 0)) := by rw [← hW0]; exact heap_alloc_new w _
  have hs0 : W0.heap.size = w.heap.size + 1 := by rw [← hW0]; simp
  have hcv := Lib.run_convert_bytes_const (P := Tryz.prog) W0 76 5 #[.int .u8 77] 1 1 Tryz.underlying76 Tryz.underlying5
  have B1 : Below W0.heap.size W0 (W0.alloc (.cells #[.int .u8 77] 5 (1, 2))) := (Below.refl _ _).alloc (Nat.le_refl _) _
  have R1 : RowM (W0.alloc (.cells #[.int .u8 77] 5 (1, 2))) (.slice (some ⟨W0.heap.size, 0, none⟩) 1 1) [77] := .inr ⟨W0.heap.size, 1, #[.int .u8 77], (1, 2), rfl, heap_alloc_new W0 _, .inr (Nat.le_refl _), Nat.le_refl _, by unfold maxLen; decide, rfl, rfl⟩
  obtain ⟨W1, hW1⟩ : ∃ W1 : World, W0.alloc (.cells #[.int .u8 77] 5 (1, 2)) = W1 := ⟨_, rfl⟩
  rw [show (#[Value.int .u8 77] : Array Value).size = 1 from rfl, hW1] at hcv
  rw [hW1] at R1 B1
  rw [hs0] at hcv R1
  have S1 : WR (w.heap.size + 1) W0 W1 (.slice (some ⟨w.heap.size + 1, 0, none⟩) 1 1) [77] := ⟨R1, fun k e => by injection e with e; have e : w.heap.size + 1 = k := e; omega, B1.mono (by omega)⟩
  have hf := bs_size frm
  have hbo := bs_size body
  have HX0 := Lib.hid X0
  have HB0 := Lib.hid B0
  have HW0 := Lib.hid hW0
  have HS1 := Lib.hid S1
  have mget : ∀ {W : World}, Below (w.heap.size + 1) W0 W → W.heap[w.heap.size]? = some (.cells #[.int .i64 id, .int .i64 time, .string (bs frm), .slice av tos.length cv, .string (bs body)] 54 (0, 0)) := fun hb => (hb.block _ (by omega)).trans X0
  have HG : Hid (∀ W : World, Below (w.heap.size + 1) W0 W → W.heap[w.heap.size]? = some (.cells #[.int .i64 id, .int .i64 time, .string (bs frm), .slice av tos.length cv, .string (bs body)] 54 (0, 0))) := Lib.hid (fun W hb => mget hb)
  have i0 : W1.cell? ⟨w.heap.size, 0, none⟩ = some (.int .i64 id) := by rw [Lib.cell_of_heap (HG.out _ S1.below)]; rfl
  clear h hcell z5 X0 B0 R1 B1 S1 mget hW1
  go_enter Tryz.func153, Tryz.ntmps153
  go_wp2_with fail
  refine (appendNum_any _ [77] id 4 W1 HS1.out.row (by simp) z1 (by omega)).mono ?_
  rintro e w2 ⟨v2, rfl, R2, K2, O2⟩
  have hal2 : ([77] ++ beBytes 4 id).length ≤ 5 := by rw [List.length_append]; simp only [beBytes_len, List.length_cons, List.length_nil]; omega
  obtain ⟨A2, eA2⟩ : ∃ A, [77] ++ beBytes 4 id = A := ⟨_, rfl⟩
  rw [eA2] at R2 hal2
  have S2 := HS1.out.step (by omega) R2 K2 O2
  obtain ⟨a2, c2, rfl⟩ := R2.len
  have HS2 := Lib.hid S2
  have HE2 := Lib.hid eA2
  have i2 : w2.cell? ⟨w.heap.size, 1, none⟩ = some (.int .i64 time) := by rw [Lib.cell_of_heap (HG.out _ S2.below)]; rfl
  clear R2 K2 O2 S2 eA2 HS1
  go_wp2_with fail
  refine (appendNum_any _ A2 time 4 w2 HS2.out.row (by omega) z2 (by omega)).mono ?_
  rintro e w3 ⟨v3, rfl, R3, K3, O3⟩
  have hal3 : (A2 ++ beBytes 4 time).length ≤ 9 := by rw [List.length_append]; simp only [beBytes_len]; omega
  obtain ⟨A3, eA3⟩ : ∃ A, A2 ++ beBytes 4 time = A := ⟨_, rfl⟩
  rw [eA3] at R3 hal3
  have S3 := HS2.out.step (by omega) R3 K3 O3
  obtain ⟨a3, c3, rfl⟩ := R3.len
  have HS3 := Lib.hid S3
  have HE3 := Lib.hid eA3
  have i3 : w3.cell? ⟨w.heap.size, 2, none⟩ = some (.string (bs frm)) := by rw [Lib.cell_of_heap (HG.out _ S3.below)]; rfl
  clear R3 K3 O3 S3 eA3 HS2
  go_wp2_with fail
  refine (appendTxt_any _ A3 frm 1 w3 HS3.out.row (by omega) (by omega) (by omega)).mono ?_
  rintro e w4 ⟨v4, rfl, R4, K4, O4⟩
  have hal4 : (A3 ++ (beBytes 1 frm.length ++ frm)).length ≤ 300 := by rw [List.length_append]; simp only [List.length_append, beBytes_len]; omega
  obtain ⟨A4, eA4⟩ : ∃ A, A3 ++ (beBytes 1 frm.length ++ frm) = A := ⟨_, rfl⟩
  rw [eA4] at R4 hal4
  have S4 := HS3.out.step (by omega) R4 K4 O4
  obtain ⟨a4, c4, rfl⟩ := R4.len
  have HS4 := Lib.hid S4
  have HE4 := Lib.hid eA4
  have i4 : w4.cell? ⟨w.heap.size, 3, none⟩ = some (.slice av tos.length cv) := by rw [Lib.cell_of_heap (HG.out _ S4.below)]; rfl
  clear R4 K4 O4 S4 eA4 HS3
  go_wp2_with fail
  refine (appendNum_any _ A4 tos.length 1 w4 HS4.out.row (by omega) (by omega) (by omega)).mono ?_
  rintro e w5 ⟨v5, rfl, R5, K5, O5⟩
  have hal5 : (A4 ++ beBytes 1 tos.length).length ≤ 301 := by rw [List.length_append]; simp only [beBytes_len]; omega
  obtain ⟨A5, eA5⟩ : ∃ A, A4 ++ beBytes 1 tos.length = A := ⟨_, rfl⟩
  rw [eA5] at R5 hal5
  have S5 := HS4.out.step (by omega) R5 K5 O5
  obtain ⟨a5, c5, rfl⟩ := R5.len
  have HS5 := Lib.hid S5
  have HE5 := Lib.hid eA5
  have i5 : w5.cell? ⟨w.heap.size, 3, none⟩ = some (.slice av tos.length cv) := by rw [Lib.cell_of_heap (HG.out _ S5.below)]; rfl
  clear R5 K5 O5 S5 eA5 HS4
  go_wp2_with fail
  go_loopw [3, 28] (fun b i w' => ∃ k : Nat, k ≤ tos.length ∧ i = .int .i64 k ∧ Hid (WR (w.heap.size + 1) W0 w' b (A5 ++ textsE (tos.take k)))) (fun _ i _ => tos.length - (intOf i).toNat)
  case atStart =>
    refine ⟨0, Nat.zero_le _, rfl, Lib.hid ?_⟩
    rw [List.take_zero, show textsE [] = [] from rfl, List.append_nil]
    exact HS5.out
  case round =>
    obtain ⟨k, hk, rfl, HS⟩ := hrel
    have htl : (textsE (tos.take k)).length ≤ 256 * k := by
      have := textsE_len (tos.take k) (fun t ht => HZ5.out t (List.mem_of_mem_take ht))
      rw [List.length_take] at this
      omega
    by_cases hlt : k < tos.length
    · have hlti : (k : Int) < (tos.length : Int) := by omega
      obtain ⟨g, off, rfl, hgl, c0⟩ := HV.out k hlt
      rw [textCells_get tos k hlt] at c0
      have d0 : wr.cell? ⟨g, off + k, none⟩ = some (.string (bs tos[k])) := ((HB0.out.trans (HS.out.below.mono (by omega))).cell (by exact hgl)).trans c0
      have HT : Hid (textsE (tos.take (k + 1)) = textsE (tos.take k) ++ textE tos[k]) := Lib.hid (textsE_take tos k hlt)
      have htz := HZ5.out tos[k] (List.getElem_mem hlt)
      obtain ⟨t, et⟩ : ∃ t, tos[k] = t := ⟨_, rfl⟩
      rw [et] at d0 HT htz
      obtain ⟨acc, eacc⟩ : ∃ acc, A5 ++ textsE (tos.take k) = acc := ⟨_, rfl⟩
      have hacc : acc.length ≤ 301 + 256 * k := by rw [← eacc, List.length_append]; omega
      have HN : Hid (A5 ++ textsE (tos.take (k + 1)) = acc ++ (beBytes 1 t.length ++ t)) := Lib.hid (by rw [HT.out, ← List.append_assoc, eacc]; rfl)
      rw [eacc] at HS
      obtain ⟨a6, c6, ev6⟩ := HS.out.row.len
      subst ev6
      have HA6 := Lib.hid (appendTxt_any _ acc t 1 wr HS.out.row (by omega) (by omega) (by omega))
      clear c0 et eacc HT
      go_wp2_with fail
      refine HA6.out.mono ?_
      rintro e w7 ⟨v7, rfl, R7, K7, O7⟩
      have S7 := HS.out.step (by omega) R7 K7 O7
      have HS7 := Lib.hid S7
      clear R7 K7 O7 S7
      go_wp2_with fail
      exact ⟨⟨k + 1, by omega, by go_num, by rw [HN.out]; exact HS7⟩, by simp [intOf]; omega⟩
    · have hk9 : k = tos.length := by omega
      subst hk9
      rw [List.take_length] at HS htl
      obtain ⟨acc, eacc⟩ : ∃ acc, A5 ++ textsE tos = acc := ⟨_, rfl⟩
      have hacc : acc.length ≤ 301 + 256 * tos.length := by rw [← eacc, List.length_append]; omega
      rw [eacc] at HS
      have hE : mailE ⟨id, time, frm, tos, body⟩ = acc ++ (beBytes 2 body.length ++ body) := by
        rw [← eacc, ← HE5.out, ← HE4.out, ← HE3.out, ← HE2.out]
        simp [mailE, textE]
      obtain ⟨a6, c6, ev6⟩ := HS.out.row.len
      subst ev6
      have i6 : wr.cell? ⟨w.heap.size, 4, none⟩ = some (.string (bs body)) := by rw [Lib.cell_of_heap (HG.out _ HS.out.below)]; rfl
      have HA6 := Lib.hid (appendTxt_any _ acc body 2 wr HS.out.row (by omega) (by omega) (by omega))
      have HEE := Lib.hid hE
      clear eacc hE
      go_wp2_with fail
      refine HA6.out.mono ?_
      rintro e w7 ⟨v7, rfl, R7, K7, O7⟩
      have S7 := HS.out.step (by omega) R7 K7 O7
      have hcv7 := R7.string
      obtain ⟨A7, eA7⟩ : ∃ A, acc ++ (beBytes 2 body.length ++ body) = A := ⟨_, rfl⟩
      rw [eA7] at hcv7 HEE R7
      obtain ⟨a7, c7, rfl⟩ := R7.len
      have HS7 := Lib.hid S7
      clear R7 K7 O7 S7 eA7
      go_wp2_with fail
      go_ret
      exact ⟨by rw [HEE.out]; rfl, HB0.out.trans (HS7.out.below.mono (by omega))⟩
end Go.Proofs.YtadcidbeealdpaaGreatDoor

/- A mail is kept. -/
namespace Go.Proofs.YtadcidbeealdpaaGreatDoor
open Go.RowKit

def AddPost (base pb mb : Nat) (q : Nat → Nat) (vr : Value) (S : PStore) (m : PMail) (w : World) (e : Ending) (w' : World) : Prop :=
  e = .returned (.bool true) ∧ ∃ q', BagIn base w' pb mb q' vr (S.plus m) ∧ Chg (fun k => k = pb ∨ k = mb) w w' ∧ ∀ k, bagBlk w' pb mb q' (S.plus m) k → bagBlk w pb mb q S k ∨ w.heap.size ≤ k
theorem bagBlk_below {base pb mb : Nat} {q : Nat → Nat} {vr : Value} {S : PStore} {w w' : World} (h : BagIn base w pb mb q vr S) (hb : Below w.heap.size w w') {k : Nat} (hk : bagBlk w' pb mb q S k) : bagBlk w pb mb q S k :=
  bagBlk.keep (fun i hi => hb.block _ (by obtain ⟨_, _, _, b, _⟩ := h.mail i hi; exact heap_some_lt b)) hk

set_option maxHeartbeats 1000000 in
set_option maxRecDepth 100000 in
theorem takeMail_sharp (base pb mb : Nat) (q : Nat → Nat) (vr : Value) (S : PStore) (m : PMail) (v : Value) (w : World) (h : BagIn base w pb mb q vr S) (B : Nat) (hv : w.ownsRow B 9 1 v m.tos.length (textCells m.tos)) (hz : MailSz m) (ht : 1 ≤ m.tos.length) (hn : S.items.length < 4294967295) (h1 : m.id = S.items.length + 1) (h2 : S.time ≤ m.time) :
    Calls Tryz.prog 60 #[.pointer (some ⟨pb, 0, none⟩), .agg (mailCells m v)] w (AddPost base pb mb q vr S m w) := by
  obtain ⟨W0, hW0⟩ : ∃ W0 : World, w.alloc (.cells #[.int .i64 m.id, .int .i64 m.time, .string (bs m.frm), v, .string (bs m.body)] 54) = W0 := ⟨_, rfl⟩
  have B0 : Below w.heap.size w W0 := by rw [← hW0]; exact (Below.refl _ _).alloc (Nat.le_refl _) _
  have A0 : BagIn base W0 pb mb q vr S := h.keep B0
  have X0 : W0.heap[w.heap.size]? = some (.cells #[.int .i64 m.id, .int .i64 m.time, .string (bs m.frm), v, .string (bs m.body)] 54 (0, 0)) := by rw [← hW0]; exact heap_alloc_new w _
  have c1 : W0.cell? ⟨pb, 1, none⟩ = some (.int .i64 S.time) := by rw [Lib.cell_of_heap A0.bag]; rfl
  have c2 : W0.cell? ⟨pb, 2, none⟩ = some (.int .i64 S.items.length) := by rw [Lib.cell_of_heap A0.bag]; rfl
  have e0 : W0.cell? ⟨w.heap.size, 0, none⟩ = some (.int .i64 m.id) := by rw [Lib.cell_of_heap X0]; rfl
  have e1 : W0.cell? ⟨w.heap.size, 1, none⟩ = some (.int .i64 m.time) := by rw [Lib.cell_of_heap X0]; rfl
  have e2 : W0.cell? ⟨w.heap.size, 2, none⟩ = some (.string (bs m.frm)) := by rw [Lib.cell_of_heap X0]; rfl
  have e3 : W0.cell? ⟨w.heap.size, 3, none⟩ = some v := by rw [Lib.cell_of_heap X0]; rfl
  have e4 : W0.cell? ⟨w.heap.size, 4, none⟩ = some (.string (bs m.body)) := by rw [Lib.cell_of_heap X0]; rfl
  have HH := Lib.hid h
  have HA0 := Lib.hid A0
  have HB0 := Lib.hid B0
  have HW0 := Lib.hid hW0
  have HV := Lib.hid (ownsRow_keeps hv fun g cur e _ => below_some B0 e)
  have HZ := Lib.hid hz
  unfold mailCells
  have hw : IntKind.i64.wrap ((S.items.length : Int) + 1) = (S.items.length : Int) + 1 := by rw [IntKind.wrap_i64]; omega
  have t1 : ((m.id : Int) != (S.items.length : Int) + 1) = false := by rw [h1]; simp
  have t2 : ¬ m.time < S.time := by omega
  have H1 := Lib.hid h1
  clear A0 X0 B0 h hW0 hv h1 h2
  go_enter Tryz.func60, Tryz.ntmps60
  go_wp2_with fail
  rw [HW0.out]
  go_quiet (fail)
  go_wp2_with fail
  refine (bagAdd_sharp base pb mb q vr S m v _ (HA0.out.drewN _) B (ownsRow_keeps HV.out fun g cur e _ => below_some (below_drewN _ _ _) e) HZ.out H1.out ht hn).mono ?_
  rintro e w2 ⟨rfl, q', A2, K2, O2⟩
  go_wp2_with fail
  go_ret
  have hb : Below w.heap.size w (W0.drewN nq) := HB0.out.trans (below_drewN _ _ _)
  exact ⟨rfl, q', A2, (Chg.below hb : Chg _ _ _).trans K2 (fun k _ e => e), fun k hk => (O2 k hk).imp (fun e => bagBlk_below HH.out hb e) (fun e => Nat.le_trans hb.size e)⟩

set_option maxHeartbeats 1000000 in
set_option maxRecDepth 100000 in
theorem bagTakeM_sharp (base pb mb : Nat) (q : Nat → Nat) (vr : Value) (S : PStore) (l : List UInt8) (m : PMail) (n : Int) (w : World) (h : BagIn base w pb mb q vr S) (hl : l.length ≤ 1048576) (hm : w.cell? ⟨0, 0, none⟩ = some (.int .i64 n)) (hn : S.items.length < 4294967295) (hr0 : readMailS l = some m) (h1 : m.id = S.items.length + 1) (h2 : S.time ≤ m.time) :
    Calls Tryz.prog 36 #[.pointer (some ⟨pb, 0, none⟩), .string (bs l)] w (AddPost base pb mb q vr S m w) := by
  have HH := Lib.hid h
  have HM := Lib.hid (readMail_any l n w hl hm)
  have HR0 := Lib.hid hr0
  have H1 := Lib.hid h1
  have H2 := Lib.hid h2
  clear h hm hr0 h1 h2
  go_enter Tryz.func36, Tryz.ntmps36
  go_wp2_with fail
  refine HM.out.mono ?_
  rintro e w1 ⟨hor, hb1⟩
  have A1 := Lib.hid (HH.out.keep hb1)
  have B1 := Lib.hid hb1
  clear hb1
  rcases hor with ⟨hr, rfl⟩ | ⟨mm, v, hr, rfl, hv, hz⟩
  · rw [HR0.out] at hr; cases hr
  · rw [HR0.out] at hr
    injection hr with hr
    subst hr
    have hmay := mailMay_tos (readMailS_may HR0.out)
    obtain ⟨av, nv, cv, rfl⟩ := own_slice hv
    obtain ⟨W2, hW2⟩ : ∃ W2 : World, w1.alloc (.cells #[.int .i64 m.id, .int .i64 m.time, .string (bs m.frm), .slice av nv cv, .string (bs m.body)] 54) = W2 := ⟨_, rfl⟩
    have B2 : Below w1.heap.size w1 W2 := by rw [← hW2]; exact (Below.refl _ _).alloc (Nat.le_refl _) _
    have HT := Lib.hid (takeMail_sharp base pb mb q vr S m _ W2 (A1.out.keep B2) _ (ownsRow_keeps hv fun g cur e _ => below_some B2 e) hz hmay.1 hn H1.out H2.out)
    have HB2 := Lib.hid (B1.out.trans (B2.mono B1.out.size))
    have HW2 := Lib.hid hW2
    simp only [mailCells]
    clear hmay B2 hW2 hv hz
    go_wp2_with fail
    rw [HW2.out]
    refine HT.out.mono ?_
    rintro e w7 ⟨rfl, q', A7, K7, O7⟩
    go_wp2_with fail
    go_ret
    exact ⟨rfl, q', A7, (Chg.below HB2.out : Chg _ _ _).trans K7 (fun k _ e => e), fun k hk => (O7 k hk).imp (fun e => bagBlk_below HH.out HB2.out e) (fun e => Nat.le_trans HB2.out.size e)⟩
end Go.Proofs.YtadcidbeealdpaaGreatDoor

/- A record is written behind the others; a mail is kept. -/
namespace Go.Proofs.YtadcidbeealdpaaGreatDoor
open Go.RowKit

/-- a bag with its records -/
structure BagR (w : World) (pb mb : Nat) (q : Nat → Nat) (vr : Value) (S : PStore) (recs : List UInt8) : Prop where
  inn : BagIn 0 w pb mb q vr S
  row : RowM w vr recs
/-- all blocks of it -/
def bagOwn (w : World) (pb mb : Nat) (q : Nat → Nat) (vr : Value) (S : PStore) (k : Nat) : Prop := bagBlk w pb mb q S k ∨ vr.ownBlock = some k
def KeptPost (pb mb : Nat) (q : Nat → Nat) (vr : Value) (S : PStore) (recs : List UInt8) (m : PMail) (w w' : World) : Prop :=
  ∃ q' vr', BagR w' pb mb q' vr' (S.plus m) (recs ++ frameE (mailE m)) ∧ Chg (bagOwn w pb mb q vr S) w w' ∧ ∀ k, bagOwn w' pb mb q' vr' (S.plus m) k → bagOwn w pb mb q vr S k ∨ w.heap.size ≤ k

theorem own_pb {w : World} {base pb mb : Nat} {q : Nat → Nat} {vr : Value} {S : PStore} {recs : List UInt8} (h : BagIn base w pb mb q vr S) (hr : RowM w vr recs) : vr.ownBlock ≠ some pb := fun e => by
  obtain ⟨cur, z, h1⟩ := hr.tag e
  rw [h.bag] at h1
  simp at h1
theorem own_mb {w : World} {base pb mb : Nat} {q : Nat → Nat} {vr : Value} {S : PStore} {recs : List UInt8} (h : BagIn base w pb mb q vr S) (hr : RowM w vr recs) : vr.ownBlock ≠ some mb := fun e => by
  obtain ⟨cur, z, h1⟩ := hr.tag e
  have := h.map
  unfold MapIn at this
  rw [this] at h1
  simp at h1
theorem BagIn.row {base pb mb : Nat} {q : Nat → Nat} {vr : Value} {S : PStore} {recs : List UInt8} {w w' : World} (h : BagIn base w pb mb q vr S) (hr : RowM w vr recs) (hc : Chg (fun k => vr.ownBlock = some k) w w') : BagIn base w' pb mb q vr S := by
  have no : ∀ {k : Nat} {C : Array Value} {t : TypeId} {z : Nat × Nat}, w.heap[k]? = some (.cells C t z) → t ≠ 5 → vr.ownBlock ≠ some k := fun e ht e' => by
    obtain ⟨cur, z', h1⟩ := hr.tag e'
    rw [e] at h1
    injection h1 with h1
    injection h1 with _ h1 _
    exact ht h1
  refine ⟨hc.some_ h.bag (own_pb h hr), hc.some_ h.map (own_mb h hr), h.pbb, h.mbb, h.one, fun i hi => ?_⟩
  obtain ⟨a, v, x, b, c⟩ := h.mail i hi
  exact ⟨a, v, x, hc.some_ b (no b (by decide)), ownsRow_keeps c fun g cur e _ => hc.some_ e (no e (by decide))⟩

set_option maxHeartbeats 1000000 in
set_option maxRecDepth 100000 in
theorem bagWrite_sharp (pb mb : Nat) (q : Nat → Nat) (vr : Value) (S : PStore) (recs : List UInt8) (m : PMail) (n : Int) (w : World) (h : BagR w pb mb q vr S recs) (hl : (mailE m).length ≤ 1048568) (hrl : recs.length ≤ 1073741824) (hm : w.cell? ⟨0, 0, none⟩ = some (.int .i64 n)) (hn : S.items.length < 4294967295) (hr0 : readMailS (mailE m) = some m) (h1 : m.id = S.items.length + 1) (h2 : S.time ≤ m.time) :
    Calls Tryz.prog 155 #[.pointer (some ⟨pb, 0, none⟩), .string (bs (mailE m))] w fun e w' => e = .returned (.bool true) ∧ KeptPost pb mb q vr S recs m w w' := by
  have HT := Lib.hid (bagTakeM_sharp 0 pb mb q vr S (mailE m) m n w h.inn (by omega) hm hn hr0 h1 h2)
  have HH := Lib.hid h
  have hfl : (frameE (mailE m)).length = 8 + (mailE m).length := by unfold frameE; simp only [List.length_append, beBytes_len]; omega
  obtain ⟨l, el⟩ : ∃ l, mailE m = l := ⟨_, rfl⟩
  have HE := Lib.hid el
  rw [el] at HT hl hfl ⊢
  clear h hm hr0 h1 h2 el
  go_enter Tryz.func155, Tryz.ntmps155
  go_wp2_with fail
  refine HT.out.mono ?_
  rintro e w1 ⟨rfl, q', A1, K1, O1⟩
  have R1 : RowM w1 vr recs := HH.out.row.chg K1 (fun g hg e => by
    rcases e with e | e
    · exact own_pb HH.out.inn HH.out.row (by rw [← e]; exact hg)
    · exact own_mb HH.out.inn HH.out.row (by rw [← e]; exact hg))
  obtain ⟨av, cv, ev⟩ := R1.len
  have d0 : w1.drew.cell? ⟨pb, 0, none⟩ = some vr := by show w1.cell? _ = _; rw [Lib.cell_of_heap A1.bag]; rfl
  have HWH := Lib.hid (whole_any l w1.drew (by omega))
  have HA1 := Lib.hid (A1.keep ((Below.refl _ _).drew))
  have HR1 := Lib.hid (R1.below ((Below.refl _ _).drew))
  have HK1 := Lib.hid (K1.trans (Chg.below ((Below.refl w1.heap.size w1).drew) : Chg (fun _ => False) w1 w1.drew) (fun _ _ e => e.elim))
  have HO1 := Lib.hid O1
  clear A1 R1 K1 O1
  go_wp2_with fail
  have HAPP : Hid (∀ w2 : World, Below w1.drew.heap.size w1.drew w2 → ∃ a n c w3, (Builtin.append_ #[76, 9] 76 #[vr, .string (bs (frameE l))]).run Tryz.prog w2 = .ok (.slice a n c) w3 ∧ w3.cell? ⟨pb, 0, none⟩ = some vr ∧ w3.frozen? ⟨pb, 0, none⟩ = false ∧ BagR (w3.setCell ⟨pb, 0, none⟩ (.slice a n c)) pb mb q' (.slice a n c) (S.plus m) (recs ++ frameE l) ∧ Chg (bagOwn w pb mb q vr S) w (w3.setCell ⟨pb, 0, none⟩ (.slice a n c)) ∧ ∀ k, bagOwn (w3.setCell ⟨pb, 0, none⟩ (.slice a n c)) pb mb q' (.slice a n c) (S.plus m) k → bagOwn w pb mb q vr S k ∨ w.heap.size ≤ k) := Lib.hid (by
    intro w2 hb2
    have A2 := HA1.out.keep hb2
    have R2 := HR1.out.below hb2
    obtain ⟨a, n, c, w3, hr, R3, K3, O3⟩ := R2.text (frameE l) (by rw [hfl]; omega)
    have A3 := A2.row R2 K3
    have S4 : Same pb w3 (w3.setCell ⟨pb, 0, none⟩ (.slice a n c)) := (Same.refl _ _).setCell _
    have A4 := A3.timed (T := (S.plus m).time) (vr' := .slice a n c) S4 (heap_setCell_same w3 pb 0 _ _ _ A3.bag)
    have hne : (Value.slice a n c).ownBlock ≠ some pb := fun e => by
      obtain ⟨cur, z, h1⟩ := R3.tag e
      rw [A3.bag] at h1
      simp at h1
    have K2 : Chg (fun k => k = pb ∨ k = mb) w w2 := HK1.out.trans (Chg.below hb2 : Chg (fun _ => False) _ _) (fun _ _ e => e.elim)
    refine ⟨a, n, c, w3, hr, by rw [Lib.cell_of_heap A3.bag]; rfl, Lib.frozen_of_heap A3.bag 0, ⟨A4, R3.chg (Chg.same S4) (fun g hg e => hne (by rw [← e]; exact hg))⟩, ?_, ?_⟩
    · exact ((K2.mono (fun k _ e => .inl (e.imp id .inl))).trans K3 (fun k _ e => .inr e)).trans (Chg.same S4) (fun k _ e => .inl (.inl e))
    · intro k hk
      rcases hk with hk | hk
      · have hk1 : bagBlk w1 pb mb q' (S.plus m) k := by
          refine bagBlk.keep (fun i hi => ?_) hk
          obtain ⟨_, v3, x3, b3, _⟩ := A3.mail i hi
          obtain ⟨_, v2, x2, b2, _⟩ := A2.mail i hi
          have e4 : (w3.setCell ⟨pb, 0, none⟩ (.slice a n c)).heap[q' i]? = w3.heap[q' i]? := S4.2 _ (fun e => by unfold BmAt at b3; rw [e, A3.bag] at b3; simp at b3)
          have e3 : w3.heap[q' i]? = w2.heap[q' i]? := K3.block _ (heap_some_lt b2) (fun e => by
            obtain ⟨cur, z, h1⟩ := R2.tag e
            unfold BmAt at b2
            rw [b2] at h1
            simp at h1)
          obtain ⟨_, v1, x1, b1, _⟩ := HA1.out.mail i hi
          exact e4.trans (e3.trans (hb2.block _ (heap_some_lt b1)))
        exact (HO1.out k hk1).imp .inl id
      · rcases O3 k hk with e | e
        · exact .inl (.inr e)
        · exact .inr (Nat.le_trans K2.size e))
  subst ev
  go_region_law (first
    | (refine step_append_run2 rfl _ _ 76 9 rfl _ _ _ w3 rfl rfl hr3.out ?_)
    | (go_simp; go_at_call 192; refine HWH.out.mono ?_; rintro e w2 ⟨rfl, hb2⟩; obtain ⟨a3, n3, c3, w3, hr3', p0, f0, R5, K5, O5⟩ := HAPP.out w2 hb2; have d2 : w2.cell? ⟨pb, 0, none⟩ = some (.slice av recs.length cv) := (by rw [Lib.cell_of_heap (HA1.out.keep hb2).bag]; rfl); have hr3 := Lib.hid hr3'; have HR5 := Lib.hid R5; have HK5 := Lib.hid K5; have HO5 := Lib.hid O5; clear hr3' R5 K5 O5 hb2; dsimp only))
  all_goals
    go_wp2_with fail
    go_ret
    exact ⟨rfl, q', _, by rw [HE.out]; exact HR5.out, HK5.out, HO5.out⟩
end Go.Proofs.YtadcidbeealdpaaGreatDoor

/- A mail is kept, or there is no room. -/
namespace Go.Proofs.YtadcidbeealdpaaGreatDoor
open Go.RowKit

/-- the mail that is to be kept -/
def newM (S : PStore) (frm : List UInt8) (tos : List (List UInt8)) (body : List UInt8) : PMail := ⟨S.items.length + 1, S.time, frm, tos, body⟩
theorem mailE_len {m : PMail} (hz : MailSz m) : (mailE m).length ≤ 1200000 := by
  obtain ⟨z1, z2, z3, z4, z5, z6⟩ := hz
  have := textsE_len m.tos z5
  unfold mailE textE
  simp only [List.length_cons, List.length_append, beBytes_len]
  omega

set_option maxHeartbeats 1000000 in
set_option maxRecDepth 100000 in
theorem keep_no (pb mb : Nat) (q : Nat → Nat) (vr vt : Value) (S : PStore) (recs frm body : List UInt8) (tos : List (List UInt8)) (room : Int) (w : World) (h : BagR w pb mb q vr S recs) (hv : RowAt w vt tos.length 1 (textCells tos)) (hz : MailSz (newM S frm tos body)) (hrl : recs.length ≤ 1073741824) (hroom : room < ((recs.length + (8 + (mailE (newM S frm tos body)).length) : Nat) : Int)) :
    Calls Tryz.prog 111 #[.pointer (some ⟨pb, 0, none⟩), .string (bs frm), vt, .string (bs body), .int .i64 room] w fun e w' => e = .returned (.tuple #[.int .i64 0, .bool false]) ∧ Below w.heap.size w w' := by
  have HWM := Lib.hid (writeMail_any (S.items.length + 1) S.time frm tos body vt w hv hz)
  have hml := mailE_len hz
  have c1 : w.cell? ⟨pb, 1, none⟩ = some (.int .i64 S.time) := by rw [Lib.cell_of_heap h.inn.bag]; rfl
  have c2 : w.cell? ⟨pb, 2, none⟩ = some (.int .i64 S.items.length) := by rw [Lib.cell_of_heap h.inn.bag]; rfl
  obtain ⟨av, cv, ev⟩ := slice_of hv
  obtain ⟨ar, cr, er⟩ := h.row.len
  subst ev er
  have hid : S.items.length + 1 ≤ 4294967295 := hz.1
  have hw1 : IntKind.i64.wrap ((S.items.length : Int) + 1) = ((S.items.length + 1 : Nat) : Int) := by rw [IntKind.wrap_i64]; omega
  obtain ⟨l, el⟩ : ∃ l, mailE (newM S frm tos body) = l := ⟨_, rfl⟩
  rw [el] at hml hroom
  rw [show mailE ⟨S.items.length + 1, S.time, frm, tos, body⟩ = l from el] at HWM
  have hww : IntKind.i64.wrap ((recs.length : Int) + (8 + (l.length : Int))) = (recs.length : Int) + (8 + (l.length : Int)) := by rw [IntKind.wrap_i64]; omega
  have HBG := Lib.hid h.inn.bag
  have HSZ : Hid (∀ W : World, Calls Tryz.prog 154 #[.string (bs l)] W fun e w' => e = .returned (.int .i64 ((8 + l.length : Nat) : Int)) ∧ W = w') := Lib.hid (fun W => recSize_any l W (by omega))
  have hgt : room < (recs.length : Int) + (8 + (l.length : Int)) := by omega
  clear h hv hz el hroom
  go_enter Tryz.func111, Tryz.ntmps111
  go_wp2_with fail
  refine HWM.out.mono ?_
  rintro e w1 ⟨rfl, hb1⟩
  have b1 := below_some hb1 HBG.out
  have d0 : w1.drew.cell? ⟨pb, 0, none⟩ = some (.slice ar recs.length cr) := by show w1.cell? _ = _; rw [Lib.cell_of_heap b1]; rfl
  have HB1 := Lib.hid hb1
  clear b1 hb1
  go_wp2_with fail
  go_region_law (first
    | (go_simp; go_at_call 154; refine (HSZ.out w1.drew).mono ?_; rintro e w2 ⟨rfl, rfl⟩; dsimp only))
  all_goals
    go_wp2_with fail
    go_ret2
    exact ⟨rfl, HB1.out.trans ((Below.refl _ _).drew)⟩

set_option maxHeartbeats 1000000 in
set_option maxRecDepth 100000 in
theorem keep_yes (pb mb : Nat) (q : Nat → Nat) (vr vt : Value) (S : PStore) (recs frm body : List UInt8) (tos : List (List UInt8)) (room : Int) (n : Int) (w : World) (h : BagR w pb mb q vr S recs) (hv : RowAt w vt tos.length 1 (textCells tos)) (hz : MailSz (newM S frm tos body)) (hrl : recs.length ≤ 1073741824) (hroom : ¬ room < ((recs.length + (8 + (mailE (newM S frm tos body)).length) : Nat) : Int)) (hro : room ≤ 1000000) (hm : w.cell? ⟨0, 0, none⟩ = some (.int .i64 n)) (hr0 : readMailS (mailE (newM S frm tos body)) = some (newM S frm tos body)) :
    Calls Tryz.prog 111 #[.pointer (some ⟨pb, 0, none⟩), .string (bs frm), vt, .string (bs body), .int .i64 room] w fun e w' => e = .returned (.tuple #[.int .i64 ((S.items.length : Int) + 1), .bool true]) ∧ KeptPost pb mb q vr S recs (newM S frm tos body) w w' := by
  have HWR : Hid (∀ W : World, Below w.heap.size w W → Calls Tryz.prog 155 #[.pointer (some ⟨pb, 0, none⟩), .string (bs (mailE (newM S frm tos body)))] W fun e w' => e = .returned (.bool true) ∧ KeptPost pb mb q vr S recs (newM S frm tos body) W w') := Lib.hid (fun W hb => bagWrite_sharp pb mb q vr S recs (newM S frm tos body) n W ⟨h.inn.keep hb, h.row.below hb⟩ (by omega) hrl ((hb.cell (block_lt hm)).trans hm) (by have : S.items.length + 1 ≤ 4294967295 := hz.1; omega) hr0 rfl (Nat.le_refl _))
  have HH := Lib.hid h
  have HWM := Lib.hid (writeMail_any (S.items.length + 1) S.time frm tos body vt w hv hz)
  have hml := mailE_len hz
  have c1 : w.cell? ⟨pb, 1, none⟩ = some (.int .i64 S.time) := by rw [Lib.cell_of_heap h.inn.bag]; rfl
  have c2 : w.cell? ⟨pb, 2, none⟩ = some (.int .i64 S.items.length) := by rw [Lib.cell_of_heap h.inn.bag]; rfl
  obtain ⟨av, cv, ev⟩ := slice_of hv
  obtain ⟨ar, cr, er⟩ := h.row.len
  subst ev er
  have hid : S.items.length + 1 ≤ 4294967295 := hz.1
  have hw1 : IntKind.i64.wrap ((S.items.length : Int) + 1) = ((S.items.length + 1 : Nat) : Int) := by rw [IntKind.wrap_i64]; omega
  obtain ⟨l, el⟩ : ∃ l, mailE (newM S frm tos body) = l := ⟨_, rfl⟩
  rw [el] at hml hroom
  rw [show mailE ⟨S.items.length + 1, S.time, frm, tos, body⟩ = l from el] at HWM
  have hww : IntKind.i64.wrap ((recs.length : Int) + (8 + (l.length : Int))) = (recs.length : Int) + (8 + (l.length : Int)) := by rw [IntKind.wrap_i64]; omega
  have HBG := Lib.hid h.inn.bag
  have HSZ : Hid (∀ W : World, Calls Tryz.prog 154 #[.string (bs l)] W fun e w' => e = .returned (.int .i64 ((8 + l.length : Nat) : Int)) ∧ W = w') := Lib.hid (fun W => recSize_any l W (by omega))
  have hgt : ¬ room < (recs.length : Int) + (8 + (l.length : Int)) := by omega
  rw [el] at HWR
  clear h hv hz el hroom hm hr0
  go_enter Tryz.func111, Tryz.ntmps111
  go_wp2_with fail
  refine HWM.out.mono ?_
  rintro e w1 ⟨rfl, hb1⟩
  have b1 := below_some hb1 HBG.out
  have d0 : w1.drew.cell? ⟨pb, 0, none⟩ = some (.slice ar recs.length cr) := by show w1.cell? _ = _; rw [Lib.cell_of_heap b1]; rfl
  have HB1 := Lib.hid hb1
  clear b1 hb1
  go_wp2_with fail
  go_region_law (first
    | (go_simp; go_at_call 154; refine (HSZ.out w1.drew).mono ?_; rintro e w2 ⟨rfl, rfl⟩; dsimp only))
  all_goals
    go_wp2_with fail
    have hbd : Below w.heap.size w w1.drew := HB1.out.trans ((Below.refl _ _).drew)
    refine (HWR.out _ hbd).mono ?_
    rintro e w5 ⟨rfl, hk5⟩
    have HK5 := Lib.hid hk5
    have HBD := Lib.hid hbd
    clear hk5 hbd
    go_wp2_with fail
    go_ret2
    obtain ⟨q', vr', R5, K5, O5⟩ := HK5.out
    have own_back : ∀ k, bagOwn w1.drew pb mb q (.slice ar recs.length cr) S k → bagOwn w pb mb q (.slice ar recs.length cr) S k := fun k hk => hk.imp (fun e => bagBlk_below HH.out.inn HBD.out e) id
    exact ⟨rfl, q', vr', R5, ((Chg.below HBD.out : Chg _ _ _)).trans K5 (fun k _ e => own_back k e), fun k hk => (O5 k hk).imp (own_back k) (fun e => Nat.le_trans HBD.out.size e)⟩
end Go.Proofs.YtadcidbeealdpaaGreatDoor

/- A session: what it is, and where it lies. -/
namespace Go.Proofs.YtadcidbeealdpaaGreatDoor
open Go.RowKit

structure PTx where
  frm : List UInt8
  tos : List (List UInt8)
  body : Option PBody
structure PSes where
  nets : Bool
  greeted : Bool
  known : Bool
  over : Bool
  wait : List UInt8
  tx : Option PTx

def BodIn (w : World) (A : Nat → Prop) (vb : Value) : Option PBody → Prop
  | none => vb = .pointer none
  | some b => ∃ bb vy, vb = .pointer (some ⟨bb, 0, none⟩) ∧ A bb ∧ BodyAt w bb vy b ∧ ∀ g, vy.ownBlock = some g → A g
def TxIn (w : World) (A : Nat → Prop) (vx : Value) : Option PTx → Prop
  | none => vx = .pointer none
  | some t => ∃ tb vt vb, vx = .pointer (some ⟨tb, 0, none⟩) ∧ A tb ∧ TxAt w tb vt vb t.frm t.tos ∧ (∀ g, vt.ownBlock = some g → A g) ∧ BodIn w A vb t.body
def sesCells (pp pb ch : Nat) (vw vx : Value) (s : PSes) : Array Value := #[.pointer (some ⟨pp, 0, none⟩), .pointer (some ⟨pb, 0, none⟩), vw, .chan (some ch), .bool s.nets, .bool s.greeted, .bool s.known, .bool s.over, vx]
structure SesIn (w : World) (A : Nat → Prop) (pp pb sb ch : Nat) (vw : Value) (ls : List (List UInt8)) (s : PSes) : Prop where
  ex : ∃ vx, SesAt w sb ch (sesCells pp pb ch vw vx s) ls ∧ TxIn w A vx s.tx
  asb : A sb
  ach : A ch
  lt : ∀ k, A k → k < w.heap.size

/-- the types of a transaction's blocks -/
def txType (t : TypeId) : Prop := t = 158 ∨ t = 9 ∨ t = 183 ∨ t = 5
section
variable {w w' : World} {A A' B : Nat → Prop} {pp pb sb ch : Nat} {vw vx vb : Value} {ls : List (List UInt8)} {s : PSes}
theorem BodIn.off {o : Option PBody} (h : BodIn w A vb o) (hc : Chg B w w') (hB : ∀ k C t z, A k → w.heap[k]? = some (.cells C t z) → txType t → ¬ B k) : BodIn w' A vb o := by
  cases o with
  | none => exact h
  | some b =>
    obtain ⟨bb, vy, e, a, h1, h2⟩ := h
    exact ⟨bb, vy, e, a, h1.chg hc (hB bb _ _ _ a h1.blk (.inr (.inr (.inl rfl)))) (fun g hg => by
      obtain ⟨cur, z, h3⟩ := rowF_tag h1.row hg
      exact hB g _ _ _ (h2 g hg) h3 (.inr (.inr (.inr rfl)))), h2⟩
theorem TxIn.off {o : Option PTx} (h : TxIn w A vx o) (hc : Chg B w w') (hB : ∀ k C t z, A k → w.heap[k]? = some (.cells C t z) → txType t → ¬ B k) : TxIn w' A vx o := by
  cases o with
  | none => exact h
  | some t =>
    obtain ⟨tb, vt, vb, e, a, h1, h2, h3⟩ := h
    exact ⟨tb, vt, vb, e, a, h1.chg hc (hB tb _ _ _ a h1.blk (.inl rfl)) (fun g hg => by
      obtain ⟨cur, h4⟩ := own_tag' h1.row hg
      exact hB g _ _ _ (h2 g hg) h4 (.inr (.inl rfl))), h2, h3.off hc hB⟩
theorem BodIn.mono {o : Option PBody} (h : BodIn w A vb o) (hA : ∀ k, A k → A' k) : BodIn w A' vb o := by
  cases o with
  | none => exact h
  | some b =>
    obtain ⟨bb, vy, e, a, h1, h2⟩ := h
    exact ⟨bb, vy, e, hA _ a, h1, fun g hg => hA _ (h2 g hg)⟩
theorem TxIn.mono {o : Option PTx} (h : TxIn w A vx o) (hA : ∀ k, A k → A' k) : TxIn w A' vx o := by
  cases o with
  | none => exact h
  | some t =>
    obtain ⟨tb, vt, vb, e, a, h1, h2, h3⟩ := h
    exact ⟨tb, vt, vb, e, hA _ a, h1, fun g hg => hA _ (h2 g hg), h3.mono hA⟩
theorem SesIn.chg (h : SesIn w A pp pb sb ch vw ls s) (hc : Chg B w w') (hB : ∀ k, A k → ¬ B k) : SesIn w' A pp pb sb ch vw ls s := by
  obtain ⟨vx, h1, h2⟩ := h.ex
  exact ⟨⟨vx, h1.chg hc (hB _ h.asb) (hB _ h.ach), h2.off hc (fun k _ _ _ a _ _ => hB k a)⟩, h.asb, h.ach, fun k hk => Nat.lt_of_lt_of_le (h.lt k hk) hc.size⟩
theorem SesIn.below (h : SesIn w A pp pb sb ch vw ls s) (hb : Below w.heap.size w w') : SesIn w' A pp pb sb ch vw ls s := h.chg (Chg.below hb : Chg (fun _ => False) w w') (fun _ _ e => e)
/-- what a step on the session's own block and its channel leaves of the transaction -/
theorem ses_off {C : Array Value} (h : SesAt w sb ch C ls) : ∀ k D t z, w.heap[k]? = some (.cells D t z) → txType t → ¬ (k = sb ∨ k = ch) := by
  rintro k D t z e ht (rfl | rfl)
  · rw [h.blk] at e
    injection e with e
    injection e with _ e _
    subst e
    revert ht
    unfold txType
    decide
  · obtain ⟨s, r, hc⟩ := h.chan
    rw [hc] at e
    cases e
theorem SesIn.back (h : SesIn w A pp pb sb ch vw ls s) {vx' : Value} {ls' : List (List UInt8)} {s' : PSes} (hS : SesAt w' sb ch (sesCells pp pb ch vw vx' s') ls') (hx : TxIn w' A' vx' s'.tx) (hA : ∀ k, A k → A' k) (hl : ∀ k, A' k → k < w'.heap.size) : SesIn w' A' pp pb sb ch vw ls' s' :=
  ⟨⟨vx', hS, hx⟩, hA _ h.asb, hA _ h.ach, hl⟩
end
/-- a line is told -/
theorem SesIn.tell {w : World} {A : Nat → Prop} {pp pb sb ch : Nat} {vw : Value} {ls : List (List UInt8)} {s : PSes} (h : SesIn w A pp pb sb ch vw ls s) (hl : ls.length < 3) (l : List UInt8) (hz : l.length ≤ 1048576) :
    Calls Tryz.prog 23 #[.pointer (some ⟨sb, 0, none⟩), .string (bs l)] w fun e w' => e = .returned (.tuple #[]) ∧ SesIn w' A pp pb sb ch vw (ls ++ [l ++ [13, 10]]) s ∧ Chg A w w' := by
  obtain ⟨vx, h1, h2⟩ := h.ex
  refine (h1.tell hl l hz).mono ?_
  rintro e w' ⟨rfl, h3, hS⟩
  have hc : Chg (fun k => k = ch) w w' := Chg.same hS
  refine ⟨rfl, ⟨⟨vx, h3, h2.off hc (fun k C t z _ e ht e' => ses_off h1 k C t z e ht (.inr e'))⟩, h.asb, h.ach, fun k hk => Nat.lt_of_lt_of_le (h.lt k hk) hc.size⟩, hc.mono (fun k _ e => by rw [e]; exact h.ach)⟩
end Go.Proofs.YtadcidbeealdpaaGreatDoor
