import Derived.Test.YtgjjjdccbpjnfaaGreatDoorS02
import Derived.Test.YtgjjjdccbpjnfaaGreatDoorS03
import Derived.Test.YtgjjjdccbpjnfaaGreatDoorS06
import Derived.Deep.RegionHeld3
import Derived.Maps.AppendAt
import Derived.OwnWalk

/- The document's records: texts, lists, frames. -/
namespace Go.Proofs.YtgjjjdccbpjnfaaGreatDoor
open Go.RowKit

theorem ret_bs {a : ByteArray} {l : List UInt8} (h : a = bs l) : Ending.returned (.string a) = .returned (.string (bs l)) := by rw [h]

/-- a text with its length ahead -/
def textE (l : List UInt8) : List UInt8 := beBytes 1 l.length ++ l
set_option maxHeartbeats 400000 in
set_option maxRecDepth 100000 in
theorem refText_any (l : List UInt8) (w : World) (hl : l.length ≤ 1048576) :
    Calls Tryz.prog 28 #[.string (bs l)] w fun e w' => e = .returned (.string (bs (textE l))) ∧ Below w.heap.size w w' := by
  have hz := bs_size l
  have hcall := refBytes_any l.length 1 w (by unfold maxLen; omega) (by decide)
  obtain ⟨p, hp⟩ : ∃ p, beBytes 1 l.length = p := ⟨_, rfl⟩
  have hpl : p.length = 1 := by rw [← hp, beBytes_len]
  have hpz := bs_size p
  rw [hp] at hcall
  have HP := Lib.hid hp
  clear hp
  go_enter Tryz.func28, Tryz.ntmps28
  go_wp2_with fail
  refine hcall.mono ?_
  rintro e w1 ⟨rfl, hb⟩
  have HB := Lib.hid hb
  clear hcall hb
  go_wp2_with fail
  go_ret
  exact ⟨ret_bs (by rw [bs_append, ← HP.out]; rfl), HB.out⟩

/-- a record of this content -/
def frameE (l : List UInt8) : List UInt8 := beBytes 4 l.length ++ (beBytes 4 (crc l) ++ l)
set_option maxHeartbeats 400000 in
set_option maxRecDepth 100000 in
theorem refFramed_any (l : List UInt8) (w : World) (hl : l.length ≤ 1048576) :
    Calls Tryz.prog 12 #[.string (bs l)] w fun e w' => e = .returned (.string (bs (frameE l))) ∧ Below w.heap.size w w' := by
  have hz := bs_size l
  have hcall := refBytes_any l.length 4 w (by unfold maxLen; omega) (by decide)
  have hsum := fun w' => refSum_any (bs l) w' (by rw [hz]; unfold maxLen; omega)
  have hcl : crc l ≤ 4294967295 := by unfold crc; omega
  rw [bs_toList] at hsum
  obtain ⟨C, hC⟩ : ∃ C, crc l = C := ⟨_, rfl⟩
  rw [hC] at hsum hcl
  have hcall2 := fun w' => refBytes_any C 4 w' (by unfold maxLen; omega) (by decide)
  obtain ⟨p, hp⟩ : ∃ p, beBytes 4 l.length = p := ⟨_, rfl⟩
  obtain ⟨q, hq⟩ : ∃ q, beBytes 4 C = q := ⟨_, rfl⟩
  have hpl : p.length = 4 := by rw [← hp, beBytes_len]
  have hql : q.length = 4 := by rw [← hq, beBytes_len]
  have hpz := bs_size p
  have hqz := bs_size q
  rw [hp] at hcall
  rw [hq] at hcall2
  have HP := Lib.hid hp
  have HQ := Lib.hid hq
  have HC := Lib.hid hC
  have HCL := Lib.hid hcl
  have HS := Lib.hid hsum
  have H2 := Lib.hid hcall2
  clear hp hq hC hcl hsum hcall2
  go_enter Tryz.func12, Tryz.ntmps12
  go_wp2_with fail
  refine hcall.mono ?_
  rintro e w1 ⟨rfl, hb⟩
  have HB := Lib.hid hb
  clear hcall hb
  go_wp2_with fail
  refine (HS.out _).mono ?_
  rintro e w2 ⟨rfl, rfl⟩
  go_wp2_with fail
  refine (H2.out _).mono ?_
  rintro e w2 ⟨rfl, hb⟩
  have HB2 := Lib.hid (HB.out.trans (hb.mono HB.out.size))
  clear hb
  have hpq : (bs p ++ bs q).size = 8 := by rw [bs_append, bs_size, List.length_append]; omega
  go_wp2_with fail
  go_ret
  refine ⟨ret_bs ?_, HB2.out⟩
  rw [bs_append, bs_append, ← HP.out, ← HQ.out, ← HC.out, List.append_assoc]
  rfl

/-- the numbers of recipients, a byte each -/
def placesE (l : List Nat) : List UInt8 := l.flatMap (beBytes 1)
theorem placesE_take (l : List Nat) (k : Nat) (h : k < l.length) : placesE (l.take (k + 1)) = placesE (l.take k) ++ beBytes 1 l[k] := by
  unfold placesE; rw [List.take_succ_eq_append_getElem h, List.flatMap_append]; simp
theorem placesE_len (l : List Nat) : (placesE l).length = l.length := by
  induction l with
  | nil => rfl
  | cons a l ih => show (beBytes 1 a ++ placesE l).length = _; rw [List.length_append, beBytes_len, ih, List.length_cons]; omega
def listedE (id : Nat) (l : List Nat) : List UInt8 := beBytes 4 id ++ (beBytes 1 l.length ++ placesE l)
def natCells (l : List Nat) : List Value := l.map fun (n : Nat) => Value.int .i64 (n : Int)

set_option maxHeartbeats 400000 in
set_option maxRecDepth 100000 in
theorem refListed_any (id : Nat) (v : Value) (l : List Nat) (w : World) (hid : id ≤ maxLen) (h : RowAt w v l.length 1 (natCells l)) (hl : l.length ≤ 255) (h256 : ∀ x ∈ l, x ≤ 255) :
    Calls Tryz.prog 97 #[.int .i64 id, v] w fun e w' => e = .returned (.string (bs (listedE id l))) ∧ Below w.heap.size w w' := by
  obtain ⟨a, cap, rfl, hcells⟩ := h.one
  have HH := Lib.hid h
  have H256 := Lib.hid h256
  have hcall := refBytes_any id 4 w hid (by decide)
  have hcall2 := fun w' => refBytes_any l.length 1 w' (by unfold maxLen; omega) (by decide)
  obtain ⟨p, hp⟩ : ∃ p, beBytes 4 id = p := ⟨_, rfl⟩
  obtain ⟨q, hq⟩ : ∃ q, beBytes 1 l.length = q := ⟨_, rfl⟩
  have hpl : p.length = 4 := by rw [← hp, beBytes_len]
  have hql : q.length = 1 := by rw [← hq, beBytes_len]
  have hpz := bs_size p
  have hqz := bs_size q
  rw [hp] at hcall
  rw [hq] at hcall2
  have HP := Lib.hid hp
  have HQ := Lib.hid hq
  have H2 := Lib.hid hcall2
  clear hp hq hcall2 h h256 hcells hid
  go_enter Tryz.func97, Tryz.ntmps97
  go_wp2_with fail
  refine hcall.mono ?_
  rintro e w1 ⟨rfl, hb⟩
  have HB := Lib.hid hb
  clear hcall hb
  go_wp2_with fail
  refine (H2.out _).mono ?_
  rintro e w2 ⟨rfl, hb⟩
  have HB2 := Lib.hid (HB.out.trans (hb.mono HB.out.size))
  clear hb HB
  go_wp2_with fail
  go_loopw [5, 6] (fun sv i w' => ∃ (k : Nat) (S : List UInt8), k ≤ l.length ∧ i = .int .i64 k ∧ sv = .string (bs S) ∧ S.length = 5 + k ∧ Hid (S = p ++ (q ++ placesE (l.take k))) ∧ Hid (Below w.heap.size w w')) (fun _ i _ => l.length - (intOf i).toNat)
  case atStart =>
    refine ⟨0, p ++ q, Nat.zero_le _, rfl, by rw [bs_append], by rw [List.length_append]; omega, Lib.hid ?_, HB2⟩
    simp [placesE]
  case round =>
    obtain ⟨k, S, hk, rfl, rfl, hS, HS, HB⟩ := hrel
    clear HB2
    have hSz := bs_size S
    by_cases hlt : k < l.length
    · obtain ⟨b, off, rfl, hbl, hc⟩ := (HH.out.below HB.out).elem k hlt
      have ec : wr.cell? ⟨b, off + k, none⟩ = some (.int .i64 (l[k] : Int)) := by rw [hc]; simp [natCells, hlt]
      have hle := H256.out l[k] (List.getElem_mem hlt)
      have hcall := refBytes_any l[k] 1 wr (by unfold maxLen; omega) (by decide)
      obtain ⟨t, ht⟩ : ∃ t, beBytes 1 l[k] = t := ⟨_, rfl⟩
      have htl : t.length = 1 := by rw [← ht, beBytes_len]
      have htz := bs_size t
      rw [ht] at hcall
      have HT := Lib.hid ht
      have HC := Lib.hid hcall
      have HLE := Lib.hid hle
      clear hc ht hcall hle
      go_wp2_with fail
      refine HC.out.mono ?_
      rintro e w3 ⟨rfl, hb⟩
      have HB3 := Lib.hid (HB.out.trans (hb.mono HB.out.size))
      clear hb
      go_wp2_with fail
      refine ⟨⟨k + 1, S ++ t, by omega, by go_num, by rw [bs_append], by rw [List.length_append]; omega, Lib.hid ?_, HB3⟩, by simp [intOf]; omega⟩
      rw [HS.out, placesE_take l k hlt, HT.out]
      simp [List.append_assoc]
    · have hk9 : k = l.length := by omega
      subst hk9
      go_wp2_with fail
      go_ret
      refine ⟨ret_bs ?_, HB.out⟩
      rw [HS.out, List.take_length, ← HP.out, ← HQ.out]
      rfl
end Go.Proofs.YtgjjjdccbpjnfaaGreatDoor

/- The document's content of a mail's record. -/
namespace Go.Proofs.YtgjjjdccbpjnfaaGreatDoor
open Go.RowKit

structure PMail where
  id : Nat
  time : Nat
  frm : List UInt8
  tos : List (List UInt8)
  body : List UInt8

def textsE (l : List (List UInt8)) : List UInt8 := l.flatMap textE
theorem textsE_take (l : List (List UInt8)) (k : Nat) (h : k < l.length) : textsE (l.take (k + 1)) = textsE (l.take k) ++ textE l[k] := by
  unfold textsE; rw [List.take_succ_eq_append_getElem h, List.flatMap_append]; simp
theorem textE_len (l : List UInt8) : (textE l).length = 1 + l.length := by rw [textE, List.length_append, beBytes_len]
def mailE (m : PMail) : List UInt8 := 77 :: (beBytes 4 m.id ++ (beBytes 4 m.time ++ (textE m.frm ++ (beBytes 1 m.tos.length ++ (textsE m.tos ++ (beBytes 2 m.body.length ++ m.body))))))
/-- a mail's five cells -/
def mailCells (m : PMail) (v : Value) : Array Value := #[.int .i64 m.id, .int .i64 m.time, .string (bs m.frm), v, .string (bs m.body)]
def MailSz (m : PMail) : Prop := m.id ≤ 4294967295 ∧ m.time ≤ 4294967295 ∧ m.frm.length ≤ 255 ∧ m.tos.length ≤ 255 ∧ (∀ t ∈ m.tos, t.length ≤ 255) ∧ m.body.length ≤ 1048576
def textCells (l : List (List UInt8)) : List Value := l.map fun t => Value.string (bs t)

theorem below_step {s : Nat} {W0 wc w' : World} (h0 : W0.heap.size = s + 1) (h : Below (s + 1) W0 wc) (hb : Below wc.heap.size wc w') : Below (s + 1) W0 w' := h.trans (hb.mono (by have := h.size; omega))

set_option maxHeartbeats 1000000 in
set_option maxRecDepth 100000 in
theorem refMailed_any (m : PMail) (v : Value) (w : World) (h : RowAt w v m.tos.length 1 (textCells m.tos)) (hz : MailSz m) :
    Calls Tryz.prog 13 #[.agg (mailCells m v)] w fun e w' => e = .returned (.string (bs (mailE m))) ∧ Below w.heap.size w w' := by
  obtain ⟨id, time, frm, tos, body⟩ := m
  obtain ⟨z1, z2, z3, z4, z5, z6⟩ := hz
  simp only at h z1 z2 z3 z4 z5 z6
  obtain ⟨a, cap, rfl, _⟩ := h.one
  have HH := Lib.hid h
  have HZ5 := Lib.hid z5
  have c1 := Lib.hid (fun w' => refBytes_any id 4 w' (by unfold maxLen; omega) (by decide))
  have c2 := Lib.hid (fun w' => refBytes_any time 4 w' (by unfold maxLen; omega) (by decide))
  have c3 := Lib.hid (fun w' => refText_any frm w' (by omega))
  have c4 := Lib.hid (fun w' => refBytes_any tos.length 1 w' (by unfold maxLen; omega) (by decide))
  have c5 := Lib.hid (fun w' => refBytes_any body.length 2 w' (by unfold maxLen; omega) (by decide))
  obtain ⟨p1, hp1⟩ : ∃ p, beBytes 4 id = p := ⟨_, rfl⟩
  obtain ⟨p2, hp2⟩ : ∃ p, beBytes 4 time = p := ⟨_, rfl⟩
  obtain ⟨p3, hp3⟩ : ∃ p, textE frm = p := ⟨_, rfl⟩
  obtain ⟨p4, hp4⟩ : ∃ p, beBytes 1 tos.length = p := ⟨_, rfl⟩
  obtain ⟨p5, hp5⟩ : ∃ p, beBytes 2 body.length = p := ⟨_, rfl⟩
  have l1 : p1.length = 4 := by rw [← hp1, beBytes_len]
  have l2 : p2.length = 4 := by rw [← hp2, beBytes_len]
  have l3 : p3.length ≤ 256 := by rw [← hp3, textE_len]; omega
  have l4 : p4.length = 1 := by rw [← hp4, beBytes_len]
  have l5 : p5.length = 2 := by rw [← hp5, beBytes_len]
  have s1 := bs_size p1
  have s2 := bs_size p2
  have s3 := bs_size p3
  have s4 := bs_size p4
  have s5 := bs_size p5
  have s6 := bs_size body
  have s7 := bs_size frm
  rw [hp1] at c1
  rw [hp2] at c2
  rw [hp3] at c3
  rw [hp4] at c4
  rw [hp5] at c5
  have HP : Hid (mailE ⟨id, time, frm, tos, body⟩ = 77 :: (p1 ++ (p2 ++ (p3 ++ (p4 ++ (textsE tos ++ (p5 ++ body))))))) := Lib.hid (by rw [← hp1, ← hp2, ← hp3, ← hp4, ← hp5]; rfl)
  clear hp1 hp2 hp3 hp4 hp5 h z5
  simp only [mailCells]
  go_enter Tryz.func13, Tryz.ntmps13
  go_wp2_with fail
  obtain ⟨W0, hW0⟩ : ∃ W0 : World, w.alloc (.cells #[.int .i64 id, .int .i64 time, .string (bs frm), .slice a tos.length cap, .string (bs body)] 26) = W0 := ⟨_, rfl⟩
  have hs0 : W0.heap.size = w.heap.size + 1 := by rw [← hW0]; simp
  have hb0 : Below w.heap.size w W0 := by rw [← hW0]; exact (Below.refl _ _).alloc (Nat.le_refl _) _
  have hx : ∀ j : Nat, W0.cell? ⟨w.heap.size, j, none⟩ = (#[.int .i64 id, .int .i64 time, .string (bs frm), .slice a tos.length cap, .string (bs body)] : Array Value)[j]? := fun j => by rw [← hW0]; exact World.cell?_alloc_mark w _ 26 (0, 0) j
  rw [hW0]
  clear hW0
  have HX : Hid (∀ w' : World, Below (w.heap.size + 1) W0 w' → ∀ j : Nat, w'.cell? ⟨w.heap.size, j, none⟩ = (#[.int .i64 id, .int .i64 time, .string (bs frm), .slice a tos.length cap, .string (bs body)] : Array Value)[j]?) := Lib.hid (fun w' hb j => (hb.cell (show w.heap.size < w.heap.size + 1 by omega)).trans (hx j))
  clear hx
  have HK : Hid (∀ w' : World, Below (w.heap.size + 1) W0 w' → (Below (w.heap.size + 1) W0 w' ∧ w'.cell? ⟨w.heap.size, 0, none⟩ = some (.int .i64 id) ∧ w'.cell? ⟨w.heap.size, 1, none⟩ = some (.int .i64 time) ∧ w'.cell? ⟨w.heap.size, 2, none⟩ = some (.string (bs frm)) ∧ w'.cell? ⟨w.heap.size, 3, none⟩ = some (.slice a tos.length cap))) := Lib.hid (fun w' hb => ⟨hb, HX.out w' hb 0, HX.out w' hb 1, HX.out w' hb 2, HX.out w' hb 3⟩)
  have HB0 := Lib.hid hb0
  have HR0 : Below (w.heap.size + 1) W0 W0 := Below.refl _ _
  clear hb0
  obtain ⟨_, k0, k1, k2, k3⟩ := HK.out W0 HR0
  have q1 : ¬ 9223372036854775807 < 9 + p3.length := by omega
  have q2 : ¬ 9223372036854775807 < 9 + p3.length + 1 := by omega
  go_region_held3 (fun w' => Below (w.heap.size + 1) W0 w' ∧ w'.cell? ⟨w.heap.size, 0, none⟩ = some (.int .i64 id) ∧ w'.cell? ⟨w.heap.size, 1, none⟩ = some (.int .i64 time) ∧ w'.cell? ⟨w.heap.size, 2, none⟩ = some (.string (bs frm)) ∧ w'.cell? ⟨w.heap.size, 3, none⟩ = some (.slice a tos.length cap))
    (first | exact HK.out _ B4 | exact HK.out _ B3 | exact HK.out _ B2 | exact HK.out _ B1 | exact HK.out _ HR0.drew | exact HK.out _ HR0 | exact HK.out _ B1.drew | exact HK.out _ B2.drew | exact HK.out _ B3.drew | exact HK.out _ B4.drew)
    (first
      | (go_at_call 28; refine (c3.out _).mono ?_; rintro e w3 ⟨rfl, hb3⟩; have B3 := below_step hs0 B2 hb3)
      | (go_at_call_of 26 (Value.int .i64 (id : Int)); refine (c1.out _).mono ?_; rintro e w1 ⟨rfl, hb1⟩; have B1 := below_step hs0 HR0.drew hb1)
      | (go_at_call_of 26 (Value.int .i64 (time : Int)); refine (c2.out _).mono ?_; rintro e w2 ⟨rfl, hb2⟩; have B2 := below_step hs0 B1 hb2)
      | (go_at_call_of 26 (Value.int .i64 (tos.length : Int)); refine (c4.out _).mono ?_; rintro e w4 ⟨rfl, hb4⟩; have B4 := below_step hs0 B3 hb4))
  have HB4 := Lib.hid B4
  obtain ⟨P, hP⟩ : ∃ P, P = 77 :: (p1 ++ (p2 ++ (p3 ++ p4))) := ⟨_, rfl⟩
  have eP : (⟨#[77]⟩ : ByteArray) ++ bs p1 ++ bs p2 ++ bs p3 ++ bs p4 = bs P := by
    rw [show (⟨#[77]⟩ : ByteArray) = bs [77] from rfl, bs_append, bs_append, bs_append, bs_append, hP]
    simp [List.append_assoc]
  have hPl : P.length = 10 + p3.length := by rw [hP]; simp; omega
  rw [eP]
  have HPP := Lib.hid hP
  have hPz := bs_size P
  clear hb1 hb2 hb3 hb4 B1 B2 B3 B4 HR0 k0 k1 k2 k3 hP eP q1 q2 c1 c2 c3 c4
  go_wp2_with fail
  go_loopw [3, 4] (fun sv i w' => ∃ (k : Nat) (S : List UInt8), k ≤ tos.length ∧ i = .int .i64 k ∧ sv = .string (bs S) ∧ S.length ≤ 266 + 256 * k ∧ Hid (S = P ++ textsE (tos.take k)) ∧ Hid (Below (w.heap.size + 1) W0 w')) (fun _ i _ => tos.length - (intOf i).toNat)
  case atStart => exact ⟨0, P, Nat.zero_le _, rfl, rfl, by omega, Lib.hid (by simp [textsE]), HB4⟩
  case round =>
    clear HB4
    obtain ⟨k, S, hk, rfl, rfl, hS, HS, HB⟩ := hrel
    have hSz := bs_size S
    have k3 : wr.cell? ⟨w.heap.size, 3, none⟩ = some (.slice a tos.length cap) := HX.out wr HB.out 3
    by_cases hlt : k < tos.length
    · obtain ⟨b, off, rfl, hbl, hc⟩ := (HH.out.below (HB0.out.trans (HB.out.mono (by omega)))).elem k hlt
      have ec : wr.cell? ⟨b, off + k, none⟩ = some (.string (bs tos[k])) := by rw [hc]; simp [textCells, hlt]
      have hle := HZ5.out tos[k] (List.getElem_mem hlt)
      have hcall := refText_any tos[k] wr (by omega)
      obtain ⟨t, ht⟩ : ∃ t, textE tos[k] = t := ⟨_, rfl⟩
      have htl : t.length ≤ 256 := by rw [← ht, textE_len]; omega
      have htz := bs_size t
      rw [ht] at hcall
      have HT := Lib.hid ht
      have HC := Lib.hid hcall
      clear hc ht hcall hle
      go_wp2_with fail
      refine HC.out.mono ?_
      rintro e w5 ⟨rfl, hb⟩
      have HB3 := Lib.hid (below_step hs0 HB.out hb)
      clear hb
      go_wp2_with fail
      refine ⟨⟨k + 1, S ++ t, by omega, by go_num, by rw [bs_append], by rw [List.length_append]; omega, Lib.hid ?_, HB3⟩, by simp [intOf]; omega⟩
      rw [HS.out, textsE_take tos k hlt, HT.out]
      simp [List.append_assoc]
    · have hk9 : k = tos.length := by omega
      subst hk9
      have k4 : wr.cell? ⟨w.heap.size, 4, none⟩ = some (.string (bs body)) := HX.out wr HB.out 4
      go_wp2_with fail
      have R0 : Below (w.heap.size + 1) W0 wr := HB.out
      have HK4 : Hid (∀ w' : World, Below (w.heap.size + 1) W0 w' → (Below (w.heap.size + 1) W0 w' ∧ w'.cell? ⟨w.heap.size, 4, none⟩ = some (.string (bs body)))) := Lib.hid (fun w' hb => ⟨hb, HX.out w' hb 4⟩)
      have q1 : ¬ 9223372036854775807 < S.length + 2 := by omega
      have q2 : ¬ 9223372036854775807 < S.length + 2 + body.length := by omega
      have q3 : ¬ 9223372036854775807 < S.length + p5.length := by omega
      have q4 : ¬ 9223372036854775807 < S.length + p5.length + body.length := by omega
      go_region_held3 (fun w' => Below (w.heap.size + 1) W0 w' ∧ w'.cell? ⟨w.heap.size, 4, none⟩ = some (.string (bs body)))
        (first | exact HK4.out _ B5 | exact HK4.out _ R0.drew | exact HK4.out _ R0 | exact HK4.out _ B5.drew)
        (first
          | (go_at_call_of 26 (Value.int .i64 (body.length : Int)); refine (c5.out _).mono ?_; rintro e w5 ⟨rfl, hb5⟩; have B5 := below_step hs0 R0.drew hb5))
      have HB5 := Lib.hid (HB0.out.trans (B5.mono (by omega)))
      clear hb5 B5 R0 k3 k4 q1 q2 q3 q4
      go_wp2_with fail
      go_ret
      refine ⟨ret_bs ?_, HB5.out⟩
      rw [bs_append, bs_append, HP.out, HS.out, HPP.out, List.take_length]
      simp [List.append_assoc]
end Go.Proofs.YtgjjjdccbpjnfaaGreatDoor

/- Frames by the blocks' types; the document's reader of lists. -/
namespace Go.Proofs.YtgjjjdccbpjnfaaGreatDoor
open Go.RowKit

def tagOf : Obj → Option TypeId
  | .cells _ t _ => some t
  | _ => none
/-- blocks may be new; of the old ones only those of these types have changed -/
structure Touch (ts : List TypeId) (w w' : World) : Prop where
  size : w.heap.size ≤ w'.heap.size
  block : ∀ (b : Nat) (o : Obj), w.heap[b]? = some o → (∀ t ∈ ts, tagOf o ≠ some t) → w'.heap[b]? = some o
  still : Still w w'
theorem Touch.refl (ts : List TypeId) (w : World) : Touch ts w w := ⟨Nat.le_refl _, fun _ _ h _ => h, Still.refl w⟩
theorem Touch.trans {ts : List TypeId} {a b c : World} (h : Touch ts a b) (h' : Touch ts b c) : Touch ts a c := ⟨Nat.le_trans h.1 h'.1, fun k o e n => h'.2 k o (h.2 k o e n) n, h.3.trans h'.3⟩
theorem Touch.mono {ts us : List TypeId} {a b : World} (h : Touch ts a b) (hs : ∀ t ∈ ts, t ∈ us) : Touch us a b := ⟨h.1, fun k o e n => h.2 k o e (fun t ht => n t (hs t ht)), h.3⟩
theorem Touch.below {ts : List TypeId} {a b : World} (h : Below a.heap.size a b) : Touch ts a b := ⟨h.size, fun k o e _ => (h.block k (by
  rcases Nat.lt_or_ge k a.heap.size with h' | h'
  · exact h'
  · rw [Array.getElem?_eq_none h'] at e; cases e)).trans e, Still.of_below h⟩
theorem Touch.drewN {ts : List TypeId} {a b : World} (h : Touch ts a b) (n : Nat) : Touch ts a (b.drewN n) := ⟨by simpa using h.1, fun k o e m => by simpa using h.2 k o e m, h.3.trans (still_drewN n b)⟩
theorem Touch.alloc {ts : List TypeId} {a b : World} (h : Touch ts a b) (o : Obj) : Touch ts a (b.alloc o) := h.trans (Touch.below ((Below.refl _ _).alloc (Nat.le_refl _) o))
theorem Touch.same {ts : List TypeId} {a b c : World} {k : Nat} {A : Array Value} {t : TypeId} {z : Nat × Nat} (h : Touch ts a b) (hk : b.heap[k]? = some (.cells A t z)) (ht : t ∈ ts) (hs : Same k b c) : Touch ts a c := by
  refine h.trans ⟨by rw [hs.1]; exact Nat.le_refl _, fun j o e n => ?_, hs.3⟩
  rcases Nat.decEq j k with hne | rfl
  · rw [hs.2 j hne]; exact e
  · rw [hk] at e
    injection e with e
    subst e
    exact absurd rfl (n t ht)
theorem Touch.grown {ts : List TypeId} {a b c : World} {row : Option Nat} (h : Touch ts a b) (hg : b.grownBy c row) (ht : ∀ k, row = some k → ∃ A t z, b.heap[k]? = some (.cells A t z) ∧ t ∈ ts) : Touch ts a c := by
  refine h.trans ⟨hg.size, fun j o e n => ?_, hg.os, hg.tape, hg.output⟩
  have hj : j < b.heap.size := by
    rcases Nat.lt_or_ge j b.heap.size with h' | h'
    · exact h'
    · rw [Array.getElem?_eq_none h'] at e; cases e
  by_cases hr : row = some j
  · obtain ⟨A, t, z, hA, hm⟩ := ht j hr
    rw [hA] at e
    injection e with e
    subst e
    exact absurd rfl (n t hm)
  · rw [hg.block j hj (fun k => hr k.symm)]; exact e
theorem Touch.grownNew {ts : List TypeId} {a b c : World} {row : Option Nat} (h : Touch ts a b) (hg : b.grownBy c row) (ht : ∀ k, row = some k → a.heap.size ≤ k) : Touch ts a c := by
  refine ⟨Nat.le_trans h.1 hg.size, fun j o e n => ?_, h.3.trans ⟨hg.os, hg.tape, hg.output⟩⟩
  have hj : j < a.heap.size := by
    rcases Nat.lt_or_ge j a.heap.size with h' | h'
    · exact h'
    · rw [Array.getElem?_eq_none h'] at e; cases e
  rw [hg.block j (Nat.lt_of_lt_of_le hj h.1) (fun k => by have := ht j k.symm; omega)]
  exact h.2 j o e n
theorem Rd.grown {w w' : World} {b : Nat} {l : List UInt8} {row : Option Nat} (h : Rd w b l) (hg : w.grownBy w' row) (hne : some b ≠ row) : Rd w' b l := by
  have hb : b < w.heap.size := by
    rcases Nat.lt_or_ge b w.heap.size with h' | h'
    · exact h'
    · unfold Rd at h; rw [Array.getElem?_eq_none h'] at h; cases h
  unfold Rd at h ⊢
  rw [hg.block b hb hne]; exact h
theorem Rd.alloc {w : World} {b : Nat} {l : List UInt8} (h : Rd w b l) (o : Obj) : Rd (w.alloc o) b l := by
  have hb : b < w.heap.size := by
    rcases Nat.lt_or_ge b w.heap.size with h' | h'
    · exact h'
    · unfold Rd at h; rw [Array.getElem?_eq_none h'] at h; cases h
  unfold Rd at h ⊢
  rw [((Below.refl w.heap.size w).alloc (Nat.le_refl _) o).block b hb]; exact h
theorem Touch.cells {ts : List TypeId} {a b : World} (h : Touch ts a b) {k : Nat} {A : Array Value} {t : TypeId} {z : Nat × Nat} (hk : a.heap[k]? = some (.cells A t z)) (ht : t ∉ ts) : b.heap[k]? = some (.cells A t z) :=
  h.2 k _ hk (fun u hu e => by simp only [tagOf, Option.some.injEq] at e; exact ht (e ▸ hu))

theorem info_int' : (Tryz.prog.info? 3).map (fun i => (i.zero, i.size, i.bytes)) = some (some (.int .i64 0), 1, 8) := by kernel_rfl
/-- the numbers that a list's bytes say; what is missing reads as 0 -/
def numsOf (n : Nat) (l : List UInt8) : List Nat := (List.range n).map fun i => be ((l.drop i).take 1)
theorem numsOf_len (n : Nat) (l : List UInt8) : (numsOf n l).length = n := by simp [numsOf]
theorem numsOf_succ (n : Nat) (l : List UInt8) : numsOf (n + 1) l = numsOf n l ++ [be ((l.drop n).take 1)] := by
  simp [numsOf, List.range_succ]

set_option maxHeartbeats 400000 in
set_option maxRecDepth 100000 in
theorem rdList_any (b : Nat) (l : List UInt8) (w : World) (h : Rd w b l) (hl : l.length ≤ maxLen) (hbl : b < w.heap.size) :
    Calls Tryz.prog 187 #[.pointer (some ⟨b, 0, none⟩)] w fun e w' => ∃ v, e = .returned (.tuple #[.int .i64 (be (l.take 4)), v]) ∧
      w'.ownsRow w.heap.size 3 1 v (be ((l.drop 4).take 1)) (natCells (numsOf (be ((l.drop 4).take 1)) (l.drop 5))) ∧ Rd w' b ((l.drop 5).drop (be ((l.drop 4).take 1))) ∧ Touch [194] w w' ∧ Below b w w' := by
  obtain ⟨i0, hi, hz0, hz1, hz2⟩ := info_parts info_int'
  have hcall := rdNumber_any b 4 l w h hl (by decide)
  have hl4 : (l.drop 4).length ≤ maxLen := by rw [List.length_drop]; omega
  obtain ⟨l4, e4⟩ : ∃ l4, l.drop 4 = l4 := ⟨_, rfl⟩
  have e5 : l.drop 5 = l4.drop 1 := by rw [← e4, List.drop_drop]
  rw [e5]
  rw [e4] at hcall hl4 ⊢
  obtain ⟨I, hI⟩ : ∃ I, be (l.take 4) = I := ⟨_, rfl⟩
  rw [hI] at hcall ⊢
  have hcall2 := fun w' (h' : Rd w' b l4) => rdNumber_any b 1 l4 w' h' hl4 (by decide)
  have hN := be_byte l4
  have hl5 : (l4.drop 1).length ≤ maxLen := by rw [List.length_drop]; omega
  obtain ⟨N, eN⟩ : ∃ N, be (l4.take 1) = N := ⟨_, rfl⟩
  obtain ⟨l5, e5'⟩ : ∃ l5, l4.drop 1 = l5 := ⟨_, rfl⟩
  rw [eN] at hN
  rw [e5'] at hl5
  rw [eN, e5'] at hcall2 ⊢
  have H := Lib.hid h
  have HC2 := Lib.hid hcall2
  clear h e4 e5 hI eN e5' hcall2 hl hl4
  go_enter Tryz.func187, Tryz.ntmps187
  go_wp2_with fail
  refine hcall.mono ?_
  rintro e w1 ⟨rfl, h1, h2⟩
  have H1 := Lib.hid h1
  have T1 : Hid (Touch [194] w w1) := Lib.hid ((Touch.refl _ w).same H.out (by simp) h2)
  have B1 : Hid (Below b w w1) := Lib.hid (h2.below (Nat.le_refl _))
  clear hcall h1 h2
  go_wp2_with fail
  refine (HC2.out _ H1.out).mono ?_
  rintro e w2 ⟨rfl, h3, h4⟩
  have H2 := Lib.hid h3
  have T2 : Hid (Touch [194] w w2) := Lib.hid (T1.out.same H1.out (by simp) h4)
  have B2 : Hid (Below b w w2) := Lib.hid (B1.out.trans (h4.below (Nat.le_refl _)))
  clear h3 h4 H1 T1 HC2 H B1
  go_wp2_with fail
  go_loopw [6, 7] (fun v i w' => ∃ k : Nat, k ≤ N ∧ i = .int .i64 k ∧ Hid (w'.ownsRow w.heap.size 3 1 v k (natCells (numsOf k l5))) ∧ Hid (Rd w' b (l5.drop k)) ∧ Hid (Touch [194] w w') ∧ Hid (Below b w w')) (fun _ i _ => N - (intOf i).toNat)
  case atStart => exact ⟨0, Nat.zero_le _, rfl, Lib.hid (World.ownsRow_nil _ _ _ _), H2, T2, B2⟩
  case round =>
    clear H2 T2 B2
    obtain ⟨k, hk, rfl, HW, H2, T2, B2⟩ := hrel
    by_cases hlt : k < N
    · have hd : (l5.drop k).length ≤ maxLen := by rw [List.length_drop]; omega
      have hcall := rdNumber_any b 1 (l5.drop k) wr H2.out hd (by decide)
      obtain ⟨x, hx⟩ : ∃ x, be ((l5.drop k).take 1) = x := ⟨_, rfl⟩
      have er : (l5.drop k).drop 1 = l5.drop (k + 1) := by rw [List.drop_drop]
      rw [hx, er] at hcall
      have HXX := Lib.hid hx
      have HC := Lib.hid hcall
      clear hcall hx er hd
      go_wp2_with fail
      refine HC.out.mono ?_
      rintro e w3 ⟨rfl, h3, h4⟩
      have H3 := Lib.hid h3
      have T3 : Hid (Touch [194] w w3) := Lib.hid (T2.out.same H2.out (by simp) h4)
      have B3 : Hid (Below b w w3) := Lib.hid (B2.out.trans (h4.below (Nat.le_refl _)))
      have hown : w3.ownsRow w.heap.size 3 1 u6 k (natCells (numsOf k l5)) := by
        have hw := HW.out
        refine ⟨hw.1, ?_⟩
        rcases hw.2 with hw | ⟨g, cap, cur, e1, e2, e3, e4⟩
        · exact .inl hw
        · exact .inr ⟨g, cap, cur, e1, e2, (h4.2 g (by omega)).trans e3, e4⟩
      clear h3 h4 HC
      go_wp2_with (first
        | (at_builtin; refine wpList_append_own _ rfl _ _ 34 rfl w.heap.size 3 i0 (.int .i64 0) 1 8 Tryz.underlying34 hi hz0 hz1 hz2 rfl (by decide) _ _ _ rfl (hown.alloc _) ⟨w3.heap.size, 0, none⟩ 1 1 [.int .i64 (x : Int)] rfl rfl ?c1 ?c2 ?c3 ?c4 ?c5 ?_)
        | fail)
      case c1 =>
        intro j u hj
        match j, hj with
        | 0, hj =>
          simp only [List.getElem?_cons_zero, Option.some.injEq] at hj
          subst hj
          simp [Addr.add]
      case c2 => intro u hu; simp at hu; subst hu; rfl
      case c3 => unfold maxLen; omega
      case c4 => omega
      case c5 => have := T3.out.1; simp; omega
      · intro v' w4 hown' hgrow _
        have HO := Lib.hid hown'
        have T4 : Hid (Touch [194] w w4) := Lib.hid ((T3.out.alloc _).grownNew hgrow (fun k hk => (hown.lt k hk).1))
        have B4 : Hid (Below b w w4) := Lib.hid ((B3.out.alloc (by have := T3.out.1; omega) _).grown hgrow (by have := T3.out.1; simp; omega) (fun k hk => by have := (hown.lt k hk).1; omega))
        have H4 : Hid (Rd w4 b (l5.drop (k + 1))) := Lib.hid ((H3.out.alloc _).grown hgrow (fun e => by have := (hown.lt b e.symm).1; omega))
        clear hown' hgrow hown T3 H3
        go_wp2_with fail
        refine ⟨⟨k + 1, by omega, by go_num, Lib.hid ?_, H4, T4, B4⟩, by simp [intOf]; omega⟩
        rw [numsOf_succ, HXX.out]
        have := HO.out
        simpa [natCells] using this
    · have hk9 : k = N := by omega
      subst hk9
      go_wp2_with fail
      go_ret2
      exact ⟨u6, rfl, HW.out, H2.out, T2.out, B2.out⟩
end Go.Proofs.YtgjjjdccbpjnfaaGreatDoor

/- The document's addresses as they are kept. -/
namespace Go.Proofs.YtgjjjdccbpjnfaaGreatDoor
open Go.RowKit

/-- an address as it is kept -/
def keptR (l : List UInt8) : List UInt8 × Bool := ((addrR l).1 ++ 64 :: (addrR l).2.1, (addrR l).2.2)
theorem addrR_len (l : List UInt8) : (addrR l).1.length ≤ 20 ∧ (addrR l).2.1.length ≤ 40 := by
  unfold addrR
  split
  · rename_i h
    simp only [Bool.and_eq_true] at h
    obtain ⟨h1, h2⟩ := h
    simp only [locB, domB, Bool.and_eq_true, decide_eq_true_eq] at h1 h2
    simp only [Lib.toLowerA, List.length_map]
    omega
  · simp

set_option maxHeartbeats 400000 in
set_option maxRecDepth 100000 in
theorem refKept_any (l : List UInt8) (w : World) (hl : l.length ≤ maxLen) :
    Calls Tryz.prog 233 #[.string (bs l)] w fun e w' => e = .returned (.tuple #[.string (bs (keptR l).1), .bool (keptR l).2]) ∧ Below w.heap.size w w' := by
  have hcall := refAddress_any (bs l) w (by rw [bs_size]; exact hl)
  go_enter Tryz.func233, Tryz.ntmps233
  go_wp2_with fail
  refine hcall.mono ?_
  rintro e w1 ⟨x, y, f, rfl, hc, hb⟩
  obtain ⟨xl, rfl⟩ : ∃ xl, x = bs xl := ⟨_, (bs_of x).symm⟩
  obtain ⟨yl, rfl⟩ : ∃ yl, y = bs yl := ⟨_, (bs_of y).symm⟩
  rw [bs_toList, bs_toList, bs_toList] at hc
  have hlen := addrR_len l
  rw [hc] at hlen
  obtain ⟨hx, hy⟩ := hlen
  have hx' : (bs xl).size ≤ 20 := by rw [bs_size]; exact hx
  have hy' : (bs yl).size ≤ 40 := by rw [bs_size]; exact hy
  have HC := Lib.hid hc
  have HB := Lib.hid hb
  clear hc hb hx hy hcall
  go_wp2_with fail
  have e1 : bs xl ++ (⟨#[64]⟩ : ByteArray) ++ bs yl = bs (keptR l).1 := by
    rw [show (⟨#[64]⟩ : ByteArray) = bs [64] from rfl, bs_append, bs_append]
    unfold keptR
    rw [HC.out]
    simp
  have e2 : f = (keptR l).2 := by unfold keptR; rw [HC.out]
  rw [e1, e2]
  go_ret2
  exact ⟨rfl, HB.out⟩
end Go.Proofs.YtgjjjdccbpjnfaaGreatDoor
