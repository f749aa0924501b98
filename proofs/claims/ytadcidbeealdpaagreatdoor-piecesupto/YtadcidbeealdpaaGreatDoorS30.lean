import Derived.Test.YtadcidbeealdpaaGreatDoorS29

/- Commands: MAIL. -/
namespace Go.Proofs.YtadcidbeealdpaaGreatDoor
open Go.RowKit

theorem sizeV_eq (o : Option Nat) : sizeV o = .tuple #[.int .i64 ((o.getD 0 : Nat) : Int), .bool o.isSome] := by cases o <;> rfl
def mailC (arg : List UInt8) : PCmd :=
  let o := cutPS arg [70, 82, 79, 77, 58, 60]
  let x := cutR 62 (restOf o)
  if o.isSome && x.2.2 && ((keptR x.1).2 || x.1.isEmpty) && (sizeS x.2.1).isSome then ⟨9, asKeptR x.1, (sizeS x.2.1).getD 0, []⟩ else wrongC
theorem cutR_sub (c : UInt8) (l x y : List UInt8) (f : Bool) (h : cutR c l = (x, y, f)) : (∀ a ∈ x, a ∈ l) ∧ ∀ a ∈ y, a ∈ l := by
  cases hf : (cutR c l).2.2 with
  | true =>
    have := (cutR_found c l hf).1
    rw [h] at this
    simp only at this
    rw [this]
    exact ⟨fun a ha => List.mem_append_left _ ha, fun a ha => List.mem_append_right _ (List.mem_cons_of_mem _ ha)⟩
  | false =>
    have := (cutR_none c l hf).1
    rw [h] at this
    injection this with e1 e2
    injection e2 with e2 _
    subst e1 e2
    exact ⟨fun a ha => ha, fun a ha => by cases ha⟩

set_option maxHeartbeats 1000000 in
set_option maxRecDepth 100000 in
theorem readMail1_any (arg : List UInt8) (m : Int) (w : World) (hl : arg.length ≤ 1048576) (ha : asciiL arg) (hm : w.cell? ⟨0, 0, none⟩ = some (.int .i64 m)) :
    Calls Tryz.prog 88 #[.string (bs arg)] w fun e w' => e = .returned (cmdVal (mailC arg)) ∧ Below w.heap.size w w' := by
  obtain ⟨W0, hW0⟩ : ∃ W0 : World, w.alloc (.cells #[.int .i64 0, .string ⟨#[]⟩, .int .i64 0, .string ⟨#[]⟩] 123) = W0 := ⟨_, rfl⟩
  have B0 : Below w.heap.size w W0 := by rw [← hW0]; exact (Below.refl _ _).alloc (Nat.le_refl _) _
  have X0 : W0.heap[w.heap.size]? = some (.cells #[.int .i64 0, .string ⟨#[]⟩, .int .i64 0, .string ⟨#[]⟩] 123 (0, 0)) := by rw [← hW0]; exact heap_alloc_new w _
  have m0 := (B0.cell (block_lt hm)).trans hm
  have hCP := cutPrefix_any arg [70, 82, 79, 77, 58, 60] W0 hl (by decide) ha (by unfold asciiL; decide)
  rw [cutPV_eq] at hCP
  have hro := restOf_ascii (p := [70, 82, 79, 77, 58, 60]) ha
  have HR : Hid (mailC arg = if (cutPS arg [70, 82, 79, 77, 58, 60]).isSome && (cutR 62 (restOf (cutPS arg [70, 82, 79, 77, 58, 60]))).2.2 && ((keptR (cutR 62 (restOf (cutPS arg [70, 82, 79, 77, 58, 60]))).1).2 || (cutR 62 (restOf (cutPS arg [70, 82, 79, 77, 58, 60]))).1.isEmpty) && (sizeS (cutR 62 (restOf (cutPS arg [70, 82, 79, 77, 58, 60]))).2.1).isSome then ⟨9, asKeptR (cutR 62 (restOf (cutPS arg [70, 82, 79, 77, 58, 60]))).1, (sizeS (cutR 62 (restOf (cutPS arg [70, 82, 79, 77, 58, 60]))).2.1).getD 0, []⟩ else wrongC) := Lib.hid rfl
  unfold cutV at hCP
  obtain ⟨hasFrom, e1⟩ : ∃ b, (cutPS arg [70, 82, 79, 77, 58, 60]).isSome = b := ⟨_, rfl⟩
  obtain ⟨rest, e2⟩ : ∃ r, restOf (cutPS arg [70, 82, 79, 77, 58, 60]) = r := ⟨_, rfl⟩
  rw [e1, e2] at hCP HR
  rw [e2] at hro
  have hrs := bs_size rest
  have HCT := Lib.hid (stringsCut_any (bs rest) 62 W0 (by unfold maxLen; omega))
  have HM0 := Lib.hid m0
  have HRO := Lib.hid hro
  have HCP := Lib.hid hCP
  have HB0 := Lib.hid B0
  have HX0 := Lib.hid X0
  have HW0 := Lib.hid hW0
  clear B0 X0 hW0 hm m0 hCP e1 e2 hro ha
  go_enter Tryz.func88, Tryz.ntmps88
  go_wp2_with fail
  rw [HW0.out]
  refine HCP.out.mono ?_
  rintro e w1 ⟨rfl, rfl⟩
  go_wp2_with fail
  refine HCT.out.mono ?_
  rintro e w2 ⟨x, y, hasEnd, rfl, hc, n, rfl⟩
  rw [bs_toList] at hc
  obtain ⟨name, rfl⟩ : ∃ r, x = bs r := ⟨x.data.toList, rfl⟩
  obtain ⟨behind, rfl⟩ : ∃ r, y = bs r := ⟨y.data.toList, rfl⟩
  rw [bs_toList, bs_toList] at hc
  rw [hc] at HR
  simp only at HR
  have hcl := cut_len 62 _ _ _ _ hc
  have hcs := cutR_sub 62 _ _ _ _ hc
  have hrl := HRO.out.2
  have hAK := asKept_any name m (W0.drewN n) (by omega) (((below_drewN n W0 W0.heap.size).cell (block_lt HM0.out)).trans HM0.out)
  obtain ⟨isA, e5⟩ : ∃ b, (keptR name).2 = b := ⟨_, rfl⟩
  obtain ⟨kp, e6⟩ : ∃ r, asKeptR name = r := ⟨_, rfl⟩
  rw [e5, e6] at hAK HR
  have HSZ : Hid (∀ W : World, Calls Tryz.prog 127 #[.string (bs behind)] W fun e w' => e = .returned (sizeV (sizeS behind)) ∧ Below W.heap.size W w') := Lib.hid (fun W => readSize_any behind W (by omega) (fun a ha => HRO.out.1 a (hcs.2 a ha)))
  rw [sizeV_eq] at HSZ
  obtain ⟨isS, e7⟩ : ∃ b, (sizeS behind).isSome = b := ⟨_, rfl⟩
  obtain ⟨sz, e8⟩ : ∃ r, (sizeS behind).getD 0 = r := ⟨_, rfl⟩
  rw [e7, e8] at HSZ HR
  have HAK := Lib.hid hAK
  clear hc hcl hcs hrl hAK e5 e6 e7 e8 HCT HCP
  go_wp2_with fail
  refine HAK.out.mono ?_
  rintro e w3 ⟨rfl, hb3⟩
  have HB3 := Lib.hid hb3
  clear hb3
  go_wp2_with fail
  refine (HSZ.out w3).mono ?_
  rintro e w4 ⟨rfl, hb4⟩
  have B4 : Below W0.heap.size W0 w4 := (below_drewN n W0 W0.heap.size).trans ((HB3.out.mono (by simp)).trans (hb4.mono (by have := HB3.out.size; simp at this; exact this)))
  obtain ⟨X1, c0, c1, c2, c3, f0, f1, f2, f3⟩ := boxAt (below_some B4 HX0.out)
  have HX1 := Lib.hid X1
  have HB1 := Lib.hid (HB0.out.trans (B4.mono HB0.out.size))
  obtain ⟨em, eem⟩ : ∃ b, name.isEmpty = b := ⟨_, rfl⟩
  have HNM : Hid (em = true ↔ (bs name).toList = []) := Lib.hid (by
    rw [ByteArray.toList_eq, bs_toList, ← eem]
    cases name <;> simp)
  rw [eem] at HR
  clear X1 hb4 HAK HSZ B4 HB3 eem
  by_cases hall : (hasFrom && hasEnd && (isA || em) && isS) = true
  · have HR2 : Hid (mailC arg = ⟨9, kp, sz, []⟩) := Lib.hid (by rw [HR.out, if_pos hall])
    simp only [Bool.and_eq_true] at hall
    obtain ⟨⟨⟨rfl, rfl⟩, h3⟩, rfl⟩ := hall
    have hcs : isA = true ∨ (isA = false ∧ em = true) := by cases isA <;> cases em <;> simp at h3 ⊢
    clear HR h3
    rcases hcs with rfl | ⟨rfl, rfl⟩
    all_goals
      try (have hE : (bs name).toList = [] := HNM.out.1 rfl)
      try (have hE : ¬ (bs name).toList = [] := fun e => Bool.false_ne_true (HNM.out.2 e))
      go_wp2_with fail
      obtain ⟨r0, r1, r2, r3, rS⟩ := four_put (x := .int .i64 9) (y := .string (bs kp)) (z := .int .i64 (sz : Int)) (u := .string ⟨#[]⟩) HX1.out
      refine bodyPost_ret (v := .agg #[.int .i64 9, .string (bs kp), .int .i64 (sz : Int), .string ⟨#[]⟩]) (by simp [results, Tryz.results88, go_sem, r0, r1, r2, r3]) rfl ?_
      exact ⟨by rw [HR2.out]; rfl, HB1.out.trans (rS.below (Nat.le_refl _))⟩
  · have HR2 : Hid (mailC arg = wrongC) := Lib.hid (by rw [HR.out, if_neg hall])
    have hcs : hasFrom = false ∨ (hasFrom = true ∧ hasEnd = false) ∨ (hasFrom = true ∧ hasEnd = true ∧ isA = false ∧ em = false) ∨ (hasFrom = true ∧ hasEnd = true ∧ isA = true ∧ isS = false) ∨ (hasFrom = true ∧ hasEnd = true ∧ isA = false ∧ em = true ∧ isS = false) := by
      cases hasFrom <;> cases hasEnd <;> cases isA <;> cases em <;> cases isS <;> simp at hall ⊢
    clear HR hall
    rcases hcs with rfl | ⟨rfl, rfl⟩ | ⟨rfl, rfl, rfl, rfl⟩ | ⟨rfl, rfl, rfl, rfl⟩ | ⟨rfl, rfl, rfl, rfl, rfl⟩
    all_goals
      try (have hE : (bs name).toList = [] := HNM.out.1 rfl)
      try (have hE : ¬ (bs name).toList = [] := fun e => Bool.false_ne_true (HNM.out.2 e))
      go_wp2_with fail
      obtain ⟨r0, r1, r2, r3, rS⟩ := four_put (x := .int .i64 1) (y := .string ⟨#[]⟩) (z := .int .i64 0) (u := .string ⟨#[]⟩) HX1.out
      refine bodyPost_ret (v := .agg #[.int .i64 1, .string ⟨#[]⟩, .int .i64 0, .string ⟨#[]⟩]) (by simp [results, Tryz.results88, go_sem, r0, r1, r2, r3]) rfl ?_
      exact ⟨by rw [HR2.out]; rfl, HB1.out.trans (rS.below (Nat.le_refl _))⟩
end Go.Proofs.YtadcidbeealdpaaGreatDoor
