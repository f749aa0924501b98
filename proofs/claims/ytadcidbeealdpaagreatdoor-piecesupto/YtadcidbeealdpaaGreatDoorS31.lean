import Derived.Test.YtadcidbeealdpaaGreatDoorS30

/- A line is read as a command. -/
namespace Go.Proofs.YtadcidbeealdpaaGreatDoor
open Go.RowKit

def verbs : List (List UInt8) := [[81, 85, 73, 84], [78, 79, 79, 80], [82, 83, 69, 84], [68, 65, 84, 65], [72, 69, 76, 79], [69, 72, 76, 79], [65, 85, 84, 72], [77, 65, 73, 76], [82, 67, 80, 84]]
def cmdOf (W : List UInt8) (arg : List UInt8) (has : Bool) : PCmd :=
  if W = [81, 85, 73, 84] then loneOr 2 has
  else if W = [78, 79, 79, 80] then loneOr 3 has
  else if W = [82, 83, 69, 84] then loneOr 4 has
  else if W = [68, 65, 84, 65] then loneOr 5 has
  else if W = [72, 69, 76, 79] then greetC 6 arg
  else if W = [69, 72, 76, 79] then greetC 7 arg
  else if W = [65, 85, 84, 72] then authC arg
  else if W = [77, 65, 73, 76] then mailC arg
  else if W = [82, 67, 80, 84] then rcptC arg
  else loneC 0
def readC (text : List UInt8) (bad : Bool) : PCmd := if bad then loneC 0 else cmdOf (Lib.toUpperA (cutR 32 text).1) (cutR 32 text).2.1 (cutR 32 text).2.2

set_option maxHeartbeats 1000000 in
set_option maxRecDepth 100000 in
theorem cmdRead_bad (text : List UInt8) (w : World) : Calls Tryz.prog 48 #[.agg #[.string (bs text), .bool true]] w fun e w' => e = .returned (cmdVal (readC text true)) ∧ Below w.heap.size w w' := by
  have HR : Hid (readC text true = loneC 0) := Lib.hid rfl
  go_enter Tryz.func48, Tryz.ntmps48
  go_wp2_with fail
  obtain ⟨W0, hW0⟩ : ∃ W0 : World, w.alloc (.cells #[.string (bs text), .bool true] 89) = W0 := ⟨_, rfl⟩
  have hs0 : W0.heap.size = w.heap.size + 1 := by rw [← hW0]; simp
  have B0 : Below w.heap.size w W0 := by rw [← hW0]; exact (Below.refl _ _).alloc (Nat.le_refl _) _
  rw [hW0]
  have X := heap_alloc_new W0 (.cells #[.int .i64 0, .string ⟨#[]⟩, .int .i64 0, .string ⟨#[]⟩] 123)
  rw [hs0] at X
  obtain ⟨_, c0, c1, c2, c3, _⟩ := boxAt X
  refine bodyPost_ret (v := .agg #[.int .i64 0, .string ⟨#[]⟩, .int .i64 0, .string ⟨#[]⟩]) (by simp [results, Tryz.results48, go_sem, c0, c1, c2, c3]) rfl ?_
  exact ⟨by rw [HR.out]; rfl, B0.alloc B0.size _⟩

theorem upper_any (word : List UInt8) (w : World) (hl : word.length ≤ 1048576) (ha : asciiL word) : Calls Tryz.prog 84 #[.string (bs word)] w fun e w' => e = .returned (.string (bs (Lib.toUpperA word))) ∧ Below w.heap.size w w' := by
  have hs := bs_size word
  exact Tryz.strings_ToUpper_ascii (bs word) w (by omega) (fun j b hb => ha b (List.mem_of_getElem? hb))

set_option maxHeartbeats 1000000 in
set_option maxRecDepth 100000 in
theorem cmdRead_quit (text : List UInt8) (m : Int) (w : World) (hl : text.length ≤ 1048576) (ha : asciiL text) (hm : w.cell? ⟨0, 0, none⟩ = some (.int .i64 m)) (hW : Lib.toUpperA (cutR 32 text).1 = [81, 85, 73, 84]) : Calls Tryz.prog 48 #[.agg #[.string (bs text), .bool false]] w fun e w' => e = .returned (cmdVal (loneOr 2 (cutR 32 text).2.2)) ∧ Below w.heap.size w w' := by
  obtain ⟨W0, hW0⟩ : ∃ W0 : World, w.alloc (.cells #[.string (bs text), .bool false] 89) = W0 := ⟨_, rfl⟩
  have B0 : Below w.heap.size w W0 := by rw [← hW0]; exact (Below.refl _ _).alloc (Nat.le_refl _) _
  have hs0 : W0.heap.size = w.heap.size + 1 := by rw [← hW0]; simp
  have L0 : W0.heap[w.heap.size]? = some (.cells #[.string (bs text), .bool false] 89 (0, 0)) := by rw [← hW0]; exact heap_alloc_new w _
  obtain ⟨W1, hW1⟩ : ∃ W1 : World, W0.alloc (.cells #[.int .i64 0, .string ⟨#[]⟩, .int .i64 0, .string ⟨#[]⟩] 123) = W1 := ⟨_, rfl⟩
  have B1 : Below W0.heap.size W0 W1 := by rw [← hW1]; exact (Below.refl _ _).alloc (Nat.le_refl _) _
  have X1 : W1.heap[w.heap.size + 1]? = some (.cells #[.int .i64 0, .string ⟨#[]⟩, .int .i64 0, .string ⟨#[]⟩] 123 (0, 0)) := by rw [← hW1, ← hs0]; exact heap_alloc_new W0 _
  have L1 := below_some B1 L0
  have l0 : W1.cell? ⟨w.heap.size, 0, none⟩ = some (.string (bs text)) := by rw [Lib.cell_of_heap L1]; rfl
  have l1 : W1.cell? ⟨w.heap.size, 1, none⟩ = some (.bool false) := by rw [Lib.cell_of_heap L1]; rfl
  have B01 : Below w.heap.size w W1 := B0.trans (B1.mono B0.size)
  have hts := bs_size text
  have HCT := Lib.hid (stringsCut_any (bs text) 32 W1 (by unfold maxLen; omega))
  have HM := Lib.hid ((B01.cell (block_lt hm)).trans hm)
  have HA := Lib.hid ha
  have HB1 := Lib.hid B01
  have HX1 := Lib.hid X1
  have HW := Lib.hid hW
  obtain ⟨kx, ekx⟩ : ∃ k, loneOr 2 (cutR 32 text).2.2 = k := ⟨_, rfl⟩
  have HK := Lib.hid ekx
  rw [ekx]
  clear B0 L0 B1 X1 L1 hm ha B01 hW ekx
  go_enter Tryz.func48, Tryz.ntmps48
  go_wp2_with fail
  refine HCT.out.mono ?_
  rintro e w2 ⟨x, y, has, rfl, hc, n, rfl⟩
  rw [bs_toList] at hc
  obtain ⟨word, rfl⟩ : ∃ r, x = bs r := ⟨x.data.toList, rfl⟩
  obtain ⟨arg, rfl⟩ : ∃ r, y = bs r := ⟨y.data.toList, rfl⟩
  rw [bs_toList, bs_toList] at hc
  have hcl := cut_len 32 _ _ _ _ hc
  have hcs := cutR_sub 32 _ _ _ _ hc
  have HUP := Lib.hid (upper_any word (W1.drewN n) (by omega) (fun a ha => HA.out a (hcs.1 a ha)))
  have HAR : Hid (asciiL arg ∧ arg.length ≤ 1048576) := Lib.hid ⟨fun a ha => HA.out a (hcs.2 a ha), by omega⟩
  rw [hc] at HW HK
  simp only at HW HK
  have hwl := HW.out
  rw [hwl] at HUP
  rw [show bs [81, 85, 73, 84] = ⟨#[81, 85, 73, 84]⟩ from rfl] at HUP
  clear hc hcl hcs HCT HA
  go_wp2_with fail
  refine HUP.out.mono ?_
  rintro e w3 ⟨rfl, hb3⟩
  have B3 : Below W1.heap.size W1 w3 := (below_drewN n W1 W1.heap.size).trans (hb3.mono (by simp))
  have HB3 := Lib.hid (HB1.out.trans (B3.mono HB1.out.size))
  have HX3 := Lib.hid (below_some B3 HX1.out)
  have HM3 := Lib.hid ((B3.cell (block_lt HM.out)).trans HM.out)
  clear hb3 B3 HUP
  go_wp2_with fail
  refine (readLone_any 2 has w3).mono ?_
  rintro e w4 ⟨rfl, hb4⟩
  rw [HK.out]
  simp only [cmdVal]
  obtain ⟨X4, c0, c1, c2, c3, f0, f1, f2, f3⟩ := boxAt (below_some hb4 HX3.out)
  have HX4 := Lib.hid X4
  have HB4 := Lib.hid (HB3.out.trans (hb4.mono HB3.out.size))
  clear X4 hb4 HK HW hwl
  go_wp2_with fail
  obtain ⟨r0, r1, r2, r3, rS⟩ := four_put (x := .int .i64 (kx.verb : Int)) (y := .string (bs kx.name)) (z := .int .i64 (kx.size : Int)) (u := .string (bs kx.shown)) HX4.out
  refine bodyPost_ret (v := .agg #[.int .i64 (kx.verb : Int), .string (bs kx.name), .int .i64 (kx.size : Int), .string (bs kx.shown)]) (by simp [results, Tryz.results48, go_sem, r0, r1, r2, r3]) rfl ?_
  exact ⟨rfl, HB4.out.trans (rS.below (Nat.le_succ _))⟩
set_option maxHeartbeats 1000000 in
set_option maxRecDepth 100000 in
theorem cmdRead_noop (text : List UInt8) (m : Int) (w : World) (hl : text.length ≤ 1048576) (ha : asciiL text) (hm : w.cell? ⟨0, 0, none⟩ = some (.int .i64 m)) (hW : Lib.toUpperA (cutR 32 text).1 = [78, 79, 79, 80]) : Calls Tryz.prog 48 #[.agg #[.string (bs text), .bool false]] w fun e w' => e = .returned (cmdVal (loneOr 3 (cutR 32 text).2.2)) ∧ Below w.heap.size w w' := by
  obtain ⟨W0, hW0⟩ : ∃ W0 : World, w.alloc (.cells #[.string (bs text), .bool false] 89) = W0 := ⟨_, rfl⟩
  have B0 : Below w.heap.size w W0 := by rw [← hW0]; exact (Below.refl _ _).alloc (Nat.le_refl _) _
  have hs0 : W0.heap.size = w.heap.size + 1 := by rw [← hW0]; simp
  have L0 : W0.heap[w.heap.size]? = some (.cells #[.string (bs text), .bool false] 89 (0, 0)) := by rw [← hW0]; exact heap_alloc_new w _
  obtain ⟨W1, hW1⟩ : ∃ W1 : World, W0.alloc (.cells #[.int .i64 0, .string ⟨#[]⟩, .int .i64 0, .string ⟨#[]⟩] 123) = W1 := ⟨_, rfl⟩
  have B1 : Below W0.heap.size W0 W1 := by rw [← hW1]; exact (Below.refl _ _).alloc (Nat.le_refl _) _
  have X1 : W1.heap[w.heap.size + 1]? = some (.cells #[.int .i64 0, .string ⟨#[]⟩, .int .i64 0, .string ⟨#[]⟩] 123 (0, 0)) := by rw [← hW1, ← hs0]; exact heap_alloc_new W0 _
  have L1 := below_some B1 L0
  have l0 : W1.cell? ⟨w.heap.size, 0, none⟩ = some (.string (bs text)) := by rw [Lib.cell_of_heap L1]; rfl
  have l1 : W1.cell? ⟨w.heap.size, 1, none⟩ = some (.bool false) := by rw [Lib.cell_of_heap L1]; rfl
  have B01 : Below w.heap.size w W1 := B0.trans (B1.mono B0.size)
  have hts := bs_size text
  have HCT := Lib.hid (stringsCut_any (bs text) 32 W1 (by unfold maxLen; omega))
  have HM := Lib.hid ((B01.cell (block_lt hm)).trans hm)
  have HA := Lib.hid ha
  have HB1 := Lib.hid B01
  have HX1 := Lib.hid X1
  have HW := Lib.hid hW
  obtain ⟨kx, ekx⟩ : ∃ k, loneOr 3 (cutR 32 text).2.2 = k := ⟨_, rfl⟩
  have HK := Lib.hid ekx
  rw [ekx]
  clear B0 L0 B1 X1 L1 hm ha B01 hW ekx
  go_enter Tryz.func48, Tryz.ntmps48
  go_wp2_with fail
  refine HCT.out.mono ?_
  rintro e w2 ⟨x, y, has, rfl, hc, n, rfl⟩
  rw [bs_toList] at hc
  obtain ⟨word, rfl⟩ : ∃ r, x = bs r := ⟨x.data.toList, rfl⟩
  obtain ⟨arg, rfl⟩ : ∃ r, y = bs r := ⟨y.data.toList, rfl⟩
  rw [bs_toList, bs_toList] at hc
  have hcl := cut_len 32 _ _ _ _ hc
  have hcs := cutR_sub 32 _ _ _ _ hc
  have HUP := Lib.hid (upper_any word (W1.drewN n) (by omega) (fun a ha => HA.out a (hcs.1 a ha)))
  have HAR : Hid (asciiL arg ∧ arg.length ≤ 1048576) := Lib.hid ⟨fun a ha => HA.out a (hcs.2 a ha), by omega⟩
  rw [hc] at HW HK
  simp only at HW HK
  have hwl := HW.out
  rw [hwl] at HUP
  rw [show bs [78, 79, 79, 80] = ⟨#[78, 79, 79, 80]⟩ from rfl] at HUP
  clear hc hcl hcs HCT HA
  go_wp2_with fail
  refine HUP.out.mono ?_
  rintro e w3 ⟨rfl, hb3⟩
  have B3 : Below W1.heap.size W1 w3 := (below_drewN n W1 W1.heap.size).trans (hb3.mono (by simp))
  have HB3 := Lib.hid (HB1.out.trans (B3.mono HB1.out.size))
  have HX3 := Lib.hid (below_some B3 HX1.out)
  have HM3 := Lib.hid ((B3.cell (block_lt HM.out)).trans HM.out)
  clear hb3 B3 HUP
  go_wp2_with fail
  refine (readLone_any 3 has w3).mono ?_
  rintro e w4 ⟨rfl, hb4⟩
  rw [HK.out]
  simp only [cmdVal]
  obtain ⟨X4, c0, c1, c2, c3, f0, f1, f2, f3⟩ := boxAt (below_some hb4 HX3.out)
  have HX4 := Lib.hid X4
  have HB4 := Lib.hid (HB3.out.trans (hb4.mono HB3.out.size))
  clear X4 hb4 HK HW hwl
  go_wp2_with fail
  obtain ⟨r0, r1, r2, r3, rS⟩ := four_put (x := .int .i64 (kx.verb : Int)) (y := .string (bs kx.name)) (z := .int .i64 (kx.size : Int)) (u := .string (bs kx.shown)) HX4.out
  refine bodyPost_ret (v := .agg #[.int .i64 (kx.verb : Int), .string (bs kx.name), .int .i64 (kx.size : Int), .string (bs kx.shown)]) (by simp [results, Tryz.results48, go_sem, r0, r1, r2, r3]) rfl ?_
  exact ⟨rfl, HB4.out.trans (rS.below (Nat.le_succ _))⟩
set_option maxHeartbeats 1000000 in
set_option maxRecDepth 100000 in
theorem cmdRead_rset (text : List UInt8) (m : Int) (w : World) (hl : text.length ≤ 1048576) (ha : asciiL text) (hm : w.cell? ⟨0, 0, none⟩ = some (.int .i64 m)) (hW : Lib.toUpperA (cutR 32 text).1 = [82, 83, 69, 84]) : Calls Tryz.prog 48 #[.agg #[.string (bs text), .bool false]] w fun e w' => e = .returned (cmdVal (loneOr 4 (cutR 32 text).2.2)) ∧ Below w.heap.size w w' := by
  obtain ⟨W0, hW0⟩ : ∃ W0 : World, w.alloc (.cells #[.string (bs text), .bool false] 89) = W0 := ⟨_, rfl⟩
  have B0 : Below w.heap.size w W0 := by rw [← hW0]; exact (Below.refl _ _).alloc (Nat.le_refl _) _
  have hs0 : W0.heap.size = w.heap.size + 1 := by rw [← hW0]; simp
  have L0 : W0.heap[w.heap.size]? = some (.cells #[.string (bs text), .bool false] 89 (0, 0)) := by rw [← hW0]; exact heap_alloc_new w _
  obtain ⟨W1, hW1⟩ : ∃ W1 : World, W0.alloc (.cells #[.int .i64 0, .string ⟨#[]⟩, .int .i64 0, .string ⟨#[]⟩] 123) = W1 := ⟨_, rfl⟩
  have B1 : Below W0.heap.size W0 W1 := by rw [← hW1]; exact (Below.refl _ _).alloc (Nat.le_refl _) _
  have X1 : W1.heap[w.heap.size + 1]? = some (.cells #[.int .i64 0, .string ⟨#[]⟩, .int .i64 0, .string ⟨#[]⟩] 123 (0, 0)) := by rw [← hW1, ← hs0]; exact heap_alloc_new W0 _
  have L1 := below_some B1 L0
  have l0 : W1.cell? ⟨w.heap.size, 0, none⟩ = some (.string (bs text)) := by rw [Lib.cell_of_heap L1]; rfl
  have l1 : W1.cell? ⟨w.heap.size, 1, none⟩ = some (.bool false) := by rw [Lib.cell_of_heap L1]; rfl
  have B01 : Below w.heap.size w W1 := B0.trans (B1.mono B0.size)
  have hts := bs_size text
  have HCT := Lib.hid (stringsCut_any (bs text) 32 W1 (by unfold maxLen; omega))
  have HM := Lib.hid ((B01.cell (block_lt hm)).trans hm)
  have HA := Lib.hid ha
  have HB1 := Lib.hid B01
  have HX1 := Lib.hid X1
  have HW := Lib.hid hW
  obtain ⟨kx, ekx⟩ : ∃ k, loneOr 4 (cutR 32 text).2.2 = k := ⟨_, rfl⟩
  have HK := Lib.hid ekx
  rw [ekx]
  clear B0 L0 B1 X1 L1 hm ha B01 hW ekx
  go_enter Tryz.func48, Tryz.ntmps48
  go_wp2_with fail
  refine HCT.out.mono ?_
  rintro e w2 ⟨x, y, has, rfl, hc, n, rfl⟩
  rw [bs_toList] at hc
  obtain ⟨word, rfl⟩ : ∃ r, x = bs r := ⟨x.data.toList, rfl⟩
  obtain ⟨arg, rfl⟩ : ∃ r, y = bs r := ⟨y.data.toList, rfl⟩
  rw [bs_toList, bs_toList] at hc
  have hcl := cut_len 32 _ _ _ _ hc
  have hcs := cutR_sub 32 _ _ _ _ hc
  have HUP := Lib.hid (upper_any word (W1.drewN n) (by omega) (fun a ha => HA.out a (hcs.1 a ha)))
  have HAR : Hid (asciiL arg ∧ arg.length ≤ 1048576) := Lib.hid ⟨fun a ha => HA.out a (hcs.2 a ha), by omega⟩
  rw [hc] at HW HK
  simp only at HW HK
  have hwl := HW.out
  rw [hwl] at HUP
  rw [show bs [82, 83, 69, 84] = ⟨#[82, 83, 69, 84]⟩ from rfl] at HUP
  clear hc hcl hcs HCT HA
  go_wp2_with fail
  refine HUP.out.mono ?_
  rintro e w3 ⟨rfl, hb3⟩
  have B3 : Below W1.heap.size W1 w3 := (below_drewN n W1 W1.heap.size).trans (hb3.mono (by simp))
  have HB3 := Lib.hid (HB1.out.trans (B3.mono HB1.out.size))
  have HX3 := Lib.hid (below_some B3 HX1.out)
  have HM3 := Lib.hid ((B3.cell (block_lt HM.out)).trans HM.out)
  clear hb3 B3 HUP
  go_wp2_with fail
  refine (readLone_any 4 has w3).mono ?_
  rintro e w4 ⟨rfl, hb4⟩
  rw [HK.out]
  simp only [cmdVal]
  obtain ⟨X4, c0, c1, c2, c3, f0, f1, f2, f3⟩ := boxAt (below_some hb4 HX3.out)
  have HX4 := Lib.hid X4
  have HB4 := Lib.hid (HB3.out.trans (hb4.mono HB3.out.size))
  clear X4 hb4 HK HW hwl
  go_wp2_with fail
  obtain ⟨r0, r1, r2, r3, rS⟩ := four_put (x := .int .i64 (kx.verb : Int)) (y := .string (bs kx.name)) (z := .int .i64 (kx.size : Int)) (u := .string (bs kx.shown)) HX4.out
  refine bodyPost_ret (v := .agg #[.int .i64 (kx.verb : Int), .string (bs kx.name), .int .i64 (kx.size : Int), .string (bs kx.shown)]) (by simp [results, Tryz.results48, go_sem, r0, r1, r2, r3]) rfl ?_
  exact ⟨rfl, HB4.out.trans (rS.below (Nat.le_succ _))⟩
set_option maxHeartbeats 1000000 in
set_option maxRecDepth 100000 in
theorem cmdRead_data (text : List UInt8) (m : Int) (w : World) (hl : text.length ≤ 1048576) (ha : asciiL text) (hm : w.cell? ⟨0, 0, none⟩ = some (.int .i64 m)) (hW : Lib.toUpperA (cutR 32 text).1 = [68, 65, 84, 65]) : Calls Tryz.prog 48 #[.agg #[.string (bs text), .bool false]] w fun e w' => e = .returned (cmdVal (loneOr 5 (cutR 32 text).2.2)) ∧ Below w.heap.size w w' := by
  obtain ⟨W0, hW0⟩ : ∃ W0 : World, w.alloc (.cells #[.string (bs text), .bool false] 89) = W0 := ⟨_, rfl⟩
  have B0 : Below w.heap.size w W0 := by rw [← hW0]; exact (Below.refl _ _).alloc (Nat.le_refl _) _
  have hs0 : W0.heap.size = w.heap.size + 1 := by rw [← hW0]; simp
  have L0 : W0.heap[w.heap.size]? = some (.cells #[.string (bs text), .bool false] 89 (0, 0)) := by rw [← hW0]; exact heap_alloc_new w _
  obtain ⟨W1, hW1⟩ : ∃ W1 : World, W0.alloc (.cells #[.int .i64 0, .string ⟨#[]⟩, .int .i64 0, .string ⟨#[]⟩] 123) = W1 := ⟨_, rfl⟩
  have B1 : Below W0.heap.size W0 W1 := by rw [← hW1]; exact (Below.refl _ _).alloc (Nat.le_refl _) _
  have X1 : W1.heap[w.heap.size + 1]? = some (.cells #[.int .i64 0, .string ⟨#[]⟩, .int .i64 0, .string ⟨#[]⟩] 123 (0, 0)) := by rw [← hW1, ← hs0]; exact heap_alloc_new W0 _
  have L1 := below_some B1 L0
  have l0 : W1.cell? ⟨w.heap.size, 0, none⟩ = some (.string (bs text)) := by rw [Lib.cell_of_heap L1]; rfl
  have l1 : W1.cell? ⟨w.heap.size, 1, none⟩ = some (.bool false) := by rw [Lib.cell_of_heap L1]; rfl
  have B01 : Below w.heap.size w W1 := B0.trans (B1.mono B0.size)
  have hts := bs_size text
  have HCT := Lib.hid (stringsCut_any (bs text) 32 W1 (by unfold maxLen; omega))
  have HM := Lib.hid ((B01.cell (block_lt hm)).trans hm)
  have HA := Lib.hid ha
  have HB1 := Lib.hid B01
  have HX1 := Lib.hid X1
  have HW := Lib.hid hW
  obtain ⟨kx, ekx⟩ : ∃ k, loneOr 5 (cutR 32 text).2.2 = k := ⟨_, rfl⟩
  have HK := Lib.hid ekx
  rw [ekx]
  clear B0 L0 B1 X1 L1 hm ha B01 hW ekx
  go_enter Tryz.func48, Tryz.ntmps48
  go_wp2_with fail
  refine HCT.out.mono ?_
  rintro e w2 ⟨x, y, has, rfl, hc, n, rfl⟩
  rw [bs_toList] at hc
  obtain ⟨word, rfl⟩ : ∃ r, x = bs r := ⟨x.data.toList, rfl⟩
  obtain ⟨arg, rfl⟩ : ∃ r, y = bs r := ⟨y.data.toList, rfl⟩
  rw [bs_toList, bs_toList] at hc
  have hcl := cut_len 32 _ _ _ _ hc
  have hcs := cutR_sub 32 _ _ _ _ hc
  have HUP := Lib.hid (upper_any word (W1.drewN n) (by omega) (fun a ha => HA.out a (hcs.1 a ha)))
  have HAR : Hid (asciiL arg ∧ arg.length ≤ 1048576) := Lib.hid ⟨fun a ha => HA.out a (hcs.2 a ha), by omega⟩
  rw [hc] at HW HK
  simp only at HW HK
  have hwl := HW.out
  rw [hwl] at HUP
  rw [show bs [68, 65, 84, 65] = ⟨#[68, 65, 84, 65]⟩ from rfl] at HUP
  clear hc hcl hcs HCT HA
  go_wp2_with fail
  refine HUP.out.mono ?_
  rintro e w3 ⟨rfl, hb3⟩
  have B3 : Below W1.heap.size W1 w3 := (below_drewN n W1 W1.heap.size).trans (hb3.mono (by simp))
  have HB3 := Lib.hid (HB1.out.trans (B3.mono HB1.out.size))
  have HX3 := Lib.hid (below_some B3 HX1.out)
  have HM3 := Lib.hid ((B3.cell (block_lt HM.out)).trans HM.out)
  clear hb3 B3 HUP
  go_wp2_with fail
  refine (readLone_any 5 has w3).mono ?_
  rintro e w4 ⟨rfl, hb4⟩
  rw [HK.out]
  simp only [cmdVal]
  obtain ⟨X4, c0, c1, c2, c3, f0, f1, f2, f3⟩ := boxAt (below_some hb4 HX3.out)
  have HX4 := Lib.hid X4
  have HB4 := Lib.hid (HB3.out.trans (hb4.mono HB3.out.size))
  clear X4 hb4 HK HW hwl
  go_wp2_with fail
  obtain ⟨r0, r1, r2, r3, rS⟩ := four_put (x := .int .i64 (kx.verb : Int)) (y := .string (bs kx.name)) (z := .int .i64 (kx.size : Int)) (u := .string (bs kx.shown)) HX4.out
  refine bodyPost_ret (v := .agg #[.int .i64 (kx.verb : Int), .string (bs kx.name), .int .i64 (kx.size : Int), .string (bs kx.shown)]) (by simp [results, Tryz.results48, go_sem, r0, r1, r2, r3]) rfl ?_
  exact ⟨rfl, HB4.out.trans (rS.below (Nat.le_succ _))⟩
set_option maxHeartbeats 1000000 in
set_option maxRecDepth 100000 in
theorem cmdRead_helo (text : List UInt8) (m : Int) (w : World) (hl : text.length ≤ 1048576) (ha : asciiL text) (hm : w.cell? ⟨0, 0, none⟩ = some (.int .i64 m)) (hW : Lib.toUpperA (cutR 32 text).1 = [72, 69, 76, 79]) : Calls Tryz.prog 48 #[.agg #[.string (bs text), .bool false]] w fun e w' => e = .returned (cmdVal (greetC 6 (cutR 32 text).2.1)) ∧ Below w.heap.size w w' := by
  obtain ⟨W0, hW0⟩ : ∃ W0 : World, w.alloc (.cells #[.string (bs text), .bool false] 89) = W0 := ⟨_, rfl⟩
  have B0 : Below w.heap.size w W0 := by rw [← hW0]; exact (Below.refl _ _).alloc (Nat.le_refl _) _
  have hs0 : W0.heap.size = w.heap.size + 1 := by rw [← hW0]; simp
  have L0 : W0.heap[w.heap.size]? = some (.cells #[.string (bs text), .bool false] 89 (0, 0)) := by rw [← hW0]; exact heap_alloc_new w _
  obtain ⟨W1, hW1⟩ : ∃ W1 : World, W0.alloc (.cells #[.int .i64 0, .string ⟨#[]⟩, .int .i64 0, .string ⟨#[]⟩] 123) = W1 := ⟨_, rfl⟩
  have B1 : Below W0.heap.size W0 W1 := by rw [← hW1]; exact (Below.refl _ _).alloc (Nat.le_refl _) _
  have X1 : W1.heap[w.heap.size + 1]? = some (.cells #[.int .i64 0, .string ⟨#[]⟩, .int .i64 0, .string ⟨#[]⟩] 123 (0, 0)) := by rw [← hW1, ← hs0]; exact heap_alloc_new W0 _
  have L1 := below_some B1 L0
  have l0 : W1.cell? ⟨w.heap.size, 0, none⟩ = some (.string (bs text)) := by rw [Lib.cell_of_heap L1]; rfl
  have l1 : W1.cell? ⟨w.heap.size, 1, none⟩ = some (.bool false) := by rw [Lib.cell_of_heap L1]; rfl
  have B01 : Below w.heap.size w W1 := B0.trans (B1.mono B0.size)
  have hts := bs_size text
  have HCT := Lib.hid (stringsCut_any (bs text) 32 W1 (by unfold maxLen; omega))
  have HM := Lib.hid ((B01.cell (block_lt hm)).trans hm)
  have HA := Lib.hid ha
  have HB1 := Lib.hid B01
  have HX1 := Lib.hid X1
  have HW := Lib.hid hW
  obtain ⟨kx, ekx⟩ : ∃ k, greetC 6 (cutR 32 text).2.1 = k := ⟨_, rfl⟩
  have HK := Lib.hid ekx
  rw [ekx]
  clear B0 L0 B1 X1 L1 hm ha B01 hW ekx
  go_enter Tryz.func48, Tryz.ntmps48
  go_wp2_with fail
  refine HCT.out.mono ?_
  rintro e w2 ⟨x, y, has, rfl, hc, n, rfl⟩
  rw [bs_toList] at hc
  obtain ⟨word, rfl⟩ : ∃ r, x = bs r := ⟨x.data.toList, rfl⟩
  obtain ⟨arg, rfl⟩ : ∃ r, y = bs r := ⟨y.data.toList, rfl⟩
  rw [bs_toList, bs_toList] at hc
  have hcl := cut_len 32 _ _ _ _ hc
  have hcs := cutR_sub 32 _ _ _ _ hc
  have HUP := Lib.hid (upper_any word (W1.drewN n) (by omega) (fun a ha => HA.out a (hcs.1 a ha)))
  have HAR : Hid (asciiL arg ∧ arg.length ≤ 1048576) := Lib.hid ⟨fun a ha => HA.out a (hcs.2 a ha), by omega⟩
  rw [hc] at HW HK
  simp only at HW HK
  have hwl := HW.out
  rw [hwl] at HUP
  rw [show bs [72, 69, 76, 79] = ⟨#[72, 69, 76, 79]⟩ from rfl] at HUP
  clear hc hcl hcs HCT HA
  go_wp2_with fail
  refine HUP.out.mono ?_
  rintro e w3 ⟨rfl, hb3⟩
  have B3 : Below W1.heap.size W1 w3 := (below_drewN n W1 W1.heap.size).trans (hb3.mono (by simp))
  have HB3 := Lib.hid (HB1.out.trans (B3.mono HB1.out.size))
  have HX3 := Lib.hid (below_some B3 HX1.out)
  have HM3 := Lib.hid ((B3.cell (block_lt HM.out)).trans HM.out)
  clear hb3 B3 HUP
  go_wp2_with fail
  refine (readGreet_any 6 arg m w3 HAR.out.2 HM3.out).mono ?_
  rintro e w4 ⟨rfl, hb4⟩
  rw [HK.out]
  simp only [cmdVal]
  obtain ⟨X4, c0, c1, c2, c3, f0, f1, f2, f3⟩ := boxAt (below_some hb4 HX3.out)
  have HX4 := Lib.hid X4
  have HB4 := Lib.hid (HB3.out.trans (hb4.mono HB3.out.size))
  clear X4 hb4 HK HW hwl
  go_wp2_with fail
  obtain ⟨r0, r1, r2, r3, rS⟩ := four_put (x := .int .i64 (kx.verb : Int)) (y := .string (bs kx.name)) (z := .int .i64 (kx.size : Int)) (u := .string (bs kx.shown)) HX4.out
  refine bodyPost_ret (v := .agg #[.int .i64 (kx.verb : Int), .string (bs kx.name), .int .i64 (kx.size : Int), .string (bs kx.shown)]) (by simp [results, Tryz.results48, go_sem, r0, r1, r2, r3]) rfl ?_
  exact ⟨rfl, HB4.out.trans (rS.below (Nat.le_succ _))⟩
set_option maxHeartbeats 1000000 in
set_option maxRecDepth 100000 in
theorem cmdRead_ehlo (text : List UInt8) (m : Int) (w : World) (hl : text.length ≤ 1048576) (ha : asciiL text) (hm : w.cell? ⟨0, 0, none⟩ = some (.int .i64 m)) (hW : Lib.toUpperA (cutR 32 text).1 = [69, 72, 76, 79]) : Calls Tryz.prog 48 #[.agg #[.string (bs text), .bool false]] w fun e w' => e = .returned (cmdVal (greetC 7 (cutR 32 text).2.1)) ∧ Below w.heap.size w w' := by
  obtain ⟨W0, hW0⟩ : ∃ W0 : World, w.alloc (.cells #[.string (bs text), .bool false] 89) = W0 := ⟨_, rfl⟩
  have B0 : Below w.heap.size w W0 := by rw [← hW0]; exact (Below.refl _ _).alloc (Nat.le_refl _) _
  have hs0 : W0.heap.size = w.heap.size + 1 := by rw [← hW0]; simp
  have L0 : W0.heap[w.heap.size]? = some (.cells #[.string (bs text), .bool false] 89 (0, 0)) := by rw [← hW0]; exact heap_alloc_new w _
  obtain ⟨W1, hW1⟩ : ∃ W1 : World, W0.alloc (.cells #[.int .i64 0, .string ⟨#[]⟩, .int .i64 0, .string ⟨#[]⟩] 123) = W1 := ⟨_, rfl⟩
  have B1 : Below W0.heap.size W0 W1 := by rw [← hW1]; exact (Below.refl _ _).alloc (Nat.le_refl _) _
  have X1 : W1.heap[w.heap.size + 1]? = some (.cells #[.int .i64 0, .string ⟨#[]⟩, .int .i64 0, .string ⟨#[]⟩] 123 (0, 0)) := by rw [← hW1, ← hs0]; exact heap_alloc_new W0 _
  have L1 := below_some B1 L0
  have l0 : W1.cell? ⟨w.heap.size, 0, none⟩ = some (.string (bs text)) := by rw [Lib.cell_of_heap L1]; rfl
  have l1 : W1.cell? ⟨w.heap.size, 1, none⟩ = some (.bool false) := by rw [Lib.cell_of_heap L1]; rfl
  have B01 : Below w.heap.size w W1 := B0.trans (B1.mono B0.size)
  have hts := bs_size text
  have HCT := Lib.hid (stringsCut_any (bs text) 32 W1 (by unfold maxLen; omega))
  have HM := Lib.hid ((B01.cell (block_lt hm)).trans hm)
  have HA := Lib.hid ha
  have HB1 := Lib.hid B01
  have HX1 := Lib.hid X1
  have HW := Lib.hid hW
  obtain ⟨kx, ekx⟩ : ∃ k, greetC 7 (cutR 32 text).2.1 = k := ⟨_, rfl⟩
  have HK := Lib.hid ekx
  rw [ekx]
  clear B0 L0 B1 X1 L1 hm ha B01 hW ekx
  go_enter Tryz.func48, Tryz.ntmps48
  go_wp2_with fail
  refine HCT.out.mono ?_
  rintro e w2 ⟨x, y, has, rfl, hc, n, rfl⟩
  rw [bs_toList] at hc
  obtain ⟨word, rfl⟩ : ∃ r, x = bs r := ⟨x.data.toList, rfl⟩
  obtain ⟨arg, rfl⟩ : ∃ r, y = bs r := ⟨y.data.toList, rfl⟩
  rw [bs_toList, bs_toList] at hc
  have hcl := cut_len 32 _ _ _ _ hc
  have hcs := cutR_sub 32 _ _ _ _ hc
  have HUP := Lib.hid (upper_any word (W1.drewN n) (by omega) (fun a ha => HA.out a (hcs.1 a ha)))
  have HAR : Hid (asciiL arg ∧ arg.length ≤ 1048576) := Lib.hid ⟨fun a ha => HA.out a (hcs.2 a ha), by omega⟩
  rw [hc] at HW HK
  simp only at HW HK
  have hwl := HW.out
  rw [hwl] at HUP
  rw [show bs [69, 72, 76, 79] = ⟨#[69, 72, 76, 79]⟩ from rfl] at HUP
  clear hc hcl hcs HCT HA
  go_wp2_with fail
  refine HUP.out.mono ?_
  rintro e w3 ⟨rfl, hb3⟩
  have B3 : Below W1.heap.size W1 w3 := (below_drewN n W1 W1.heap.size).trans (hb3.mono (by simp))
  have HB3 := Lib.hid (HB1.out.trans (B3.mono HB1.out.size))
  have HX3 := Lib.hid (below_some B3 HX1.out)
  have HM3 := Lib.hid ((B3.cell (block_lt HM.out)).trans HM.out)
  clear hb3 B3 HUP
  go_wp2_with fail
  refine (readGreet_any 7 arg m w3 HAR.out.2 HM3.out).mono ?_
  rintro e w4 ⟨rfl, hb4⟩
  rw [HK.out]
  simp only [cmdVal]
  obtain ⟨X4, c0, c1, c2, c3, f0, f1, f2, f3⟩ := boxAt (below_some hb4 HX3.out)
  have HX4 := Lib.hid X4
  have HB4 := Lib.hid (HB3.out.trans (hb4.mono HB3.out.size))
  clear X4 hb4 HK HW hwl
  go_wp2_with fail
  obtain ⟨r0, r1, r2, r3, rS⟩ := four_put (x := .int .i64 (kx.verb : Int)) (y := .string (bs kx.name)) (z := .int .i64 (kx.size : Int)) (u := .string (bs kx.shown)) HX4.out
  refine bodyPost_ret (v := .agg #[.int .i64 (kx.verb : Int), .string (bs kx.name), .int .i64 (kx.size : Int), .string (bs kx.shown)]) (by simp [results, Tryz.results48, go_sem, r0, r1, r2, r3]) rfl ?_
  exact ⟨rfl, HB4.out.trans (rS.below (Nat.le_succ _))⟩
set_option maxHeartbeats 1000000 in
set_option maxRecDepth 100000 in
theorem cmdRead_auth (text : List UInt8) (m : Int) (w : World) (hl : text.length ≤ 1048576) (ha : asciiL text) (hm : w.cell? ⟨0, 0, none⟩ = some (.int .i64 m)) (hW : Lib.toUpperA (cutR 32 text).1 = [65, 85, 84, 72]) : Calls Tryz.prog 48 #[.agg #[.string (bs text), .bool false]] w fun e w' => e = .returned (cmdVal (authC (cutR 32 text).2.1)) ∧ Below w.heap.size w w' := by
  obtain ⟨W0, hW0⟩ : ∃ W0 : World, w.alloc (.cells #[.string (bs text), .bool false] 89) = W0 := ⟨_, rfl⟩
  have B0 : Below w.heap.size w W0 := by rw [← hW0]; exact (Below.refl _ _).alloc (Nat.le_refl _) _
  have hs0 : W0.heap.size = w.heap.size + 1 := by rw [← hW0]; simp
  have L0 : W0.heap[w.heap.size]? = some (.cells #[.string (bs text), .bool false] 89 (0, 0)) := by rw [← hW0]; exact heap_alloc_new w _
  obtain ⟨W1, hW1⟩ : ∃ W1 : World, W0.alloc (.cells #[.int .i64 0, .string ⟨#[]⟩, .int .i64 0, .string ⟨#[]⟩] 123) = W1 := ⟨_, rfl⟩
  have B1 : Below W0.heap.size W0 W1 := by rw [← hW1]; exact (Below.refl _ _).alloc (Nat.le_refl _) _
  have X1 : W1.heap[w.heap.size + 1]? = some (.cells #[.int .i64 0, .string ⟨#[]⟩, .int .i64 0, .string ⟨#[]⟩] 123 (0, 0)) := by rw [← hW1, ← hs0]; exact heap_alloc_new W0 _
  have L1 := below_some B1 L0
  have l0 : W1.cell? ⟨w.heap.size, 0, none⟩ = some (.string (bs text)) := by rw [Lib.cell_of_heap L1]; rfl
  have l1 : W1.cell? ⟨w.heap.size, 1, none⟩ = some (.bool false) := by rw [Lib.cell_of_heap L1]; rfl
  have B01 : Below w.heap.size w W1 := B0.trans (B1.mono B0.size)
  have hts := bs_size text
  have HCT := Lib.hid (stringsCut_any (bs text) 32 W1 (by unfold maxLen; omega))
  have HM := Lib.hid ((B01.cell (block_lt hm)).trans hm)
  have HA := Lib.hid ha
  have HB1 := Lib.hid B01
  have HX1 := Lib.hid X1
  have HW := Lib.hid hW
  obtain ⟨kx, ekx⟩ : ∃ k, authC (cutR 32 text).2.1 = k := ⟨_, rfl⟩
  have HK := Lib.hid ekx
  rw [ekx]
  clear B0 L0 B1 X1 L1 hm ha B01 hW ekx
  go_enter Tryz.func48, Tryz.ntmps48
  go_wp2_with fail
  refine HCT.out.mono ?_
  rintro e w2 ⟨x, y, has, rfl, hc, n, rfl⟩
  rw [bs_toList] at hc
  obtain ⟨word, rfl⟩ : ∃ r, x = bs r := ⟨x.data.toList, rfl⟩
  obtain ⟨arg, rfl⟩ : ∃ r, y = bs r := ⟨y.data.toList, rfl⟩
  rw [bs_toList, bs_toList] at hc
  have hcl := cut_len 32 _ _ _ _ hc
  have hcs := cutR_sub 32 _ _ _ _ hc
  have HUP := Lib.hid (upper_any word (W1.drewN n) (by omega) (fun a ha => HA.out a (hcs.1 a ha)))
  have HAR : Hid (asciiL arg ∧ arg.length ≤ 1048576) := Lib.hid ⟨fun a ha => HA.out a (hcs.2 a ha), by omega⟩
  rw [hc] at HW HK
  simp only at HW HK
  have hwl := HW.out
  rw [hwl] at HUP
  rw [show bs [65, 85, 84, 72] = ⟨#[65, 85, 84, 72]⟩ from rfl] at HUP
  clear hc hcl hcs HCT HA
  go_wp2_with fail
  refine HUP.out.mono ?_
  rintro e w3 ⟨rfl, hb3⟩
  have B3 : Below W1.heap.size W1 w3 := (below_drewN n W1 W1.heap.size).trans (hb3.mono (by simp))
  have HB3 := Lib.hid (HB1.out.trans (B3.mono HB1.out.size))
  have HX3 := Lib.hid (below_some B3 HX1.out)
  have HM3 := Lib.hid ((B3.cell (block_lt HM.out)).trans HM.out)
  clear hb3 B3 HUP
  go_wp2_with fail
  refine (readAuth_any arg w3 HAR.out.2 HAR.out.1).mono ?_
  rintro e w4 ⟨rfl, hb4⟩
  rw [HK.out]
  simp only [cmdVal]
  obtain ⟨X4, c0, c1, c2, c3, f0, f1, f2, f3⟩ := boxAt (below_some hb4 HX3.out)
  have HX4 := Lib.hid X4
  have HB4 := Lib.hid (HB3.out.trans (hb4.mono HB3.out.size))
  clear X4 hb4 HK HW hwl
  go_wp2_with fail
  obtain ⟨r0, r1, r2, r3, rS⟩ := four_put (x := .int .i64 (kx.verb : Int)) (y := .string (bs kx.name)) (z := .int .i64 (kx.size : Int)) (u := .string (bs kx.shown)) HX4.out
  refine bodyPost_ret (v := .agg #[.int .i64 (kx.verb : Int), .string (bs kx.name), .int .i64 (kx.size : Int), .string (bs kx.shown)]) (by simp [results, Tryz.results48, go_sem, r0, r1, r2, r3]) rfl ?_
  exact ⟨rfl, HB4.out.trans (rS.below (Nat.le_succ _))⟩
set_option maxHeartbeats 1000000 in
set_option maxRecDepth 100000 in
theorem cmdRead_mail (text : List UInt8) (m : Int) (w : World) (hl : text.length ≤ 1048576) (ha : asciiL text) (hm : w.cell? ⟨0, 0, none⟩ = some (.int .i64 m)) (hW : Lib.toUpperA (cutR 32 text).1 = [77, 65, 73, 76]) : Calls Tryz.prog 48 #[.agg #[.string (bs text), .bool false]] w fun e w' => e = .returned (cmdVal (mailC (cutR 32 text).2.1)) ∧ Below w.heap.size w w' := by
  obtain ⟨W0, hW0⟩ : ∃ W0 : World, w.alloc (.cells #[.string (bs text), .bool false] 89) = W0 := ⟨_, rfl⟩
  have B0 : Below w.heap.size w W0 := by rw [← hW0]; exact (Below.refl _ _).alloc (Nat.le_refl _) _
  have hs0 : W0.heap.size = w.heap.size + 1 := by rw [← hW0]; simp
  have L0 : W0.heap[w.heap.size]? = some (.cells #[.string (bs text), .bool false] 89 (0, 0)) := by rw [← hW0]; exact heap_alloc_new w _
  obtain ⟨W1, hW1⟩ : ∃ W1 : World, W0.alloc (.cells #[.int .i64 0, .string ⟨#[]⟩, .int .i64 0, .string ⟨#[]⟩] 123) = W1 := ⟨_, rfl⟩
  have B1 : Below W0.heap.size W0 W1 := by rw [← hW1]; exact (Below.refl _ _).alloc (Nat.le_refl _) _
  have X1 : W1.heap[w.heap.size + 1]? = some (.cells #[.int .i64 0, .string ⟨#[]⟩, .int .i64 0, .string ⟨#[]⟩] 123 (0, 0)) := by rw [← hW1, ← hs0]; exact heap_alloc_new W0 _
  have L1 := below_some B1 L0
  have l0 : W1.cell? ⟨w.heap.size, 0, none⟩ = some (.string (bs text)) := by rw [Lib.cell_of_heap L1]; rfl
  have l1 : W1.cell? ⟨w.heap.size, 1, none⟩ = some (.bool false) := by rw [Lib.cell_of_heap L1]; rfl
  have B01 : Below w.heap.size w W1 := B0.trans (B1.mono B0.size)
  have hts := bs_size text
  have HCT := Lib.hid (stringsCut_any (bs text) 32 W1 (by unfold maxLen; omega))
  have HM := Lib.hid ((B01.cell (block_lt hm)).trans hm)
  have HA := Lib.hid ha
  have HB1 := Lib.hid B01
  have HX1 := Lib.hid X1
  have HW := Lib.hid hW
  obtain ⟨kx, ekx⟩ : ∃ k, mailC (cutR 32 text).2.1 = k := ⟨_, rfl⟩
  have HK := Lib.hid ekx
  rw [ekx]
  clear B0 L0 B1 X1 L1 hm ha B01 hW ekx
  go_enter Tryz.func48, Tryz.ntmps48
  go_wp2_with fail
  refine HCT.out.mono ?_
  rintro e w2 ⟨x, y, has, rfl, hc, n, rfl⟩
  rw [bs_toList] at hc
  obtain ⟨word, rfl⟩ : ∃ r, x = bs r := ⟨x.data.toList, rfl⟩
  obtain ⟨arg, rfl⟩ : ∃ r, y = bs r := ⟨y.data.toList, rfl⟩
  rw [bs_toList, bs_toList] at hc
  have hcl := cut_len 32 _ _ _ _ hc
  have hcs := cutR_sub 32 _ _ _ _ hc
  have HUP := Lib.hid (upper_any word (W1.drewN n) (by omega) (fun a ha => HA.out a (hcs.1 a ha)))
  have HAR : Hid (asciiL arg ∧ arg.length ≤ 1048576) := Lib.hid ⟨fun a ha => HA.out a (hcs.2 a ha), by omega⟩
  rw [hc] at HW HK
  simp only at HW HK
  have hwl := HW.out
  rw [hwl] at HUP
  rw [show bs [77, 65, 73, 76] = ⟨#[77, 65, 73, 76]⟩ from rfl] at HUP
  clear hc hcl hcs HCT HA
  go_wp2_with fail
  refine HUP.out.mono ?_
  rintro e w3 ⟨rfl, hb3⟩
  have B3 : Below W1.heap.size W1 w3 := (below_drewN n W1 W1.heap.size).trans (hb3.mono (by simp))
  have HB3 := Lib.hid (HB1.out.trans (B3.mono HB1.out.size))
  have HX3 := Lib.hid (below_some B3 HX1.out)
  have HM3 := Lib.hid ((B3.cell (block_lt HM.out)).trans HM.out)
  clear hb3 B3 HUP
  go_wp2_with fail
  refine (readMail1_any arg m w3 HAR.out.2 HAR.out.1 HM3.out).mono ?_
  rintro e w4 ⟨rfl, hb4⟩
  rw [HK.out]
  simp only [cmdVal]
  obtain ⟨X4, c0, c1, c2, c3, f0, f1, f2, f3⟩ := boxAt (below_some hb4 HX3.out)
  have HX4 := Lib.hid X4
  have HB4 := Lib.hid (HB3.out.trans (hb4.mono HB3.out.size))
  clear X4 hb4 HK HW hwl
  go_wp2_with fail
  obtain ⟨r0, r1, r2, r3, rS⟩ := four_put (x := .int .i64 (kx.verb : Int)) (y := .string (bs kx.name)) (z := .int .i64 (kx.size : Int)) (u := .string (bs kx.shown)) HX4.out
  refine bodyPost_ret (v := .agg #[.int .i64 (kx.verb : Int), .string (bs kx.name), .int .i64 (kx.size : Int), .string (bs kx.shown)]) (by simp [results, Tryz.results48, go_sem, r0, r1, r2, r3]) rfl ?_
  exact ⟨rfl, HB4.out.trans (rS.below (Nat.le_succ _))⟩
set_option maxHeartbeats 1000000 in
set_option maxRecDepth 100000 in
theorem cmdRead_rcpt (text : List UInt8) (m : Int) (w : World) (hl : text.length ≤ 1048576) (ha : asciiL text) (hm : w.cell? ⟨0, 0, none⟩ = some (.int .i64 m)) (hW : Lib.toUpperA (cutR 32 text).1 = [82, 67, 80, 84]) : Calls Tryz.prog 48 #[.agg #[.string (bs text), .bool false]] w fun e w' => e = .returned (cmdVal (rcptC (cutR 32 text).2.1)) ∧ Below w.heap.size w w' := by
  obtain ⟨W0, hW0⟩ : ∃ W0 : World, w.alloc (.cells #[.string (bs text), .bool false] 89) = W0 := ⟨_, rfl⟩
  have B0 : Below w.heap.size w W0 := by rw [← hW0]; exact (Below.refl _ _).alloc (Nat.le_refl _) _
  have hs0 : W0.heap.size = w.heap.size + 1 := by rw [← hW0]; simp
  have L0 : W0.heap[w.heap.size]? = some (.cells #[.string (bs text), .bool false] 89 (0, 0)) := by rw [← hW0]; exact heap_alloc_new w _
  obtain ⟨W1, hW1⟩ : ∃ W1 : World, W0.alloc (.cells #[.int .i64 0, .string ⟨#[]⟩, .int .i64 0, .string ⟨#[]⟩] 123) = W1 := ⟨_, rfl⟩
  have B1 : Below W0.heap.size W0 W1 := by rw [← hW1]; exact (Below.refl _ _).alloc (Nat.le_refl _) _
  have X1 : W1.heap[w.heap.size + 1]? = some (.cells #[.int .i64 0, .string ⟨#[]⟩, .int .i64 0, .string ⟨#[]⟩] 123 (0, 0)) := by rw [← hW1, ← hs0]; exact heap_alloc_new W0 _
  have L1 := below_some B1 L0
  have l0 : W1.cell? ⟨w.heap.size, 0, none⟩ = some (.string (bs text)) := by rw [Lib.cell_of_heap L1]; rfl
  have l1 : W1.cell? ⟨w.heap.size, 1, none⟩ = some (.bool false) := by rw [Lib.cell_of_heap L1]; rfl
  have B01 : Below w.heap.size w W1 := B0.trans (B1.mono B0.size)
  have hts := bs_size text
  have HCT := Lib.hid (stringsCut_any (bs text) 32 W1 (by unfold maxLen; omega))
  have HM := Lib.hid ((B01.cell (block_lt hm)).trans hm)
  have HA := Lib.hid ha
  have HB1 := Lib.hid B01
  have HX1 := Lib.hid X1
  have HW := Lib.hid hW
  obtain ⟨kx, ekx⟩ : ∃ k, rcptC (cutR 32 text).2.1 = k := ⟨_, rfl⟩
  have HK := Lib.hid ekx
  rw [ekx]
  clear B0 L0 B1 X1 L1 hm ha B01 hW ekx
  go_enter Tryz.func48, Tryz.ntmps48
  go_wp2_with fail
  refine HCT.out.mono ?_
  rintro e w2 ⟨x, y, has, rfl, hc, n, rfl⟩
  rw [bs_toList] at hc
  obtain ⟨word, rfl⟩ : ∃ r, x = bs r := ⟨x.data.toList, rfl⟩
  obtain ⟨arg, rfl⟩ : ∃ r, y = bs r := ⟨y.data.toList, rfl⟩
  rw [bs_toList, bs_toList] at hc
  have hcl := cut_len 32 _ _ _ _ hc
  have hcs := cutR_sub 32 _ _ _ _ hc
  have HUP := Lib.hid (upper_any word (W1.drewN n) (by omega) (fun a ha => HA.out a (hcs.1 a ha)))
  have HAR : Hid (asciiL arg ∧ arg.length ≤ 1048576) := Lib.hid ⟨fun a ha => HA.out a (hcs.2 a ha), by omega⟩
  rw [hc] at HW HK
  simp only at HW HK
  have hwl := HW.out
  rw [hwl] at HUP
  rw [show bs [82, 67, 80, 84] = ⟨#[82, 67, 80, 84]⟩ from rfl] at HUP
  clear hc hcl hcs HCT HA
  go_wp2_with fail
  refine HUP.out.mono ?_
  rintro e w3 ⟨rfl, hb3⟩
  have B3 : Below W1.heap.size W1 w3 := (below_drewN n W1 W1.heap.size).trans (hb3.mono (by simp))
  have HB3 := Lib.hid (HB1.out.trans (B3.mono HB1.out.size))
  have HX3 := Lib.hid (below_some B3 HX1.out)
  have HM3 := Lib.hid ((B3.cell (block_lt HM.out)).trans HM.out)
  clear hb3 B3 HUP
  go_wp2_with fail
  refine (readRcpt_any arg m w3 HAR.out.2 HAR.out.1 HM3.out).mono ?_
  rintro e w4 ⟨rfl, hb4⟩
  rw [HK.out]
  simp only [cmdVal]
  obtain ⟨X4, c0, c1, c2, c3, f0, f1, f2, f3⟩ := boxAt (below_some hb4 HX3.out)
  have HX4 := Lib.hid X4
  have HB4 := Lib.hid (HB3.out.trans (hb4.mono HB3.out.size))
  clear X4 hb4 HK HW hwl
  go_wp2_with fail
  obtain ⟨r0, r1, r2, r3, rS⟩ := four_put (x := .int .i64 (kx.verb : Int)) (y := .string (bs kx.name)) (z := .int .i64 (kx.size : Int)) (u := .string (bs kx.shown)) HX4.out
  refine bodyPost_ret (v := .agg #[.int .i64 (kx.verb : Int), .string (bs kx.name), .int .i64 (kx.size : Int), .string (bs kx.shown)]) (by simp [results, Tryz.results48, go_sem, r0, r1, r2, r3]) rfl ?_
  exact ⟨rfl, HB4.out.trans (rS.below (Nat.le_succ _))⟩
set_option maxHeartbeats 1000000 in
set_option maxRecDepth 100000 in
theorem cmdRead_else (text : List UInt8) (m : Int) (w : World) (hl : text.length ≤ 1048576) (ha : asciiL text) (hm : w.cell? ⟨0, 0, none⟩ = some (.int .i64 m)) (hW : Lib.toUpperA (cutR 32 text).1 ∉ verbs) : Calls Tryz.prog 48 #[.agg #[.string (bs text), .bool false]] w fun e w' => e = .returned (cmdVal (loneC 0)) ∧ Below w.heap.size w w' := by
  obtain ⟨W0, hW0⟩ : ∃ W0 : World, w.alloc (.cells #[.string (bs text), .bool false] 89) = W0 := ⟨_, rfl⟩
  have B0 : Below w.heap.size w W0 := by rw [← hW0]; exact (Below.refl _ _).alloc (Nat.le_refl _) _
  have hs0 : W0.heap.size = w.heap.size + 1 := by rw [← hW0]; simp
  have L0 : W0.heap[w.heap.size]? = some (.cells #[.string (bs text), .bool false] 89 (0, 0)) := by rw [← hW0]; exact heap_alloc_new w _
  obtain ⟨W1, hW1⟩ : ∃ W1 : World, W0.alloc (.cells #[.int .i64 0, .string ⟨#[]⟩, .int .i64 0, .string ⟨#[]⟩] 123) = W1 := ⟨_, rfl⟩
  have B1 : Below W0.heap.size W0 W1 := by rw [← hW1]; exact (Below.refl _ _).alloc (Nat.le_refl _) _
  have X1 : W1.heap[w.heap.size + 1]? = some (.cells #[.int .i64 0, .string ⟨#[]⟩, .int .i64 0, .string ⟨#[]⟩] 123 (0, 0)) := by rw [← hW1, ← hs0]; exact heap_alloc_new W0 _
  have L1 := below_some B1 L0
  have l0 : W1.cell? ⟨w.heap.size, 0, none⟩ = some (.string (bs text)) := by rw [Lib.cell_of_heap L1]; rfl
  have l1 : W1.cell? ⟨w.heap.size, 1, none⟩ = some (.bool false) := by rw [Lib.cell_of_heap L1]; rfl
  have B01 : Below w.heap.size w W1 := B0.trans (B1.mono B0.size)
  have hts := bs_size text
  have HCT := Lib.hid (stringsCut_any (bs text) 32 W1 (by unfold maxLen; omega))
  have HM := Lib.hid ((B01.cell (block_lt hm)).trans hm)
  have HA := Lib.hid ha
  have HB1 := Lib.hid B01
  have HX1 := Lib.hid X1
  have HW := Lib.hid hW
  clear B0 L0 B1 X1 L1 hm ha B01 hW
  go_enter Tryz.func48, Tryz.ntmps48
  go_wp2_with fail
  refine HCT.out.mono ?_
  rintro e w2 ⟨x, y, has, rfl, hc, n, rfl⟩
  rw [bs_toList] at hc
  obtain ⟨word, rfl⟩ : ∃ r, x = bs r := ⟨x.data.toList, rfl⟩
  obtain ⟨arg, rfl⟩ : ∃ r, y = bs r := ⟨y.data.toList, rfl⟩
  rw [bs_toList, bs_toList] at hc
  have hcl := cut_len 32 _ _ _ _ hc
  have hcs := cutR_sub 32 _ _ _ _ hc
  have HUP := Lib.hid (upper_any word (W1.drewN n) (by omega) (fun a ha => HA.out a (hcs.1 a ha)))
  have HAR : Hid (asciiL arg ∧ arg.length ≤ 1048576) := Lib.hid ⟨fun a ha => HA.out a (hcs.2 a ha), by omega⟩
  rw [hc] at HW
  simp only at HW
  obtain ⟨U, eU⟩ : ∃ U, Lib.toUpperA word = U := ⟨_, rfl⟩
  rw [eU] at HW HUP
  have n0 : ((bs U).toList == [81, 85, 73, 84]) = false := by rw [beq_eq_false_iff_ne, ByteArray.toList_eq, bs_toList]; exact fun e => HW.out (by rw [e]; decide)
  have n1 : ((bs U).toList == [78, 79, 79, 80]) = false := by rw [beq_eq_false_iff_ne, ByteArray.toList_eq, bs_toList]; exact fun e => HW.out (by rw [e]; decide)
  have n2 : ((bs U).toList == [82, 83, 69, 84]) = false := by rw [beq_eq_false_iff_ne, ByteArray.toList_eq, bs_toList]; exact fun e => HW.out (by rw [e]; decide)
  have n3 : ((bs U).toList == [68, 65, 84, 65]) = false := by rw [beq_eq_false_iff_ne, ByteArray.toList_eq, bs_toList]; exact fun e => HW.out (by rw [e]; decide)
  have n4 : ((bs U).toList == [72, 69, 76, 79]) = false := by rw [beq_eq_false_iff_ne, ByteArray.toList_eq, bs_toList]; exact fun e => HW.out (by rw [e]; decide)
  have n5 : ((bs U).toList == [69, 72, 76, 79]) = false := by rw [beq_eq_false_iff_ne, ByteArray.toList_eq, bs_toList]; exact fun e => HW.out (by rw [e]; decide)
  have n6 : ((bs U).toList == [65, 85, 84, 72]) = false := by rw [beq_eq_false_iff_ne, ByteArray.toList_eq, bs_toList]; exact fun e => HW.out (by rw [e]; decide)
  have n7 : ((bs U).toList == [77, 65, 73, 76]) = false := by rw [beq_eq_false_iff_ne, ByteArray.toList_eq, bs_toList]; exact fun e => HW.out (by rw [e]; decide)
  have n8 : ((bs U).toList == [82, 67, 80, 84]) = false := by rw [beq_eq_false_iff_ne, ByteArray.toList_eq, bs_toList]; exact fun e => HW.out (by rw [e]; decide)
  clear eU
  clear hc hcl hcs HCT HA
  go_wp2_with fail
  refine HUP.out.mono ?_
  rintro e w3 ⟨rfl, hb3⟩
  have B3 : Below W1.heap.size W1 w3 := (below_drewN n W1 W1.heap.size).trans (hb3.mono (by simp))
  have HB3 := Lib.hid (HB1.out.trans (B3.mono HB1.out.size))
  have HX3 := Lib.hid (below_some B3 HX1.out)
  have HM3 := Lib.hid ((B3.cell (block_lt HM.out)).trans HM.out)
  clear hb3 B3 HUP
  obtain ⟨X4, c0, c1, c2, c3, f0, f1, f2, f3⟩ := boxAt HX3.out
  have HX4 := Lib.hid X4
  clear X4
  go_wp2_with fail
  obtain ⟨r0, r1, r2, r3, rS⟩ := four_put (x := .int .i64 0) (y := .string ⟨#[]⟩) (z := .int .i64 0) (u := .string ⟨#[]⟩) HX4.out
  refine bodyPost_ret (v := .agg #[.int .i64 0, .string ⟨#[]⟩, .int .i64 0, .string ⟨#[]⟩]) (by simp [results, Tryz.results48, go_sem, r0, r1, r2, r3]) rfl ?_
  exact ⟨rfl, HB3.out.trans (rS.below (Nat.le_succ _))⟩
end Go.Proofs.YtadcidbeealdpaaGreatDoor
