import Derived.Test.YtgjjjdccbpjnfaaGreatDoorS34
import Derived.Deep.RegionLaw

/- The law: the script's rounds, Queue (written by wip/mkholds.py). -/
namespace Go.Proofs.YtgjjjdccbpjnfaaGreatDoor
open Go.RowKit

set_option maxHeartbeats 8000000 in
set_option maxRecDepth 100000 in
theorem hold_queue (l : List POp) (w wr : World) (b off csl k : Nat) (v : Value) (tw : List (Value × Value)) (m : Int) (c15 c16 : Value) (kind p n : Int) (odd : Bool) (S : List UInt8) (c : Cfg) (aD aN aU aW : Option Addr) (cD cN cU cW : Nat) (K K0 : Act → World → Prop) (u4 u8 u9 u10 u11 u12 u13 u14 u17 u18 u19 u20 u21 u22 u23 u24 u25 u26 u27 u28 u29 u30 u31 u32 u33 u34 u35 u36 u37 u38 u39 u40 u41 u42 u43 u44 u45 u46 u47 u48 u49 u50 u51 u52 u53 u54 u55 u56 u57 u58 u59 u60 u61 u62 u63 u64 u65 u66 u67 u68 u69 u70 u71 u72 u73 u74 u75 u76 u77 u78 u79 u80 u81 u82 u83 u84 u85 u86 u87 u88 u89 u90 u91 u92 u93 u94 u95 u96 u97 u98 u99 u100 u101 u102 u103 u104 u105 u106 u107 u108 u109 u110 u111 u112 u113 u114 u115 u116 u117 u118 u119 u120 u121 u122 u123 u124 u125 u126 u127 u128 u129 u130 u131 u132 u133 u134 u135 u136 u137 u138 u139 u140 u141 u142 u143 u144 u145 u146 u147 u148 u149 u150 u151 u152 u153 : Value) (hin : HIn l w wr b off csl k v tw m c15 c16 kind p n odd S c aD aN aU aW cD cN cU cW K) (hk : kind = 4) (htw : tw.length ≠ 0) :
    Code.wp Tryz.prog hBody (Exit.then K (Exit.inBlock 0 (Exit.then K0 (bodyPost Tryz.prog Tryz.f11 fun e w' => e = Ending.returned (.bool true) ∧ Below w.heap.size w w')))) ⟨#[.slice (some ⟨b, off, none⟩) l.length csl, .int .i64 4, undef, undef, u4, v, .pointer (some ⟨w.heap.size, 0, none⟩), .int .i64 (k : Int), u8, u9, u10, u11, u12, u13, u14, c15, c16, u17, u18, u19, u20, u21, u22, u23, u24, u25, u26, u27, u28, u29, u30, u31, u32, u33, u34, u35, u36, u37, u38, u39, u40, u41, u42, u43, u44, u45, u46, u47, u48, u49, u50, u51, u52, u53, u54, u55, u56, u57, u58, u59, u60, u61, u62, u63, u64, u65, u66, u67, u68, u69, u70, u71, u72, u73, u74, u75, u76, u77, u78, u79, u80, u81, u82, u83, u84, u85, u86, u87, u88, u89, u90, u91, u92, u93, u94, u95, u96, u97, u98, u99, u100, u101, u102, u103, u104, u105, u106, u107, u108, u109, u110, u111, u112, u113, u114, u115, u116, u117, u118, u119, u120, u121, u122, u123, u124, u125, u126, u127, u128, u129, u130, u131, u132, u133, u134, u135, u136, u137, u138, u139, u140, u141, u142, u143, u144, u145, u146, u147, u148, u149, u150, u151, u152, u153], []⟩ wr := by
  have HS := Lib.hid hin.st
  have htk := hin.tk
  have hlt := hin.lt
  have hl := hin.ll
  have HO := Lib.hid hin.ok
  have HM := Lib.hid hin.mm
  have HK := Lib.hid hin.next
  have hlti : (k : Int) < (l.length : Int) := by omega
  have mv : ∀ i u, i < 14 → (opCells kind p n odd S c (.slice aD c.doms.length cD) (.slice aN c.nets.length cN) (.slice aU c.users.length cU) (.slice aW c.waits.length cW))[i]? = some u → wr.cell? ⟨b, off + k * 14 + i, none⟩ = some u := fun i u hi e => (HS.out.below.cell (p := ⟨b, off + k * 14 + i, none⟩) (by exact block_lt (hin.cell i u hi e))).trans (hin.cell i u hi e)
  obtain ⟨c0, c1, c2, c3, c4, c5, c6, c7, c8, c9, c10, c11, c12, c13⟩ := op14 mv
  obtain ⟨W1, hW1⟩ : ∃ W1 : World, wr.alloc (.cells (opCells kind p n odd S c (.slice aD c.doms.length cD) (.slice aN c.nets.length cN) (.slice aU c.users.length cU) (.slice aW c.waits.length cW)) 66) = W1 := ⟨_, rfl⟩
  have B1 : Below wr.heap.size wr W1 := by rw [← hW1]; exact (Below.refl _ _).alloc (Nat.le_refl _) _
  have X1 := Lib.hid (show W1.heap[wr.heap.size]? = some (.cells (opCells kind p n odd S c (.slice aD c.doms.length cD) (.slice aN c.nets.length cN) (.slice aU c.users.length cU) (.slice aW c.waits.length cW)) 66 (0, 0)) from by rw [← hW1]; exact heap_alloc_new wr _)
  obtain ⟨KB, eKB⟩ : ∃ KB, k * 2097152 = KB := ⟨_, rfl⟩
  have hKB : KB ≤ 137438953472 := by omega
  have HKN : Hid (KB + 2097152 ≤ (k + 1) * 2097152) := Lib.hid (by omega)
  rw [eKB] at HS
  have HS1 := Lib.hid (HS.out.keep B1)
  have HW1 := Lib.hid hW1
  have HM1 : Hid (∀ W, Below w.heap.size w W → W.cell? ⟨0, 0, none⟩ = some (.int .i64 m)) := Lib.hid (fun W hW => (hW.cell (by exact block_lt HM.out)).trans HM.out)
  simp only [opCells] at HW1
  clear hin mv hW1 B1 HS HM eKB
  subst hk
  obtain ⟨a5, cc5, e5⟩ := own_len HS1.out.all
  subst e5
  have t5 : ((tw.length : Int) == 0) = false := by rw [beq_eq_false_iff_ne]; omega
  have t5' : decide ((tw.length : Int) = 0) = false := decide_eq_false (by omega)
  have hpl := pickN_lt p (show 0 < tw.length by omega)
  have HPK := Lib.hid (fun W => pick_any p tw.length W HO.out.p (by omega) (by omega))
  obtain ⟨j, ej⟩ : ∃ j, pickN p tw.length = j := ⟨_, rfl⟩
  rw [ej] at HPK hpl
  have hpli : (j : Int) < (tw.length : Int) := by omega
  have HSD : Hid (HSt w W1.drew w.heap.size KB (.slice a5 tw.length cc5) tw) := Lib.hid (HS1.out.keep ((Below.refl _ _).drew))
  have HT := Lib.hid (HSD.out.tws _ (List.getElem_mem hpl))
  obtain ⟨g5, cap5, e5, s0, s1⟩ := twin_to HSD.out.all hpl
  injection e5 with e5a _ e5c
  subst e5a e5c
  obtain ⟨px, py, ex, ey⟩ := HT.out.ptr
  rw [ex] at s0 HT
  rw [ey] at s1 HT
  have X1d : W1.drew.heap[wr.heap.size]? = some (.cells (opCells 4 p n odd S c (.slice aD c.doms.length cD) (.slice aN c.nets.length cN) (.slice aU c.users.length cU) (.slice aW c.waits.length cW)) 66 (0, 0)) := X1.out
  obtain ⟨o0, o1, o2, o3, o4, o5, o6, o7, o8, o9, o10, o11, o12, o13⟩ := op_cells X1d
  clear ej X1d ex ey
  have HLK := Lib.hid (looks_any w.heap.size w.heap.size KB (.pointer px) (.pointer py) 4 p n odd S c (.slice aD c.doms.length cD) (.slice aN c.nets.length cN) (.slice aU c.users.length cU) (.slice aW c.waits.length cW) W1.drew HT.out HSD.out.bk HSD.out.below.size (by omega))
  conv => arg 2; whnf
  go_wp2_with fail
  rw [HW1.out]
  clear c0 c1 c2 c3 c4 c5 c6 c7 c8 c9 c10 c11 c12 c13
  go_region_law (first
    | (go_simp; go_at_call 20; refine (HPK.out _).mono ?_; rintro e w2 ⟨rfl, rfl⟩)
    | (go_simp; go_at_call 21; refine HLK.out.mono ?_; rintro e w2 ⟨rfl, hk2, ht2, hl2⟩; have HS8 := Lib.hid (HSD.out.looked hk2 ht2 hl2); clear hk2 ht2 hl2))
  all_goals
    go_wp2_with fail
    refine (bkStill_any _ _ _ _ HS8.out.bk (by omega)).mono ?_
    rintro e w9 ⟨rfl, hb9⟩
    have HS9 := Lib.hid (HS8.out.keep hb9)
    go_wp2_with fail
    refine HK.out _ _ _ (tw) ?_ (by omega) (HS9.out.mono (HKN.out))
    exact ⟨_, _, _, _, _, _, _, _, _, _, _, _, _, _, _, _, _, _, _, _, _, _, _, _, _, _, _, _, _, _, _, _, _, _, _, _, _, _, _, _, _, _, _, _, _, _, _, _, _, _, _, _, _, _, _, _, _, _, _, _, _, _, _, _, _, _, _, _, _, _, _, _, _, _, _, _, _, _, _, _, _, _, _, _, _, _, _, _, _, _, _, _, _, _, _, _, _, _, _, _, _, _, _, _, _, _, _, _, _, _, _, _, _, _, _, _, _, _, _, _, _, _, _, _, _, _, _, _, _, _, _, _, _, _, _, _, _, _, _, _, _, _, _, _, _, _, by go_num, rfl⟩
end Go.Proofs.YtgjjjdccbpjnfaaGreatDoor
