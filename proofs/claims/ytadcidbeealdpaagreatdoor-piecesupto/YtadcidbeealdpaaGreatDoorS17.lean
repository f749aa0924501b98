import Derived.Shelf.SlIterI.Nil
import Derived.Shelf.SortM.Plain
import Derived.Shelf.SortM.SortNone
import Derived.Test.YtadcidbeealdpaaGreatDoorProg
import Derived.Test.YtadcidbeealdpaaGreatDoorS13

/-
  DERIVED: THE SHELF's CONTRACTS AT THIS DUMP, IN PLAIN WORDS (tools/lay-plain.mjs out of 'TryzIter.lean', which tools/lay-shelf.mjs wrote): THE SAME DECLARATIONS UNDER THE SAME NAMES: 'import', 'namespace', 'open', 'def', 'theorem' AND NOTHING ELSE: no command of the shelf's: FOR A HAND-IN. Each laying: the table of numbers ('.._ren') and one theorem, a field a fact of the dump's own or the kernel's comparison; each contract: ONE APPLICATION.
-/
namespace Go.Proofs
open Go.Shelf
def Tryz.keysA_ren : Go.Shelf.Ren := ⟨fun | 7 => 39 | 10 => 67 | n => n, fun | 23 => 93 | 26 => 3 | 3 => 108 | 28 => 106 | 0 => 0 | 27 => 105 | 33 => 66 | 4 => 4 | n => n, fun | n => n⟩
theorem Tryz.keysA : Go.Proofs.SlLaysZI.n7 Tryz.prog Tryz.keysA_ren := {
  mixed := by kernel_rfl
  f7 := ⟨Tryz.f39.name, by decide, Tryz.func39.trans (congrArg some (by kernel_rfl))⟩
  f10 := ⟨Tryz.f67.name, by decide, Tryz.func67.trans (congrArg some (by kernel_rfl))⟩
  t0 := Tryz.underlying0
  a0 := Tryz.isAgg0
  z0 := Tryz.sizeOf0
  v0 := Tryz.zeroValue0
  t4 := Tryz.underlying4
  a4 := Tryz.isAgg4
  z4 := Tryz.sizeOf4
  v4 := Tryz.zeroValue4
  t23 := Tryz.underlying93
  a23 := Tryz.isAgg93
  z23 := Tryz.sizeOf93
  v23 := Tryz.zeroValue93
  t26 := Tryz.underlying3
  a26 := Tryz.isAgg3
  z26 := Tryz.sizeOf3
  v26 := Tryz.zeroValue3
  t27 := Tryz.underlying105
  a27 := Tryz.isAgg105
  z27 := Tryz.sizeOf105
  v27 := Tryz.zeroValue105
  t28 := Tryz.underlying106
  a28 := Tryz.isAgg106
  z28 := Tryz.sizeOf106
  v28 := Tryz.zeroValue106
  t33 := Tryz.underlying66
  a33 := Tryz.isAgg66
  z33 := Tryz.sizeOf66
  v33 := Tryz.zeroValue66 }
def Tryz.sortedA_ren : Go.Shelf.Ren := ⟨fun | 6 => 38 | 8 => 65 | 9 => 66 | 11 => 104 | 13 => 106 | 12 => 105 | 23 => 150 | 24 => 151 | 14 => 141 | 15 => 142 | 16 => 143 | 17 => 144 | 18 => 145 | 19 => 146 | 20 => 147 | 21 => 148 | 22 => 149 | 25 => 183 | 26 => 184 | 27 => 185 | 28 => 186 | 29 => 187 | 30 => 188 | 31 => 215 | n => n, fun | 26 => 3 | 28 => 106 | 24 => 22 | 0 => 0 | 3 => 3 | 37 => 170 | 48 => 134 | 50 => 198 | 4 => 4 | 40 => 205 | 39 => 204 | 45 => 184 | 5 => 5 | 9 => 9 | 51 => 229 | 55 => 233 | 57 => 251 | 58 => 252 | 33 => 66 | n => n, fun | n => n⟩
theorem Tryz.sortedA : Go.Proofs.SlLaysZI.n6 Tryz.prog Tryz.sortedA_ren := {
  mixed := by kernel_rfl
  f6 := ⟨Tryz.f38.name, by decide, Tryz.func38.trans (congrArg some (by kernel_rfl))⟩
  f8 := ⟨Tryz.f65.name, by decide, Tryz.func65.trans (congrArg some (by kernel_rfl))⟩
  f11 := ⟨Tryz.f104.name, by decide, Tryz.func104.trans (congrArg some (by kernel_rfl))⟩
  t0 := Tryz.underlying0
  a0 := Tryz.isAgg0
  z0 := Tryz.sizeOf0
  v0 := Tryz.zeroValue0
  t24 := Tryz.underlying22
  a24 := Tryz.isAgg22
  z24 := Tryz.sizeOf22
  v24 := Tryz.zeroValue22
  t26 := Tryz.underlying3
  a26 := Tryz.isAgg3
  z26 := Tryz.sizeOf3
  v26 := Tryz.zeroValue3
  t28 := Tryz.underlying106
  a28 := Tryz.isAgg106
  z28 := Tryz.sizeOf106
  v28 := Tryz.zeroValue106
  i26 := by kernel_rfl }
def Tryz.sortA_ren : Go.Shelf.Ren := ⟨fun | 5 => 66 | 8 => 106 | 7 => 105 | 19 => 150 | 20 => 151 | 10 => 141 | 11 => 142 | 12 => 143 | 13 => 144 | 14 => 145 | 15 => 146 | 16 => 147 | 17 => 148 | 18 => 149 | 30 => 183 | 31 => 184 | 32 => 185 | 33 => 186 | 34 => 187 | 35 => 188 | 40 => 215 | n => n, fun | 23 => 22 | 25 => 3 | 3 => 3 | 32 => 170 | 22 => 22 | 0 => 0 | 44 => 134 | 46 => 198 | 4 => 4 | 36 => 205 | 35 => 204 | 41 => 184 | 5 => 5 | 9 => 9 | 53 => 229 | 57 => 233 | 63 => 251 | 64 => 252 | n => n, fun | n => n⟩
theorem Tryz.sortA : Go.Proofs.SlLaysM.n5 Tryz.prog Tryz.sortA_ren := {
  mixed := by kernel_rfl
  f5 := ⟨Tryz.f66.name, by decide, Tryz.func66.trans (congrArg some (by kernel_rfl))⟩
  f7 := ⟨Tryz.f105.name, by decide, Tryz.func105.trans (congrArg some (by kernel_rfl))⟩
  f8 := Tryz.func106.trans (congrArg some (by kernel_rfl))
  f10 := ⟨Tryz.f141.name, by decide, Tryz.func141.trans (congrArg some (by kernel_rfl))⟩
  f11 := ⟨Tryz.f142.name, by decide, Tryz.func142.trans (congrArg some (by kernel_rfl))⟩
  f12 := ⟨Tryz.f143.name, by decide, Tryz.func143.trans (congrArg some (by kernel_rfl))⟩
  f13 := ⟨Tryz.f144.name, by decide, Tryz.func144.trans (congrArg some (by kernel_rfl))⟩
  f14 := ⟨Tryz.f145.name, by decide, Tryz.func145.trans (congrArg some (by kernel_rfl))⟩
  f15 := ⟨Tryz.f146.name, by decide, Tryz.func146.trans (congrArg some (by kernel_rfl))⟩
  f16 := ⟨Tryz.f147.name, by decide, Tryz.func147.trans (congrArg some (by kernel_rfl))⟩
  f17 := ⟨Tryz.f148.name, by decide, Tryz.func148.trans (congrArg some (by kernel_rfl))⟩
  f18 := ⟨Tryz.f149.name, by decide, Tryz.func149.trans (congrArg some (by kernel_rfl))⟩
  f19 := Tryz.func150.trans (congrArg some (by kernel_rfl))
  f20 := Tryz.func151.trans (congrArg some (by kernel_rfl))
  f30 := ⟨Tryz.f183.name, by decide, Tryz.func183.trans (congrArg some (by kernel_rfl))⟩
  f31 := Tryz.func184.trans (congrArg some (by kernel_rfl))
  f32 := Tryz.func185.trans (congrArg some (by kernel_rfl))
  f33 := ⟨Tryz.f186.name, by decide, Tryz.func186.trans (congrArg some (by kernel_rfl))⟩
  f34 := ⟨Tryz.f187.name, by decide, Tryz.func187.trans (congrArg some (by kernel_rfl))⟩
  f35 := ⟨Tryz.f188.name, by decide, Tryz.func188.trans (congrArg some (by kernel_rfl))⟩
  f40 := ⟨Tryz.f215.name, by decide, Tryz.func215.trans (congrArg some (by kernel_rfl))⟩
  t0 := Tryz.underlying0
  a0 := Tryz.isAgg0
  z0 := Tryz.sizeOf0
  v0 := Tryz.zeroValue0
  t3 := Tryz.underlying3
  a3 := Tryz.isAgg3
  z3 := Tryz.sizeOf3
  v3 := Tryz.zeroValue3
  t4 := Tryz.underlying4
  a4 := Tryz.isAgg4
  z4 := Tryz.sizeOf4
  v4 := Tryz.zeroValue4
  t5 := Tryz.underlying5
  a5 := Tryz.isAgg5
  z5 := Tryz.sizeOf5
  v5 := Tryz.zeroValue5
  t9 := Tryz.underlying9
  a9 := Tryz.isAgg9
  z9 := Tryz.sizeOf9
  v9 := Tryz.zeroValue9
  t22 := Tryz.underlying22
  a22 := Tryz.isAgg22
  z22 := Tryz.sizeOf22
  v22 := Tryz.zeroValue22
  t23 := Tryz.underlying22
  a23 := Tryz.isAgg22
  z23 := Tryz.sizeOf22
  v23 := Tryz.zeroValue22
  t25 := Tryz.underlying3
  a25 := Tryz.isAgg3
  z25 := Tryz.sizeOf3
  v25 := Tryz.zeroValue3
  t32 := Tryz.underlying170
  a32 := Tryz.isAgg170
  z32 := Tryz.sizeOf170
  v32 := Tryz.zeroValue170
  t35 := Tryz.underlying204
  a35 := Tryz.isAgg204
  z35 := Tryz.sizeOf204
  v35 := Tryz.zeroValue204
  t36 := Tryz.underlying205
  a36 := Tryz.isAgg205
  z36 := Tryz.sizeOf205
  v36 := Tryz.zeroValue205
  t41 := Tryz.underlying184
  a41 := Tryz.isAgg184
  z41 := Tryz.sizeOf184
  v41 := Tryz.zeroValue184
  t44 := Tryz.underlying134
  a44 := Tryz.isAgg134
  z44 := Tryz.sizeOf134
  v44 := Tryz.zeroValue134
  t46 := Tryz.underlying198
  a46 := Tryz.isAgg198
  z46 := Tryz.sizeOf198
  v46 := Tryz.zeroValue198
  t53 := Tryz.underlying229
  a53 := Tryz.isAgg229
  z53 := Tryz.sizeOf229
  v53 := Tryz.zeroValue229
  t57 := Tryz.underlying233
  a57 := Tryz.isAgg233
  z57 := Tryz.sizeOf233
  v57 := Tryz.zeroValue233
  t63 := Tryz.underlying251
  a63 := Tryz.isAgg251
  z63 := Tryz.sizeOf251
  v63 := Tryz.zeroValue251
  t64 := Tryz.underlying252
  a64 := Tryz.isAgg252
  z64 := Tryz.sizeOf252
  v64 := Tryz.zeroValue252 }
end Go.Proofs

/- The numbers of the mails in the bag, in their order. -/
namespace Go.Proofs.YtadcidbeealdpaaGreatDoor
open Go.RowKit Go.Maps Go.Shelf
open Go.WideElems (Fit rd rg)

def anyElem : Value → Option (DataW Unit × List MemPlace) := fun _ => some (.lit (.bool true), [])
theorem ent_rd {P : Program} {k : TypeId} (hk : P.underlying k = some (.int .i64)) (q : Nat → Nat) (i : Nat) (hi : i < 4294967296) : rd P k anyElem (ent q i) = some (.int .i64 ((i : Int) + 1), .lit (.bool true)) := by
  unfold rd ent
  rw [keyOf_int_mk hk (a := (i : Int) + 1) (WalkArith.wf_i64 (by omega))]
  rfl
theorem ents_fit {P : Program} {k : TypeId} (hk : P.underlying k = some (.int .i64)) {q : Nat → Nat} {l : List Nat} {c : Nat} (hl : ∀ i ∈ l, i < c) (hn : l.Nodup) (hc : c ≤ 1048576) (hz : l.length ≤ c) : Fit P k anyElem (ents q l) c := by
  refine ⟨by simp [ents]; unfold maxLen; omega, (MapKept.stamped_iff _ _).2 ⟨fun x hx => ?_, ?_, ?_⟩, fun x hx => ?_⟩
  · rw [ents_list] at hx
    obtain ⟨i, hi, rfl⟩ := List.mem_map.1 hx
    exact hl i hi
  · rw [ents_list, List.map_map]
    have : ((fun x : MapEntry => x.born) ∘ ent q) = id := rfl
    rw [this, List.map_id]
    exact hn
  · rw [ents_list, List.pairwise_map]
    refine hn.imp fun {a b} hne e => hne ?_
    exact ent_key q e
  · rw [ents_list] at hx
    obtain ⟨i, hi, rfl⟩ := List.mem_map.1 hx
    exact ⟨_, ent_rd hk q i (by have := hl i hi; omega)⟩
def keysZ (l : List Nat) : List Int := l.map fun (i : Nat) => (i : Int) + 1
theorem ents_keys {P : Program} {k : TypeId} (hk : P.underlying k = some (.int .i64)) {q : Nat → Nat} {l : List Nat} (hl : ∀ i ∈ l, i < 4294967296) : (intKeys (DataW.map (((ents q l).toList.map (rg P k anyElem)).foldr DataW.insert []))).Perm (keysZ l) := by
  have h1 : (ents q l).toList.map (rg P k anyElem) = l.map fun (i : Nat) => (Lit.int .i64 ((i : Int) + 1), (.lit (.bool true) : DataW Unit)) := by
    rw [ents_list, List.map_map]
    exact List.map_congr_left fun i hi => by show rg P k anyElem (ent q i) = _; unfold rg; rw [ent_rd hk q i (hl i hi)]; rfl
  rw [h1]
  show ((List.foldr DataW.insert [] _).map fun p => Go.intOf p.1).Perm _
  refine ((WideShapes.sorted_perm _).map _).trans ?_
  rw [List.map_map]
  exact List.Perm.refl _
theorem keys_sorted {l : List Nat} (hp : l.Pairwise (· < ·)) {ss : List Int} (h : ss.Perm (keysZ l)) : ss.mergeSort (fun x y => decide (x ≤ y)) = keysZ l := by
  have e1 : ss.mergeSort leI = (keysZ l).mergeSort leI := mergeSort_of_perm_i h
  refine e1.trans (List.mergeSort_of_pairwise ?_)
  unfold keysZ
  rw [List.pairwise_map]
  exact hp.imp fun {a b} hab => by simp only [leI, decide_eq_true_eq]; omega
theorem live_pairwise (S : PStore) : S.live.Pairwise (· < ·) := (List.pairwise_lt_range).filter _
theorem live_len (S : PStore) : S.live.length ≤ S.items.length := by
  unfold PStore.live
  have := List.length_filter_le (fun i => !(S.stayOf i).isEmpty) (List.range S.items.length)
  rwa [List.length_range] at this
end Go.Proofs.YtadcidbeealdpaaGreatDoor

/- slices.Sorted(maps.Keys(m)) at the bag's map. -/
namespace Go.Proofs.YtadcidbeealdpaaGreatDoor
open Go.RowKit Go.Maps Go.Shelf

theorem sorts_int (m : Nat) : AnyZI.SortsIn Tryz.prog Tryz.sortedA_ren Fence.wide m :=
  ⟨fun blk off cap ss W hH hblk hsz => callsIn_wide.2 (AnyM.slices_Sort_int Tryz.sortA blk off cap ss W hH hblk hsz),
   fun p cap W => callsIn_wide.2 (AnyM.slices_Sort_int_none Tryz.sortA p cap W)⟩

theorem keys_any (mb : Option Nat) (W : World) : Calls Tryz.prog 39 #[.map mb] W fun e w' => e = .returned (.func (.func 67) #[] #[.pointer (some ⟨W.heap.size, 0, none⟩)]) ∧ w' = W.alloc (.cells #[.map mb] 93) :=
  (callsIn_wide (n := 5)).1 (AnyZI.keys_in Tryz.keysA Fence.wide 5 trivial rfl mb W)

theorem sortedKeys_any (w : World) (mb c : Nat) (q : Nat → Nat) (l : List Nat) (h : MapIn w mb q l c) (hl : ∀ i ∈ l, i < c) (hp : l.Pairwise (· < ·)) (hc : c ≤ 1048576) (hz : l.length ≤ c) :
    Calls Tryz.prog 38 #[.func (.func 67) #[] #[.pointer (some ⟨w.heap.size, 0, none⟩)]] (w.alloc (.cells #[.map (some mb)] 93)) fun e w' => ∃ v, e = .returned v ∧ w'.ownsRow (w.heap.size + 1) 3 1 v l.length ((keysZ l).map fun (i : Int) => .int .i64 i) ∧ Below (w.heap.size + 1) (w.alloc (.cells #[.map (some mb)] 93)) w' := by
  have hn : l.Nodup := hp.imp fun {a b} hab => by omega
  have hlt : mb < w.heap.size := heap_some_lt h
  have hown : (w.alloc (.cells #[.map (some mb)] 93)).ownsMap Tryz.prog 3 anyElem mb c (.map (((ents q l).toList.map (WideElems.rg Tryz.prog 3 anyElem)).foldr DataW.insert [])) :=
    ⟨ents q l, c, (Below.heap_alloc _ _ mb hlt).trans h, ents_fit Tryz.underlying3 hl hn hc hz, by simp [ents]; exact hz, rfl⟩
  have hsz : Maps.size (DataW.map (((ents q l).toList.map (WideElems.rg Tryz.prog 3 anyElem)).foldr DataW.insert [])) = l.length := by
    show (List.foldr DataW.insert [] _).length = _
    rw [length_sorted, List.length_map, ents_list, List.length_map]
  have hseq := AnyZI.keys_gives (ρ := Tryz.keysA_ren) { Tryz.keysA with } Fence.wide 2 trivial rfl (by omega) w.heap.size mb c _ (w.alloc (.cells #[.map (some mb)] 93)) (by simp) (by simp) hown
  have cS := AnyZI.sorted_in Tryz.sortedA Fence.wide 5 trivial trivial trivial trivial rfl (by omega) (sorts_int _) (enters_of Tryz.func66 (by kernel_rfl) rfl) 67 #[.pointer (some ⟨w.heap.size, 0, none⟩)] trivial (enters_of Tryz.func67 (by kernel_rfl) rfl) _ _ (by rw [hsz]; unfold maxLen; omega) (by rw [hsz]; omega) _ hseq
  change CallsIn _ _ Tryz.prog 38 _ _ _ at cS
  refine ((callsIn_wide (n := 5)).1 cS).mono ?_
  rintro e w' ⟨v, ss, rfl, hS, hrow, hnil, hb⟩
  have hps := hS.trans (ents_keys (q := q) Tryz.underlying3 (fun i hi => by have := hl i hi; omega))
  have hlen : ss.length = l.length := by rw [hps.length_eq]; simp [keysZ]
  have e1 : (w.alloc (.cells #[.map (some mb)] 93)).heap.size = w.heap.size + 1 := by simp
  rw [e1, hlen, keys_sorted hp hps] at hrow
  rw [e1] at hb
  exact ⟨v, rfl, hrow, hb⟩
end Go.Proofs.YtadcidbeealdpaaGreatDoor
