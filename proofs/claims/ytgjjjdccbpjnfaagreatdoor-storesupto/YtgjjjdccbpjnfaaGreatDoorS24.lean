import Derived.Test.YtgjjjdccbpjnfaaGreatDoorS20
import Derived.Test.YtgjjjdccbpjnfaaGreatDoorS23

/- The numbers of the mails in the bag, in their order. -/
namespace Go.Proofs.YtgjjjdccbpjnfaaGreatDoor
open Go.RowKit Go.Maps Go.Shelf
open Go.WideElems (Fit rd rg)

def anyElem : Value → Option (DataW Unit × List MemPlace) := fun _ => some (.lit (.bool true), [])
theorem ent_rd {P : Program} {k : TypeId} (hk : P.underlying k = some (.int .i64)) (q : Nat → Nat) (i : Nat) (hi : i < 4294967296) : rd P k anyElem (ent q i) = some (.int .i64 ((i : Int) + 1), .lit (.bool true)) := by
  unfold rd ent
  rw [keyOf_int_mk hk (a := (i : Int) + 1) (WalkArith.wf_i64 (by omega))]
  rfl
theorem ents_fit {P : Program} {k : TypeId} (hk : P.underlying k = some (.int .i64)) {q : Nat → Nat} {l : List Nat} {c : Nat} (hl : ∀ i ∈ l, i < c) (hn : l.Nodup) (hc : c ≤ 1048576) (hz : l.length ≤ c) : Fit P k anyElem (ents q l) c := by
  refine ⟨by simp [ents]; unfold maxLen; omega, (MapKept.stamped_iff _ _).2 ⟨fun x hx => ?_, ?_, ?_⟩, fun x hx => ?_⟩
  · rw [ents_list] at hx
    obtain ⟨i, hi, rfl⟩ := List.mem_map.1 hx
    exact hl i hi
  · rw [ents_list, List.map_map]
    have : ((fun x : MapEntry => x.born) ∘ ent q) = id := rfl
    rw [this, List.map_id]
    exact hn
  · rw [ents_list, List.pairwise_map]
    refine hn.imp fun {a b} hne e => hne ?_
    exact ent_key q e
  · rw [ents_list] at hx
    obtain ⟨i, hi, rfl⟩ := List.mem_map.1 hx
    exact ⟨_, ent_rd hk q i (by have := hl i hi; omega)⟩
def keysZ (l : List Nat) : List Int := l.map fun (i : Nat) => (i : Int) + 1
theorem ents_keys {P : Program} {k : TypeId} (hk : P.underlying k = some (.int .i64)) {q : Nat → Nat} {l : List Nat} (hl : ∀ i ∈ l, i < 4294967296) : (intKeys (DataW.map (((ents q l).toList.map (rg P k anyElem)).foldr DataW.insert []))).Perm (keysZ l) := by
  have h1 : (ents q l).toList.map (rg P k anyElem) = l.map fun (i : Nat) => (Lit.int .i64 ((i : Int) + 1), (.lit (.bool true) : DataW Unit)) := by
    rw [ents_list, List.map_map]
    exact List.map_congr_left fun i hi => by show rg P k anyElem (ent q i) = _; unfold rg; rw [ent_rd hk q i (hl i hi)]; rfl
  rw [h1]
  show ((List.foldr DataW.insert [] _).map fun p => Go.intOf p.1).Perm _
  refine ((WideShapes.sorted_perm _).map _).trans ?_
  rw [List.map_map]
  exact List.Perm.refl _
theorem keys_sorted {l : List Nat} (hp : l.Pairwise (· < ·)) {ss : List Int} (h : ss.Perm (keysZ l)) : ss.mergeSort (fun x y => decide (x ≤ y)) = keysZ l := by
  have e1 : ss.mergeSort leI = (keysZ l).mergeSort leI := mergeSort_of_perm_i h
  refine e1.trans (List.mergeSort_of_pairwise ?_)
  unfold keysZ
  rw [List.pairwise_map]
  exact hp.imp fun {a b} hab => by simp only [leI, decide_eq_true_eq]; omega
theorem live_pairwise (S : PStore) : S.live.Pairwise (· < ·) := (List.pairwise_lt_range).filter _
theorem live_len (S : PStore) : S.live.length ≤ S.items.length := by
  unfold PStore.live
  have := List.length_filter_le (fun i => !(S.stayOf i).isEmpty) (List.range S.items.length)
  rwa [List.length_range] at this
end Go.Proofs.YtgjjjdccbpjnfaaGreatDoor

/- slices.Sorted(maps.Keys(m)) at the bag's map. -/
namespace Go.Proofs.YtgjjjdccbpjnfaaGreatDoor
open Go.RowKit Go.Maps Go.Shelf

theorem sorts_int (m : Nat) : AnyZI.SortsIn Tryz.prog Tryz.sortedA_ren Fence.wide m :=
  ⟨fun blk off cap ss W hH hblk hsz => callsIn_wide.2 (AnyM.slices_Sort_int Tryz.sortA blk off cap ss W hH hblk hsz),
   fun p cap W => callsIn_wide.2 (AnyM.slices_Sort_int_none Tryz.sortA p cap W)⟩

theorem keys_any (mb : Option Nat) (W : World) : Calls Tryz.prog 39 #[.map mb] W fun e w' => e = .returned (.func (.func 80) #[] #[.pointer (some ⟨W.heap.size, 0, none⟩)]) ∧ w' = W.alloc (.cells #[.map mb] 85) :=
  (callsIn_wide (n := 5)).1 (AnyZI.keys_in Tryz.keysA Fence.wide 5 trivial rfl mb W)

theorem sortedKeys_any (w : World) (mb c : Nat) (q : Nat → Nat) (l : List Nat) (h : MapIn w mb q l c) (hl : ∀ i ∈ l, i < c) (hp : l.Pairwise (· < ·)) (hc : c ≤ 1048576) (hz : l.length ≤ c) :
    Calls Tryz.prog 38 #[.func (.func 80) #[] #[.pointer (some ⟨w.heap.size, 0, none⟩)]] (w.alloc (.cells #[.map (some mb)] 85)) fun e w' => ∃ v, e = .returned v ∧ w'.ownsRow (w.heap.size + 1) 3 1 v l.length ((keysZ l).map fun (i : Int) => .int .i64 i) ∧ Below (w.heap.size + 1) (w.alloc (.cells #[.map (some mb)] 85)) w' := by
  have hn : l.Nodup := hp.imp fun {a b} hab => by omega
  have hlt : mb < w.heap.size := heap_some_lt h
  have hown : (w.alloc (.cells #[.map (some mb)] 85)).ownsMap Tryz.prog 3 anyElem mb c (.map (((ents q l).toList.map (WideElems.rg Tryz.prog 3 anyElem)).foldr DataW.insert [])) :=
    ⟨ents q l, c, (Below.heap_alloc _ _ mb hlt).trans h, ents_fit Tryz.underlying3 hl hn hc hz, by simp [ents]; exact hz, rfl⟩
  have hsz : Maps.size (DataW.map (((ents q l).toList.map (WideElems.rg Tryz.prog 3 anyElem)).foldr DataW.insert [])) = l.length := by
    show (List.foldr DataW.insert [] _).length = _
    rw [length_sorted, List.length_map, ents_list, List.length_map]
  have hseq := AnyZI.keys_gives (ρ := Tryz.keysA_ren) { Tryz.keysA with } Fence.wide 2 trivial rfl (by omega) w.heap.size mb c _ (w.alloc (.cells #[.map (some mb)] 85)) (by simp) (by simp) hown
  have cS := AnyZI.sorted_in Tryz.sortedA Fence.wide 5 trivial trivial trivial trivial rfl (by omega) (sorts_int _) (enters_of Tryz.func79 (by kernel_rfl) rfl) 80 #[.pointer (some ⟨w.heap.size, 0, none⟩)] trivial (enters_of Tryz.func80 (by kernel_rfl) rfl) _ _ (by rw [hsz]; unfold maxLen; omega) (by rw [hsz]; omega) _ hseq
  change CallsIn _ _ Tryz.prog 38 _ _ _ at cS
  refine ((callsIn_wide (n := 5)).1 cS).mono ?_
  rintro e w' ⟨v, ss, rfl, hS, hrow, hnil, hb⟩
  have hps := hS.trans (ents_keys (q := q) Tryz.underlying3 (fun i hi => by have := hl i hi; omega))
  have hlen : ss.length = l.length := by rw [hps.length_eq]; simp [keysZ]
  have e1 : (w.alloc (.cells #[.map (some mb)] 85)).heap.size = w.heap.size + 1 := by simp
  rw [e1, hlen, keys_sorted hp hps] at hrow
  rw [e1] at hb
  exact ⟨v, rfl, hrow, hb⟩
end Go.Proofs.YtgjjjdccbpjnfaaGreatDoor
