import Derived.Test.YtgjjjdccbpjnfaaGreatDoorS01
import Derived.Lib.Hide
import Derived.Lib.Case
import Derived.Laws.IdiomStrings
import Derived.Laws.MakeOwn
import Derived.Lib.ConvBytes
import Derived.Lib.UnsafeStr
import Derived.Shelf.Strings.Builder1
import Derived.Shelf.Strings.Builder2
import Derived.Shelf.Strings.OnBuilder
import Derived.Shelf.Small.Utf8
import Derived.Shelf.Small.Bits
import Derived.Shelf.Small.Strs
import Derived.Shelf.Strings.BuilderF
import Derived.Shelf.Strings.BuilderK
import Derived.Shelf.Utf8.RuneCount
import Derived.Shelf.Strconv.Itoa0
import Derived.Shelf.Strconv.Itoa1
import Derived.Shelf.LaysM
import Derived.Shelf.Strconv.Itoa2
import Derived.Shelf.Strconv.Itoa3
import Derived.Shelf.Strconv.Clone
import Derived.Shelf.Strings.Search1
import Derived.Shelf.Strings.Search2
import Derived.Shelf.Strings.Search3
import Derived.Shelf.Strings.Cut
import Derived.Shelf.Strings.Count
import Derived.Shelf.Strings.Shaped
import Derived.Shelf.Strings.Prefix
import Derived.Shelf.Strings.Split
import Derived.Shelf.Strings.SplitShaped
import Derived.Shelf.Unicode.Latin
import Derived.Shelf.Unicode.Decode
import Derived.Shelf.Strings.RuneCount
import Derived.Shelf.Strings.Explode
import Derived.Shelf.Unicode.DecodeSlow
import Derived.Shelf.Unicode.DecodeAny
import Derived.Shelf.Unicode.CaseLookup
import Derived.Shelf.Unicode.CaseConvert
import Derived.Shelf.Unicode.CaseTo
import Derived.Shelf.Unicode.CaseLaid
import Derived.Ground.Names2Prog
import Derived.Shelf.Slices.Clone
import Derived.Shelf.Slices.SearchI
import Derived.Ground.SlgnProg
import Derived.Shelf.SlicesE.Clone
import Derived.Ground.SlgmProg
import Derived.Shelf.SortM.Plain
import Derived.Shelf.SortM.SortNone
import Derived.Test.YtgjjjdccbpjnfaaGreatDoorProg

/- The document's answer: is it a domain? -/
namespace Go.Proofs.YtgjjjdccbpjnfaaGreatDoor
open Go.RowKit

def DomPost (l : List UInt8) (w : World) (e : Ending) (w' : World) : Prop := e = .returned (.bool (domR l)) ∧ ∃ n, w' = w.drewN n
theorem DomPost.mk {l : List UInt8} {w : World} {e : Ending} {w' : World} (b : Bool) (he : e = .returned (.bool b)) (hb : domR l = b) (n : Nat) (hw : w' = w.drewN n) : DomPost l w e w' := ⟨by rw [he, hb], n, hw⟩

def domM (s m : Value) : Nat := match s, m with | .string t, .bool true => t.size + 1 | _, _ => 0

/-- where the loop stands: what is left, and whether there is more -/
def DomRel (l : List UInt8) (w : World) (s m : Value) (w' : World) : Prop :=
  ∃ (t : ByteArray) (more : Bool), s = .string t ∧ m = .bool more ∧ t.size ≤ 40 ∧ (more = true → (pieces 46 l).all labR = (pieces 46 t.data.toList).all labR) ∧ (more = false → (pieces 46 l).all labR = true) ∧ ∃ n, w' = w.drewN n

theorem size_of_toList (s : ByteArray) : s.data.toList.length = s.size := by simp

theorem getD_of (s : ByteArray) (k : Nat) (h : k < s.size) : s.data.toList.getD k 0 = s[k] := by
  rw [List.getD_eq_getElem?_getD, get_of s k h]; rfl

set_option maxHeartbeats 400000 in
theorem refIsDomain_any (s : ByteArray) (w : World) (hs : s.size ≤ maxLen) :
    Calls Tryz.prog 122 #[.string s] w (DomPost s.data.toList w) := by
  unfold maxLen at hs
  by_cases h0 : s.size = 0
  · have e0 : s = ⟨#[]⟩ := by
      obtain ⟨⟨l⟩⟩ := s
      cases l with
      | nil => rfl
      | cons a r => exact absurd h0 (by show ¬ (List.length (a :: r) = 0); simp)
    subst e0
    go_enter Tryz.func122, Tryz.ntmps122
    go_wp2
    go_ret
    exact DomPost.mk false rfl rfl 0 rfl
  · have he : s.toList.isEmpty = false := by
      rw [Lib.toList_data]
      obtain ⟨⟨l⟩⟩ := s
      cases l with
      | nil => exact absurd rfl h0
      | cons a r => rfl
    by_cases h40 : 40 < s.size
    · go_enter Tryz.func122, Tryz.ntmps122
      go_wp2
      go_ret
      exact DomPost.mk false rfl (by simp [domR]; intro _ h; omega) 0 rfl
    · have hb40 : decide (40 < (s.size : Int)) = false := by simp; omega
      have HE : Hid (domR s.data.toList = (pieces 46 s.data.toList).all labR) := by
        show _ = _
        rw [Lib.toList_data] at he
        simp [domR, he]; omega
      go_enter Tryz.func122, Tryz.ntmps122
      go_wp2
      go_loopw [0, 3] (fun t m w' => DomRel s.data.toList w t m w') (fun t m _ => domM t m)
      case atStart => exact ⟨s, true, rfl, rfl, by omega, fun _ => rfl, (fun h => by cases h), 0, rfl⟩
      case round =>
        obtain ⟨t, more, rfl, rfl, ht, h1, h2, n, rfl⟩ := hrel
        cases more with
        | false =>
          have H2 : Hid ((pieces 46 s.data.toList).all labR = true) := h2 rfl
          clear h1 h2
          go_wp2
          go_ret
          exact DomPost.mk true rfl (by rw [HE.out, H2.out]) n rfl
        | true =>
          have H1 : Hid ((pieces 46 s.data.toList).all labR = (pieces 46 t.data.toList).all labR) := h1 rfl
          clear h1 h2
          have h46 : Hid (((46 : UInt8).toNat : Int) = 46) := rfl
          go_wp2_with fail
          refine (cut_any t 46 46 h46 _ (by unfold maxLen; omega)).mono ?_
          rintro e w' ⟨x, y, f, rfl, hc, n', rfl⟩
          have HC := Lib.hid hc
          clear hc h46
          have hsz := cut_len 46 _ _ _ _ HC.out
          have HS : Hid (domR s.data.toList = (labR x.data.toList && (!f || (pieces 46 y.data.toList).all labR))) := by
            show _ = _
            rw [HE.out, H1.out, dom_step 46 labR _ _ _ _ HC.out]
          have hx40 : x.size ≤ 40 := by have := hsz.1; rw [size_of_toList, size_of_toList] at this; omega
          have hy40 : y.size ≤ 40 := by have := hsz.2.1; rw [size_of_toList, size_of_toList] at this; omega
          have HY : Hid (f = true → y.size < t.size) := by
            show _ → _
            intro h
            have := hsz.2.2 h
            rw [size_of_toList, size_of_toList] at this; exact this
          have hno : Hid (labR x.data.toList = false → domR s.data.toList = false) := by
            show _ → _
            intro h
            rw [HS.out, h]; rfl
          clear hsz HC H1
          by_cases hn : 1 ≤ x.size ∧ x.size ≤ 20
          · obtain ⟨hn1, hn2⟩ := hn
            have hg0 : Hid (x.data.toList.getD 0 0 = x[0]) := getD_of x 0 (by omega)
            have hgz : Hid (x.data.toList.getD (x.data.toList.length - 1) 0 = x[x.size - 1]) := by
              show _ = _
              rw [size_of_toList]
              exact getD_of x (x.size - 1) (by omega)
            have hb1 : decide ((x.size : Int) < 1) = false := by simp; omega
            have hb2 : decide (20 < (x.size : Int)) = false := by simp; omega
            by_cases hd : ((x[0].toNat : Int) == 45) = false ∧ ((x[x.size - 1].toNat : Int) == 45) = false
            · obtain ⟨hd0, hd1⟩ := hd
              go_wp2_with fail
              go_loop [6] (fun i => ∃ k : Nat, k ≤ x.size ∧ i = .int .i64 k ∧ Hid (∀ j : Nat, j < k → okR (x.data.toList.getD j 0) = true)) (fun i => x.size - (intOf i).toNat)
              case atStart => exact ⟨0, Nat.zero_le _, rfl, fun j hj => by omega⟩
              case round =>
                obtain ⟨k, hk, rfl, HN⟩ := hrel
                by_cases hlt : k < x.size
                · have hg : Hid (x.data.toList.getD k 0 = x[k]) := getD_of x k hlt
                  go_wp2_with (first | (go_at_call 182; refine (letter_any _ _).mono ?_; rintro e w' ⟨rfl, rfl⟩) | (go_at_call 183; refine (digit_any _ _).mono ?_; rintro e w' ⟨rfl, rfl⟩))
                  · exact ⟨⟨k + 1, by omega, by go_num, ok_succ HN.out hg.out (okR_let ‹_›)⟩, by simp [intOf]; omega⟩
                  · exact ⟨⟨k + 1, by omega, by go_num, ok_succ HN.out hg.out (okR_dig ‹_›)⟩, by simp [intOf]; omega⟩
                  · go_ret
                    exact DomPost.mk false rfl (hno.out (labR_ch (by rw [size_of_toList]; exact hlt) hg.out (okR_no ‹_› ‹_› ‹_›))) _ rfl
                  · exact ⟨⟨k + 1, by omega, by go_num, ok_succ HN.out hg.out (okR_dash ‹_›)⟩, by simp [intOf]; omega⟩
                · have HL : Hid (labR x.data.toList = true) :=
                    labR_of (by rw [size_of_toList]; exact hn1) (by rw [size_of_toList]; exact hn2) hg0.out hgz.out hd0 hd1 (fun j hj => HN.out j (by rw [size_of_toList] at hj; omega))
                  have HT : Hid ((pieces 46 s.data.toList).all labR = (!f || (pieces 46 y.data.toList).all labR)) := by
                    show _ = _
                    rw [← HE.out, HS.out, HL.out]; rfl
                  go_wp2
                  refine ⟨⟨y, f, rfl, rfl, hy40, fun h => by rw [HT.out, h]; rfl, fun h => by rw [HT.out, h]; rfl, _, rfl⟩, ?_⟩
                  have := HY.out
                  cases f with
                  | false => simp [domM]
                  | true => simp [domM]; exact this rfl
            · have HF : Hid (domR s.data.toList = false) := hno.out (labR_dash hg0.out hgz.out hd)
              have HD := Lib.hid hd
              clear hd
              cases e0 : ((x[0].toNat : Int) == 45) with
              | true =>
                go_wp2_with fail
                all_goals (go_ret; exact DomPost.mk false rfl HF.out _ rfl)
              | false =>
                cases e1 : ((x[x.size - 1].toNat : Int) == 45) with
                | true =>
                  go_wp2_with fail
                  all_goals (go_ret; exact DomPost.mk false rfl HF.out _ rfl)
                | false => exact absurd ⟨e0, e1⟩ HD.out
          · have HF : Hid (domR s.data.toList = false) := hno.out (labR_len (by rw [size_of_toList]; exact hn))
            have hb : (decide ((x.size : Int) < 1) || decide (20 < (x.size : Int))) = true := by simp; omega
            clear hn
            go_wp2_with fail
            all_goals (go_ret; exact DomPost.mk false rfl HF.out _ rfl)
end Go.Proofs.YtgjjjdccbpjnfaaGreatDoor

/- The document's answer: small letters. -/
namespace Go.Proofs.YtgjjjdccbpjnfaaGreatDoor
open Go.RowKit

/-- the row while the loop goes: the first k bytes are small -/
def SmallAt (l : List UInt8) (B k : Nat) (w w' : World) : Prop :=
  Below B w w' ∧ B < w'.heap.size ∧ (∀ j : Nat, j < l.length → w'.cell? ⟨B, j, none⟩ = some (.int .u8 (((if j < k then Lib.lowerB (l.getD j 0) else l.getD j 0).toNat : Nat) : Int))) ∧ ∀ j : Nat, j < l.length → w'.frozen? ⟨B, j, none⟩ = false

theorem smallAt_start (s : ByteArray) (w : World) : ∃ cap W1, (convert 9 86 (.string s)).run Tryz.prog w = .ok (.slice (some ⟨w.heap.size, 0, none⟩) s.size cap) W1 ∧ SmallAt s.data.toList w.heap.size 0 w W1 := by
  refine ⟨_, _, run_bytes_of_string w 9 86 5 s Tryz.underlying9 Tryz.underlying86 Tryz.underlying5, ?_, ?_, ?_, ?_⟩
  · exact (Below.refl _ _).drew.alloc (by simp) _
  · simp
  · intro j hj
    have h1 := World.cell?_alloc_mark w.drew (bytesRow s (grownCap w s.size 0 5)) 5 ((bytesRow s (grownCap w s.size 0 5)).size, (bytesRow s (grownCap w s.size 0 5)).size + 1) j
    refine h1.trans ?_
    rw [bytesRow_at s _ j (by simpa using hj)]
    rw [if_neg (by omega), List.getD_eq_getElem?_getD, List.getElem?_eq_getElem hj]
    rfl
  · intro j hj
    have h1 := World.frozen?_alloc_mark w.drew (bytesRow s (grownCap w s.size 0 5)) 5 (bytesRow s (grownCap w s.size 0 5)).size ((bytesRow s (grownCap w s.size 0 5)).size + 1) j
    refine h1.trans ?_
    have : j < (bytesRow s (grownCap w s.size 0 5)).size := by
      have : j < s.data.size := by simpa using hj
      unfold bytesRow
      rw [Array.size_append, Array.size_map]
      omega
    rw [Bool.and_eq_false_iff]
    left
    simp; omega

theorem smallAt_same {l : List UInt8} {B k : Nat} {w w' : World} (h : SmallAt l B k w w') (hk : k < l.length) (he : Lib.lowerB (l.getD k 0) = l.getD k 0) : SmallAt l B (k + 1) w w' := by
  refine ⟨h.1, h.2.1, fun j hj => ?_, h.2.2.2⟩
  rw [h.2.2.1 j hj]
  by_cases e : j = k
  · subst e; rw [if_neg (by omega), if_pos (by omega), he]
  · by_cases e2 : j < k
    · rw [if_pos e2, if_pos (by omega)]
    · rw [if_neg e2, if_neg (by omega)]

theorem smallAt_set {l : List UInt8} {B k : Nat} {w w' : World} (h : SmallAt l B k w w') (hk : k < l.length) (v : Int) (hv : ((Lib.lowerB (l.getD k 0)).toNat : Int) = v) : SmallAt l B (k + 1) w (w'.setCell ⟨B, k, none⟩ (.int .u8 v)) := by
  refine ⟨h.1.setCell (Nat.le_refl _) _, by simpa using h.2.1, fun j hj => ?_, fun j hj => by simpa using h.2.2.2 j hj⟩
  by_cases e : j = k
  · subst e
    rw [World.cell?_setCell_same _ _ _ (h.2.2.1 j hj), if_pos (by omega), hv]
  · rw [World.cell?_setCell_other _ _ _ _ (by intro h; injection h with _ h; exact e h.symm), h.2.2.1 j hj]
    by_cases e2 : j < k
    · rw [if_pos e2, if_pos (by omega)]
    · rw [if_neg e2, if_neg (by omega)]

theorem lower_no {c : UInt8} (h : ¬ (65 ≤ (c.toNat : Int) ∧ (c.toNat : Int) ≤ 90)) : Lib.lowerB c = c := by
  unfold Lib.lowerB Lib.isUpperB
  rw [if_neg]
  simp only [Bool.and_eq_true, decide_eq_true_eq, UInt8.le_iff_toNat_le]
  intro h'; apply h
  have h1 : (65 : UInt8).toNat = 65 := rfl
  have h2 : (90 : UInt8).toNat = 90 := rfl
  omega
theorem lower_yes {c : UInt8} (h : 65 ≤ (c.toNat : Int) ∧ (c.toNat : Int) ≤ 90) : ((Lib.lowerB c).toNat : Int) = (c.toNat : Int) + 32 := by
  unfold Lib.lowerB Lib.isUpperB
  have h1 : (65 : UInt8).toNat = 65 := rfl
  have h2 : (90 : UInt8).toNat = 90 := rfl
  rw [if_pos]
  · rw [UInt8.toNat_add]
    have : (32 : UInt8).toNat = 32 := rfl
    omega
  · simp only [Bool.and_eq_true, decide_eq_true_eq, UInt8.le_iff_toNat_le]
    omega

theorem bytes_back (w' : World) (B cap n : Nat) (l : List UInt8) (hn : l.length = n) (hc : ∀ (j : Nat), j < n → w'.cell? ⟨B, j, none⟩ = some (.int .u8 ((l.getD j 0).toNat : Int))) :
    (convert 86 9 (.slice (some ⟨B, 0, none⟩) n cap)).run Tryz.prog w' = .ok (.string ⟨l.toArray⟩) w' := by
  subst hn
  refine run_convert_bytes_back (P := Tryz.prog) w' 86 9 5 ⟨B, 0, none⟩ cap l Tryz.underlying86 Tryz.underlying5 Tryz.underlying9 (fun j hj => ?_)
  have ea : (Addr.add ⟨B, 0, none⟩ j) = ⟨B, j, none⟩ := by
    unfold Addr.add; simp <;> omega
  rw [ea, hc j hj, List.getD_eq_getElem?_getD, List.getElem?_eq_getElem hj]
  rfl

theorem smallAt_back (s : ByteArray) (cap : Nat) (w w' : World) (B : Nat) (h : SmallAt s.data.toList B s.size w w') :
    (convert 86 9 (.slice (some ⟨B, 0, none⟩) s.size cap)).run Tryz.prog w' = .ok (.string ⟨(Lib.toLowerA s.data.toList).toArray⟩) w' := by
  refine bytes_back w' B cap s.size (Lib.toLowerA s.data.toList) (by simp [Lib.toLowerA]) (fun j hj => ?_)
  have hj' : j < s.data.toList.length := by rw [size_of_toList]; exact hj
  have hc := h.2.2.1 j hj'
  rw [if_pos hj] at hc
  rw [hc, List.getD_eq_getElem?_getD, List.getElem?_eq_getElem hj', Lib.toLowerA, List.getD_eq_getElem?_getD, List.getElem?_map, List.getElem?_eq_getElem hj']
  rfl

set_option maxHeartbeats 400000 in
theorem small_any (s : ByteArray) (w : World) (hs : s.size ≤ maxLen) :
    Calls Tryz.prog 296 #[.string s] w fun e w' => e = .returned (.string ⟨(Lib.toLowerA s.data.toList).toArray⟩) ∧ Below w.heap.size w w' := by
  unfold maxLen at hs
  obtain ⟨cap, W1, hconv, h0⟩ := smallAt_start s w
  have H0 := Lib.hid h0
  clear h0
  go_enter Tryz.func296, Tryz.ntmps296
  go_wp2
  clear hconv
  go_loopw [4] (fun i w' => ∃ k : Nat, k ≤ s.size ∧ i = .int .i64 k ∧ SmallAt s.data.toList w.heap.size k w w') (fun i _ => s.size - (intOf i).toNat)
  case atStart => exact ⟨0, Nat.zero_le _, rfl, H0.out⟩
  case round =>
    obtain ⟨k, hk, rfl, hS⟩ := hrel
    by_cases hlt : k < s.size
    · have hkl : k < s.data.toList.length := by rw [size_of_toList]; exact hlt
      obtain ⟨c, hc⟩ : ∃ c, s.data.toList.getD k 0 = c := ⟨_, rfl⟩
      have hck := hS.2.2.1 k hkl
      rw [if_neg (Nat.lt_irrefl k), hc] at hck
      have hfz := hS.2.2.2 k hkl
      have HS := Lib.hid hS
      have HC := Lib.hid hc
      clear hS hc
      by_cases hu : 65 ≤ (c.toNat : Int) ∧ (c.toNat : Int) ≤ 90
      · have HU := Lib.hid hu
        obtain ⟨hu1, hu2⟩ := hu
        go_wp2
        go_roundw
        case rel => exact ⟨k + 1, by omega, by go_num, smallAt_set HS.out hkl _ (by rw [HC.out, lower_yes HU.out])⟩
        case measure => simp [intOf]; omega
      · have HL : Hid (Lib.lowerB (s.data.toList.getD k 0) = s.data.toList.getD k 0) := by
          show _ = _
          rw [HC.out, lower_no hu]
        go_wp2
        all_goals
          go_roundw
          case rel => exact ⟨k + 1, by omega, by go_num, smallAt_same HS.out hkl HL.out⟩
          case measure => simp [intOf]; omega
    · have hks : k = s.size := by omega
      rw [hks] at hS
      have hback := smallAt_back s cap w _ w.heap.size hS
      clear hks
      have HB := Lib.hid hS.1
      clear hS
      go_wp2
      go_ret
      exact ⟨rfl, HB.out⟩
end Go.Proofs.YtgjjjdccbpjnfaaGreatDoor

/- The document's numbers in bytes. -/
namespace Go.Proofs.YtgjjjdccbpjnfaaGreatDoor
open Go.RowKit

/-- a row of n elements is made -/
theorem make_n {P : Program} {t e : TypeId} {z : Value} {sz bytes : Nat} (ht : P.underlying t = some (.slice e)) (hinf : (P.info? e).map (fun i => (i.zero, i.size, i.bytes)) = some (some z, sz, bytes)) (n : Nat) (hb : bytes * n ≤ 281474976710656) (hn : n ≤ 140737488351232) (w : World) :
    (Instr.makeSlice t (.int .i64 (n : Int)) (.int .i64 (n : Int))).run P w = .ok (.slice (some ⟨w.heap.size, 0, none⟩) n n) (w.alloc (.cells (madeCells z.cells (n * sz)) e)) := by
  obtain ⟨i, hi, hz, hs, hby⟩ := info_parts hinf
  have := run_make (P := P) w t e i z ht hi hz .i64 .i64 (n : Int) (n : Int) (by omega) (Int.le_refl _) (by
      have h9 : ((bytes : Int) * (n : Int)) = ((bytes * n : Nat) : Int) := by rw [Int.natCast_mul]
      rw [hby, h9]
      generalize bytes * n = q at hb
      omega) (by omega)
  rw [show ((n : Int)).toNat = n by omega, hs] at this
  exact this
theorem made_one (z : Value) (h : z.cells = #[z]) (n : Nat) : (madeCells z.cells (n * 1)).toList = List.replicate n z := by
  rw [h, Nat.mul_one]
  apply List.ext_getElem?
  intro i
  by_cases hi : i < n
  · simp [madeCells, hi, Nat.mod_one]
  · simp [madeCells, hi]

theorem beBytes_cons : ∀ (j n : Nat), beBytes (j + 1) n = UInt8.ofNat (n / 256 ^ j) :: beBytes j n
  | 0, n => by simp [beBytes]
  | j + 1, n => by
    rw [beBytes, beBytes_cons j, beBytes, Nat.div_div_eq_div_mul, ← Nat.pow_succ']
    rfl

theorem info_u8' : (Tryz.prog.info? 5).map (fun i => (i.zero, i.size, i.bytes)) = some (some (.int .u8 0), 1, 1) := by kernel_rfl

/-- the row while it is written, from its end on: j of m bytes stand -/
def ByteRow (w : World) (b m j n : Nat) : Prop := ∃ A : Array Value, w.heap[b]? = some (.cells A 5 (0, 0)) ∧ A.toList = List.replicate (m - j) (.int .u8 0) ++ Lib.byteCells (beBytes j n)
theorem ByteRow.size {m j n : Nat} {A : Array Value} (hj : j ≤ m) (h : A.toList = List.replicate (m - j) (.int .u8 0) ++ Lib.byteCells (beBytes j n)) : A.size = m := by
  have := congrArg List.length h
  rw [List.length_append, List.length_replicate, Lib.byteCells_length, beBytes_len, Array.length_toList] at this
  omega
theorem ByteRow.set {w : World} {b m j n N I : Nat} (h : ByteRow w b m j n) (hj : j < m) (hI : I = m - (j + 1)) (hN : N = n / 256 ^ j) : ByteRow (w.setCell ⟨b, I, none⟩ (.int .u8 ((N : Int) % 256))) b m (j + 1) n := by
  have e0 : ((N : Int) % 256) = (n : Int) / 256 ^ j % 256 := by rw [hN]; simp
  rw [e0, hI]
  clear e0 hN hI
  obtain ⟨A, hA, hl⟩ := h
  refine ⟨A.setIfInBounds (m - (j + 1)) (.int .u8 ((n : Int) / 256 ^ j % 256)), heap_setCell_same w b _ A _ _ hA, ?_⟩
  have hv : ((n : Int) / 256 ^ j % 256) = ((UInt8.ofNat (n / 256 ^ j)).toNat : Int) := by
    rw [UInt8.toNat_ofNat', show ((n : Int) / 256 ^ j) = ((n / 256 ^ j : Nat) : Int) by simp]
    omega
  rw [Array.toList_setIfInBounds, hl, hv, beBytes_cons]
  have e : List.replicate (m - j) (Value.int .u8 0) = List.replicate (m - (j + 1)) (.int .u8 0) ++ [.int .u8 0] := by
    rw [show m - j = (m - (j + 1)) + 1 by omega, List.replicate_succ']
  rw [e, List.append_assoc, List.set_append_right _ _ (by simp)]
  simp [Lib.byteCells]

set_option maxHeartbeats 400000 in
set_option maxRecDepth 100000 in
theorem refBytes_any (n m : Nat) (w : World) (_hn : n ≤ maxLen) (hm : m ≤ 4) :
    Calls Tryz.prog 26 #[.int .i64 n, .int .i64 m] w fun e w' => e = .returned (.string (bs (beBytes m n))) ∧ Below w.heap.size w w' := by
  unfold maxLen at _hn
  have hmk := make_n (P := Tryz.prog) Tryz.underlying86 info_u8' m (by omega) (by omega) w
  go_enter Tryz.func26, Tryz.ntmps26
  go_wp2_with fail
  go_loopw [0, 6] (fun nv i w' => ∃ j N : Nat, j ≤ m ∧ nv = .int .i64 N ∧ Hid (N = n / 256 ^ j) ∧ i = .int .i64 ((m : Int) - j - 1) ∧ Hid (ByteRow w' w.heap.size m j n) ∧ Hid (Below w.heap.size w w')) (fun _ i _ => (intOf i + 1).toNat)
  case atStart =>
    refine ⟨0, n, Nat.zero_le _, rfl, Lib.hid (by simp), by simp, Lib.hid ⟨_, heap_alloc_new w _, ?_⟩, Lib.hid ((Below.refl _ _).alloc (Nat.le_refl _) _)⟩
    have hm1 := made_one (.int .u8 0) rfl m
    rw [Nat.mul_one] at hm1
    refine (show (madeCells #[.int .u8 0] m).toList = _ from hm1).trans ?_
    simp [beBytes, Lib.byteCells]
  case round =>
    obtain ⟨j, N, hj, rfl, HN, rfl, HR, HB⟩ := hrel
    have hNn : N ≤ n := by rw [HN.out]; exact Nat.div_le_self _ _
    by_cases hjm : j < m
    · obtain ⟨I, hI⟩ : ∃ I : Nat, I = m - (j + 1) := ⟨_, rfl⟩
      have hIi : (m : Int) - j - 1 = (I : Int) := by omega
      have hIm : I < m := by omega
      rw [hIi]
      have fr : wr.frozen? ⟨w.heap.size, I, none⟩ = false := by
        obtain ⟨A, hA, _⟩ := HR.out
        exact Lib.frozen_of_heap hA I
      have ce : ∃ v, wr.cell? ⟨w.heap.size, I, none⟩ = some v := by
        obtain ⟨A, hA, hl⟩ := HR.out
        exact ⟨_, by rw [Lib.cell_of_heap hA, Array.getElem?_eq_getElem (by rw [ByteRow.size hj hl]; exact hIm)]⟩
      obtain ⟨v, ce⟩ := ce
      have HI := Lib.hid hI
      have HII := Lib.hid hIi
      clear hI hIi
      go_wp2_with fail
      refine ⟨⟨j + 1, N / 256, by omega, by simp, Lib.hid ?_, congrArg (Value.int .i64) (by have := HII.out; omega), Lib.hid (HR.out.set hjm HI.out HN.out), Lib.hid (HB.out.setCell (Nat.le_refl _) _)⟩, by simp [intOf]⟩
      rw [HN.out, Nat.div_div_eq_div_mul, ← Nat.pow_succ]
    · have hj9 : j = m := by omega
      subst hj9
      have hneg : ¬ ((0 : Int) ≤ (j : Int) - j - 1) := by omega
      have hconv : (convert 86 9 (.slice (some ⟨w.heap.size, 0, none⟩) j j)).run Tryz.prog wr = .ok (.string (bs (beBytes j n))) wr := by
        obtain ⟨A, hA, hl⟩ := HR.out
        refine bytes_back wr w.heap.size j j (beBytes j n) (beBytes_len _ _) (fun i hi => ?_)
        rw [Lib.cell_of_heap hA, ← Array.getElem?_toList, hl, Nat.sub_self]
        have hi' : i < (beBytes j n).length := by rw [beBytes_len]; exact hi
        simp [Lib.byteCells, List.getD_eq_getElem?_getD, hi']
      go_wp2_with fail
      go_ret
      exact ⟨rfl, HB.out⟩
end Go.Proofs.YtgjjjdccbpjnfaaGreatDoor

/- The library's contracts at this translation, as the kit's own commands lay them: those that the walks call. -/
namespace Go.Proofs
open Go.Shelf
def Tryz.lays169_ren : Go.Shelf.Ren := ⟨fun | 169 => 131 | n => n, fun | 70 => 203 | 9 => 9 | 0 => 0 | 72 => 205 | 37 => 86 | 127 => 182 | 3 => 3 | 5 => 5 | n => n, fun | n => n⟩
theorem Tryz.lays169 : Go.Proofs.Lays.n169 Tryz.prog Tryz.lays169_ren := {
  mixed := by kernel_rfl
  f169 := Tryz.func131.trans (congrArg some (by kernel_rfl))
  t0 := Tryz.underlying0
  a0 := Tryz.isAgg0
  z0 := Tryz.sizeOf0
  v0 := Tryz.zeroValue0
  t3 := Tryz.underlying3
  a3 := Tryz.isAgg3
  z3 := Tryz.sizeOf3
  v3 := Tryz.zeroValue3
  t9 := Tryz.underlying9
  a9 := Tryz.isAgg9
  z9 := Tryz.sizeOf9
  v9 := Tryz.zeroValue9
  t37 := Tryz.underlying86
  a37 := Tryz.isAgg86
  z37 := Tryz.sizeOf86
  v37 := Tryz.zeroValue86
  t70 := Tryz.underlying203
  a70 := Tryz.isAgg203
  z70 := Tryz.sizeOf203
  v70 := Tryz.zeroValue203
  t72 := Tryz.underlying205
  a72 := Tryz.isAgg205
  z72 := Tryz.sizeOf205
  v72 := Tryz.zeroValue205
  t127 := Tryz.underlying182
  a127 := Tryz.isAgg182
  z127 := Tryz.sizeOf182
  v127 := Tryz.zeroValue182 }
theorem Tryz.Builder_Extra_169 : Builder.Extra Tryz.prog Tryz.lays169_ren := {
  sizeBuilder := by kernel_rfl
  liesBuilder := by kernel_rfl
  t5 := Tryz.underlying5
  a5 := Tryz.isAgg5
  z5 := Tryz.sizeOf5
  v5 := Tryz.zeroValue5
  infoByte := by kernel_rfl
  cellsByte := by kernel_rfl
  sizeByte := by kernel_rfl
  neB5 := by decide }
open Go.RowKit in
theorem Tryz.Builder_String_any (B b : Nat) (l : List UInt8) (w : World) (h : Lib.IsBuilder 205 5 B b (Lib.byteCells l) w) (hBw : B ≤ w.heap.size) :
    Calls Tryz.prog 131 #[.pointer (some ⟨b, 0, none⟩)] w fun e w' => e = .returned (.string ⟨l.toArray⟩) ∧ Below B w w' := Any.Builder_String_any Tryz.lays169 Tryz.Builder_Extra_169 B b l w h hBw
def Tryz.lays159_ren : Go.Shelf.Ren := ⟨fun | 159 => 321 | 165 => 287 | 166 => 192 | 167 => 288 | 169 => 131 | 230 => 289 | 204 => 335 | 240 => 234 | 241 => 309 | 197 => 266 | 118 => 310 | 168 => 311 | 270 => 312 | 262 => 313 | 276 => 275 | 277 => 327 | 260 => 297 | 242 => 328 | 313 => 329 | 278 => 342 | 274 => 343 | 275 => 344 | n => n, fun | 9 => 9 | 4 => 4 | 3 => 3 | 5 => 5 | 72 => 205 | 0 => 0 | 76 => 252 | 75 => 251 | 107 => 321 | 70 => 203 | 20 => 20 | 37 => 86 | 127 => 182 | 21 => 21 | 105 => 303 | 164 => 311 | 162 => 341 | 203 => 339 | 119 => 327 | 46 => 111 | 139 => 330 | 138 => 329 | 51 => 121 | 160 => 351 | 208 => 372 | 206 => 370 | 80 => 57 | n => n, fun | 13 => 3 | 3 => 1 | 4 => 2 | n => n⟩
theorem Tryz.lays159 : Go.Proofs.Lays.n159 Tryz.prog Tryz.lays159_ren := {
  mixed := by kernel_rfl
  f118 := Tryz.func310.trans (congrArg some (by kernel_rfl))
  f159 := Tryz.func321.trans (congrArg some (by kernel_rfl))
  f165 := Tryz.func287.trans (congrArg some (by kernel_rfl))
  f166 := Tryz.func192.trans (congrArg some (by kernel_rfl))
  f167 := Tryz.func288.trans (congrArg some (by kernel_rfl))
  f168 := Tryz.func311.trans (congrArg some (by kernel_rfl))
  f169 := Tryz.func131.trans (congrArg some (by kernel_rfl))
  f197 := Tryz.func266.trans (congrArg some (by kernel_rfl))
  f204 := Tryz.func335.trans (congrArg some (by kernel_rfl))
  f230 := Tryz.func289.trans (congrArg some (by kernel_rfl))
  f240 := Tryz.func234.trans (congrArg some (by kernel_rfl))
  f241 := Tryz.func309.trans (congrArg some (by kernel_rfl))
  f242 := Tryz.func328.trans (congrArg some (by kernel_rfl))
  f260 := Tryz.func297.trans (congrArg some (by kernel_rfl))
  f262 := Tryz.func313.trans (congrArg some (by kernel_rfl))
  f270 := Tryz.func312.trans (congrArg some (by kernel_rfl))
  f274 := Tryz.func343.trans (congrArg some (by kernel_rfl))
  f275 := Tryz.func344.trans (congrArg some (by kernel_rfl))
  f276 := Tryz.func275.trans (congrArg some (by kernel_rfl))
  f277 := Tryz.func327.trans (congrArg some (by kernel_rfl))
  f278 := Tryz.func342.trans (congrArg some (by kernel_rfl))
  f313 := Tryz.func329.trans (congrArg some (by kernel_rfl))
  t0 := Tryz.underlying0
  a0 := Tryz.isAgg0
  z0 := Tryz.sizeOf0
  v0 := Tryz.zeroValue0
  t3 := Tryz.underlying3
  a3 := Tryz.isAgg3
  z3 := Tryz.sizeOf3
  v3 := Tryz.zeroValue3
  t4 := Tryz.underlying4
  a4 := Tryz.isAgg4
  z4 := Tryz.sizeOf4
  v4 := Tryz.zeroValue4
  t5 := Tryz.underlying5
  a5 := Tryz.isAgg5
  z5 := Tryz.sizeOf5
  v5 := Tryz.zeroValue5
  t9 := Tryz.underlying9
  a9 := Tryz.isAgg9
  z9 := Tryz.sizeOf9
  v9 := Tryz.zeroValue9
  t20 := Tryz.underlying20
  a20 := Tryz.isAgg20
  z20 := Tryz.sizeOf20
  v20 := Tryz.zeroValue20
  t21 := Tryz.underlying21
  a21 := Tryz.isAgg21
  z21 := Tryz.sizeOf21
  v21 := Tryz.zeroValue21
  t37 := Tryz.underlying86
  a37 := Tryz.isAgg86
  z37 := Tryz.sizeOf86
  v37 := Tryz.zeroValue86
  t46 := Tryz.underlying111
  a46 := Tryz.isAgg111
  z46 := Tryz.sizeOf111
  v46 := Tryz.zeroValue111
  t51 := Tryz.underlying121
  a51 := Tryz.isAgg121
  z51 := Tryz.sizeOf121
  v51 := Tryz.zeroValue121
  t70 := Tryz.underlying203
  a70 := Tryz.isAgg203
  z70 := Tryz.sizeOf203
  v70 := Tryz.zeroValue203
  t72 := Tryz.underlying205
  a72 := Tryz.isAgg205
  z72 := Tryz.sizeOf205
  v72 := Tryz.zeroValue205
  t75 := Tryz.underlying251
  a75 := Tryz.isAgg251
  z75 := Tryz.sizeOf251
  v75 := Tryz.zeroValue251
  t76 := Tryz.underlying252
  a76 := Tryz.isAgg252
  z76 := Tryz.sizeOf252
  v76 := Tryz.zeroValue252
  t105 := Tryz.underlying303
  a105 := Tryz.isAgg303
  z105 := Tryz.sizeOf303
  v105 := Tryz.zeroValue303
  t107 := Tryz.underlying321
  a107 := Tryz.isAgg321
  z107 := Tryz.sizeOf321
  v107 := Tryz.zeroValue321
  t119 := Tryz.underlying327
  a119 := Tryz.isAgg327
  z119 := Tryz.sizeOf327
  t127 := Tryz.underlying182
  a127 := Tryz.isAgg182
  z127 := Tryz.sizeOf182
  v127 := Tryz.zeroValue182
  t138 := Tryz.underlying329
  a138 := Tryz.isAgg329
  z138 := Tryz.sizeOf329
  v138 := Tryz.zeroValue329
  t139 := Tryz.underlying330
  a139 := Tryz.isAgg330
  z139 := Tryz.sizeOf330
  v139 := Tryz.zeroValue330
  t160 := Tryz.underlying351
  a160 := Tryz.isAgg351
  z160 := Tryz.sizeOf351
  v160 := Tryz.zeroValue351
  t162 := Tryz.underlying341
  a162 := Tryz.isAgg341
  z162 := Tryz.sizeOf341
  v162 := Tryz.zeroValue341
  t164 := Tryz.underlying311
  a164 := Tryz.isAgg311
  z164 := Tryz.sizeOf311
  v164 := Tryz.zeroValue311
  t203 := Tryz.underlying339
  a203 := Tryz.isAgg339
  z203 := Tryz.sizeOf339
  v203 := Tryz.zeroValue339
  t206 := Tryz.underlying370
  a206 := Tryz.isAgg370
  z206 := Tryz.sizeOf370
  v206 := Tryz.zeroValue370
  t208 := Tryz.underlying372
  a208 := Tryz.isAgg372
  z208 := Tryz.sizeOf372
  v208 := Tryz.zeroValue372
  g3 := by kernel_rfl
  g4 := by kernel_rfl
  g13 := by kernel_rfl }
theorem Tryz.Builder_Extra_159 : Builder.Extra Tryz.prog Tryz.lays159_ren := {
  sizeBuilder := by kernel_rfl
  liesBuilder := by kernel_rfl
  t5 := Tryz.underlying5
  a5 := Tryz.isAgg5
  z5 := Tryz.sizeOf5
  v5 := Tryz.zeroValue5
  infoByte := by kernel_rfl
  cellsByte := by kernel_rfl
  sizeByte := by kernel_rfl
  neB5 := by decide }
open Go.RowKit in
theorem Tryz.strings_ToLower_ascii (s : ByteArray) (w : World) (hs : s.size ≤ 140737488355328) (hascii : ∀ (j : Nat) (b : UInt8), s.data.toList[j]? = some b → b.toNat < 128) :
    Calls Tryz.prog 321 #[.string s] w fun e w' => e = .returned (.string ⟨(Lib.toLowerA s.data.toList).toArray⟩) ∧ Below w.heap.size w w' := Any.strings_ToLower_ascii Tryz.lays159 Tryz.Builder_Extra_159 s w hs hascii
def Tryz.lays137_ren : Go.Shelf.Ren := ⟨fun | 137 => 163 | 217 => 221 | 266 => 269 | n => n, fun | 9 => 9 | 5 => 5 | 3 => 3 | n => n, fun | n => n⟩
theorem Tryz.lays137 : Go.Proofs.Lays.n137 Tryz.prog Tryz.lays137_ren := {
  mixed := by kernel_rfl
  f137 := Tryz.func163.trans (congrArg some (by kernel_rfl))
  f217 := Tryz.func221.trans (congrArg some (by kernel_rfl))
  f266 := Tryz.func269.trans (congrArg some (by kernel_rfl))
  t3 := Tryz.underlying3
  a3 := Tryz.isAgg3
  z3 := Tryz.sizeOf3
  v3 := Tryz.zeroValue3
  t5 := Tryz.underlying5
  a5 := Tryz.isAgg5
  z5 := Tryz.sizeOf5
  v5 := Tryz.zeroValue5
  t9 := Tryz.underlying9
  a9 := Tryz.isAgg9
  z9 := Tryz.sizeOf9
  v9 := Tryz.zeroValue9 }
open Go.RowKit in
theorem Tryz.strings_IndexByte (s : ByteArray) (c : Int) (w : World) :
    Calls Tryz.prog 163 #[.string s, .int .u8 c] w fun e w' => e = .returned (.int .i64 (Lib.indexByte s.data.toList c.toNat.toUInt8)) ∧ w' = w := Any.strings_IndexByte Tryz.lays137 s c w
def Tryz.laysM316_ren : Go.Shelf.Ren := ⟨fun | 316 => 68 | n => n, fun | 9 => 9 | 3 => 3 | 4 => 4 | 37 => 86 | 0 => 0 | 127 => 182 | 5 => 5 | n => n, fun | n => n⟩
theorem Tryz.laysM316 : Go.Proofs.LaysM.n316 Tryz.prog Tryz.laysM316_ren := {
  mixed := by kernel_rfl
  f316 := Tryz.func68.trans (congrArg some (by kernel_rfl))
  t0 := Tryz.underlying0
  a0 := Tryz.isAgg0
  z0 := Tryz.sizeOf0
  v0 := Tryz.zeroValue0
  t3 := Tryz.underlying3
  a3 := Tryz.isAgg3
  z3 := Tryz.sizeOf3
  v3 := Tryz.zeroValue3
  t4 := Tryz.underlying4
  a4 := Tryz.isAgg4
  z4 := Tryz.sizeOf4
  v4 := Tryz.zeroValue4
  t9 := Tryz.underlying9
  a9 := Tryz.isAgg9
  z9 := Tryz.sizeOf9
  v9 := Tryz.zeroValue9
  t37 := Tryz.underlying86
  a37 := Tryz.isAgg86
  z37 := Tryz.sizeOf86
  v37 := Tryz.zeroValue86
  t127 := Tryz.underlying182
  a127 := Tryz.isAgg182
  z127 := Tryz.sizeOf182
  v127 := Tryz.zeroValue182
  t5 := Tryz.underlying5
  a5 := Tryz.isAgg5
  z5 := Tryz.sizeOf5
  v5 := Tryz.zeroValue5
  i0 := by kernel_rfl
  i3 := by kernel_rfl
  i4 := by kernel_rfl
  i5 := by kernel_rfl
  i9 := by kernel_rfl
  i37 := by kernel_rfl
  i127 := by kernel_rfl }
open Go.RowKit in
theorem Tryz.stringslite_Clone (s : ByteArray) (w : World) (hlim : s.size ≤ 281474976710656) :
    Calls Tryz.prog 68 #[.string s] w fun e w' => e = .returned (.string s) ∧ Below w.heap.size w w' := Any.stringslite_Clone Tryz.laysM316 s w hlim
def Tryz.lays219_ren : Go.Shelf.Ren := ⟨fun | 219 => 268 | 217 => 221 | 225 => 298 | 224 => 299 | 267 => 300 | 266 => 269 | 314 => 319 | n => n, fun | 9 => 9 | 3 => 3 | 4 => 4 | 5 => 5 | 46 => 111 | 146 => 331 | 51 => 121 | n => n, fun | 1 => 0 | n => n⟩
theorem Tryz.lays219 : Go.Proofs.Lays.n219 Tryz.prog Tryz.lays219_ren := {
  mixed := by kernel_rfl
  f217 := Tryz.func221.trans (congrArg some (by kernel_rfl))
  f219 := Tryz.func268.trans (congrArg some (by kernel_rfl))
  f224 := Tryz.func299.trans (congrArg some (by kernel_rfl))
  f225 := Tryz.func298.trans (congrArg some (by kernel_rfl))
  f266 := Tryz.func269.trans (congrArg some (by kernel_rfl))
  f267 := Tryz.func300.trans (congrArg some (by kernel_rfl))
  f314 := Tryz.func319.trans (congrArg some (by kernel_rfl))
  t3 := Tryz.underlying3
  a3 := Tryz.isAgg3
  z3 := Tryz.sizeOf3
  v3 := Tryz.zeroValue3
  t4 := Tryz.underlying4
  a4 := Tryz.isAgg4
  z4 := Tryz.sizeOf4
  v4 := Tryz.zeroValue4
  t5 := Tryz.underlying5
  a5 := Tryz.isAgg5
  z5 := Tryz.sizeOf5
  v5 := Tryz.zeroValue5
  t9 := Tryz.underlying9
  a9 := Tryz.isAgg9
  z9 := Tryz.sizeOf9
  v9 := Tryz.zeroValue9
  t46 := Tryz.underlying111
  a46 := Tryz.isAgg111
  z46 := Tryz.sizeOf111
  v46 := Tryz.zeroValue111
  t51 := Tryz.underlying121
  a51 := Tryz.isAgg121
  z51 := Tryz.sizeOf121
  v51 := Tryz.zeroValue121
  t146 := Tryz.underlying331
  a146 := Tryz.isAgg331
  z146 := Tryz.sizeOf331
  v146 := Tryz.zeroValue331
  g1 := by kernel_rfl }
open Go.RowKit Go.Lib in
theorem Tryz.stringslite_Index_one (s : ByteArray) (c : UInt8) (w : World) :
    Calls Tryz.prog 268 #[.string s, .string ⟨#[c]⟩] w fun e w' => e = .returned (.int .i64 (Lib.indexByte s.data.toList c)) ∧ w' = w := Any.stringslite_Index_one Tryz.lays219 s c w
def Tryz.lays144_ren : Go.Shelf.Ren := ⟨fun | 144 => 320 | 143 => 217 | 219 => 268 | 217 => 221 | 225 => 298 | 224 => 299 | 267 => 300 | 266 => 269 | 314 => 319 | n => n, fun | 9 => 9 | 4 => 4 | 3 => 3 | 5 => 5 | 46 => 111 | 146 => 331 | 51 => 121 | n => n, fun | 1 => 0 | n => n⟩
theorem Tryz.lays144 : Go.Proofs.Lays.n144 Tryz.prog Tryz.lays144_ren := {
  mixed := by kernel_rfl
  f143 := Tryz.func217.trans (congrArg some (by kernel_rfl))
  f144 := Tryz.func320.trans (congrArg some (by kernel_rfl))
  f217 := Tryz.func221.trans (congrArg some (by kernel_rfl))
  f219 := Tryz.func268.trans (congrArg some (by kernel_rfl))
  f224 := Tryz.func299.trans (congrArg some (by kernel_rfl))
  f225 := Tryz.func298.trans (congrArg some (by kernel_rfl))
  f266 := Tryz.func269.trans (congrArg some (by kernel_rfl))
  f267 := Tryz.func300.trans (congrArg some (by kernel_rfl))
  f314 := Tryz.func319.trans (congrArg some (by kernel_rfl))
  t3 := Tryz.underlying3
  a3 := Tryz.isAgg3
  z3 := Tryz.sizeOf3
  v3 := Tryz.zeroValue3
  t4 := Tryz.underlying4
  a4 := Tryz.isAgg4
  z4 := Tryz.sizeOf4
  v4 := Tryz.zeroValue4
  t5 := Tryz.underlying5
  a5 := Tryz.isAgg5
  z5 := Tryz.sizeOf5
  v5 := Tryz.zeroValue5
  t9 := Tryz.underlying9
  a9 := Tryz.isAgg9
  z9 := Tryz.sizeOf9
  v9 := Tryz.zeroValue9
  t46 := Tryz.underlying111
  a46 := Tryz.isAgg111
  z46 := Tryz.sizeOf111
  v46 := Tryz.zeroValue111
  t51 := Tryz.underlying121
  a51 := Tryz.isAgg121
  z51 := Tryz.sizeOf121
  v51 := Tryz.zeroValue121
  t146 := Tryz.underlying331
  a146 := Tryz.isAgg331
  z146 := Tryz.sizeOf331
  v146 := Tryz.zeroValue331
  g1 := by kernel_rfl }
open Go.RowKit Go.Lib in
theorem Tryz.strings_Contains (s sub : ByteArray) (m : Int) (w : World) (hs : s.size < 4294967281) (hm : w.cell? ⟨0, 0, none⟩ = some (.int .i64 m)) :
    Calls Tryz.prog 320 #[.string s, .string sub] w fun e w' => e = .returned (.bool (Lib.contains s.data.toList sub.data.toList)) ∧ w' = w := Any.strings_Contains Tryz.lays144 s sub m w hs hm
def Tryz.lays99_ren : Go.Shelf.Ren := ⟨fun | 99 => 160 | 206 => 218 | n => n, fun | 9 => 9 | 4 => 4 | 3 => 3 | n => n, fun | n => n⟩
theorem Tryz.lays99 : Go.Proofs.Lays.n99 Tryz.prog Tryz.lays99_ren := {
  mixed := by kernel_rfl
  f99 := Tryz.func160.trans (congrArg some (by kernel_rfl))
  f206 := Tryz.func218.trans (congrArg some (by kernel_rfl))
  t3 := Tryz.underlying3
  a3 := Tryz.isAgg3
  z3 := Tryz.sizeOf3
  v3 := Tryz.zeroValue3
  t4 := Tryz.underlying4
  a4 := Tryz.isAgg4
  z4 := Tryz.sizeOf4
  v4 := Tryz.zeroValue4
  t9 := Tryz.underlying9
  a9 := Tryz.isAgg9
  z9 := Tryz.sizeOf9
  v9 := Tryz.zeroValue9 }
open Go.RowKit Go.Lib in
theorem Tryz.strings_HasPrefix (s p : ByteArray) (w : World) :
    Calls Tryz.prog 160 #[.string s, .string p] w fun e w' => e = .returned (.bool (Lib.hasPrefix s.data.toList p.data.toList)) ∧ w' = w := Any.strings_HasPrefix Tryz.lays99 s p w
def Tryz.lays100_ren : Go.Shelf.Ren := ⟨fun | 100 => 161 | 207 => 219 | n => n, fun | 9 => 9 | 4 => 4 | 3 => 3 | n => n, fun | n => n⟩
theorem Tryz.lays100 : Go.Proofs.Lays.n100 Tryz.prog Tryz.lays100_ren := {
  mixed := by kernel_rfl
  f100 := Tryz.func161.trans (congrArg some (by kernel_rfl))
  f207 := Tryz.func219.trans (congrArg some (by kernel_rfl))
  t3 := Tryz.underlying3
  a3 := Tryz.isAgg3
  z3 := Tryz.sizeOf3
  v3 := Tryz.zeroValue3
  t4 := Tryz.underlying4
  a4 := Tryz.isAgg4
  z4 := Tryz.sizeOf4
  v4 := Tryz.zeroValue4
  t9 := Tryz.underlying9
  a9 := Tryz.isAgg9
  z9 := Tryz.sizeOf9
  v9 := Tryz.zeroValue9 }
open Go.RowKit Go.Lib in
theorem Tryz.strings_HasSuffix (s p : ByteArray) (w : World) (hs : s.size ≤ 9223372036854775807) :
    Calls Tryz.prog 161 #[.string s, .string p] w fun e w' => e = .returned (.bool (Lib.hasSuffix s.data.toList p.data.toList)) ∧ w' = w := Any.strings_HasSuffix Tryz.lays100 s p w hs
def Tryz.lays146_ren : Go.Shelf.Ren := ⟨fun | 146 => 105 | 221 => 159 | 268 => 215 | 138 => 216 | 143 => 217 | 195 => 265 | 197 => 266 | 218 => 267 | 219 => 268 | 260 => 297 | 217 => 221 | 225 => 298 | 224 => 299 | 267 => 300 | 266 => 269 | 314 => 319 | n => n, fun | 9 => 9 | 31 => 24 | 3 => 3 | 4 => 4 | 0 => 0 | 105 => 303 | 21 => 21 | 5 => 5 | 46 => 111 | 119 => 327 | 139 => 330 | 138 => 329 | 146 => 331 | 51 => 121 | n => n, fun | 1 => 0 | 3 => 1 | 4 => 2 | n => n⟩
theorem Tryz.lays146 : Go.Proofs.Lays.n146 Tryz.prog Tryz.lays146_ren := {
  mixed := by kernel_rfl
  f138 := Tryz.func216.trans (congrArg some (by kernel_rfl))
  f143 := Tryz.func217.trans (congrArg some (by kernel_rfl))
  f146 := Tryz.func105.trans (congrArg some (by kernel_rfl))
  f195 := Tryz.func265.trans (congrArg some (by kernel_rfl))
  f197 := Tryz.func266.trans (congrArg some (by kernel_rfl))
  f217 := Tryz.func221.trans (congrArg some (by kernel_rfl))
  f218 := Tryz.func267.trans (congrArg some (by kernel_rfl))
  f219 := Tryz.func268.trans (congrArg some (by kernel_rfl))
  f221 := Tryz.func159.trans (congrArg some (by kernel_rfl))
  f224 := Tryz.func299.trans (congrArg some (by kernel_rfl))
  f225 := Tryz.func298.trans (congrArg some (by kernel_rfl))
  f260 := Tryz.func297.trans (congrArg some (by kernel_rfl))
  f266 := Tryz.func269.trans (congrArg some (by kernel_rfl))
  f267 := Tryz.func300.trans (congrArg some (by kernel_rfl))
  f268 := Tryz.func215.trans (congrArg some (by kernel_rfl))
  f314 := Tryz.func319.trans (congrArg some (by kernel_rfl))
  t0 := Tryz.underlying0
  a0 := Tryz.isAgg0
  z0 := Tryz.sizeOf0
  v0 := Tryz.zeroValue0
  t3 := Tryz.underlying3
  a3 := Tryz.isAgg3
  z3 := Tryz.sizeOf3
  v3 := Tryz.zeroValue3
  t4 := Tryz.underlying4
  a4 := Tryz.isAgg4
  z4 := Tryz.sizeOf4
  v4 := Tryz.zeroValue4
  t5 := Tryz.underlying5
  a5 := Tryz.isAgg5
  z5 := Tryz.sizeOf5
  v5 := Tryz.zeroValue5
  t9 := Tryz.underlying9
  a9 := Tryz.isAgg9
  z9 := Tryz.sizeOf9
  v9 := Tryz.zeroValue9
  t21 := Tryz.underlying21
  a21 := Tryz.isAgg21
  z21 := Tryz.sizeOf21
  v21 := Tryz.zeroValue21
  t31 := Tryz.underlying24
  a31 := Tryz.isAgg24
  z31 := Tryz.sizeOf24
  v31 := Tryz.zeroValue24
  t46 := Tryz.underlying111
  a46 := Tryz.isAgg111
  z46 := Tryz.sizeOf111
  v46 := Tryz.zeroValue111
  t51 := Tryz.underlying121
  a51 := Tryz.isAgg121
  z51 := Tryz.sizeOf121
  v51 := Tryz.zeroValue121
  t105 := Tryz.underlying303
  a105 := Tryz.isAgg303
  z105 := Tryz.sizeOf303
  v105 := Tryz.zeroValue303
  t119 := Tryz.underlying327
  a119 := Tryz.isAgg327
  z119 := Tryz.sizeOf327
  t138 := Tryz.underlying329
  a138 := Tryz.isAgg329
  z138 := Tryz.sizeOf329
  v138 := Tryz.zeroValue329
  t139 := Tryz.underlying330
  a139 := Tryz.isAgg330
  z139 := Tryz.sizeOf330
  v139 := Tryz.zeroValue330
  t146 := Tryz.underlying331
  a146 := Tryz.isAgg331
  z146 := Tryz.sizeOf331
  v146 := Tryz.zeroValue331
  g1 := by kernel_rfl
  g3 := by kernel_rfl
  g4 := by kernel_rfl }
open Go.RowKit Go.Lib in
theorem Tryz.strings_Split (s sep : ByteArray) (m : Int) (w : World) (hs : s.size < 4294967281) (hm : w.cell? ⟨0, 0, none⟩ = some (.int .i64 m)) (h1 : 1 ≤ sep.size) :
    Calls Tryz.prog 105 #[.string s, .string sep] w fun e w' =>
      e = .returned (.slice (some ⟨w.heap.size, 0, none⟩) (Lib.countB s sep + 1) (Lib.countB s sep + 1)) ∧ w' = w.alloc (.cells ((Lib.splitB sep 0 (Lib.countB s sep) s).map Value.string).toArray 9) := Any.strings_Split Tryz.lays146 (by kernel_rfl) s sep m w hs hm h1
end Go.Proofs
