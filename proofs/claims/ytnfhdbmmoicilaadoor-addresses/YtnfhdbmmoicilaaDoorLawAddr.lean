/- The law of addresses, walked out of its callees' contracts. -/
import Derived.Test.YtnfhdbmmoicilaaDoorAddr4
import Derived.Test.YtnfhdbmmoicilaaDoorRefAddr
import Derived.Test.YtnfhdbmmoicilaaDoorSix5
import Derived.Test.YtnfhdbmmoicilaaDoorRef64b
namespace Go.Proofs.YtnfhdbmmoicilaaDoor
open Go.RowKit

theorem known_address : addrR [120, 46, 121, 43, 122, 64, 65, 46, 98, 45, 49] = ([120, 46, 121, 43, 122], [97, 46, 98, 45, 49], true) := by decide +kernel
theorem known_base64 : dec64 [65, 72, 85, 65, 100, 119, 61, 61] = some [0, 117, 0, 119] := by decide +kernel

theorem ba_of {x : ByteArray} {l : List UInt8} (h : x.data.toList = l) : x = ⟨l.toArray⟩ := by
  rw [← h]

set_option maxHeartbeats 1000000 in
set_option maxRecDepth 100000 in
theorem addresses_any (s b : ByteArray) (m : Int) (w : World) (hs : s.size ≤ 140737488351232) (hb : b.size ≤ 140737488351232) (h0 : 0 < w.heap.size) (hm : w.cell? ⟨0, 0, none⟩ = some (.int .i64 m)) :
    Calls Tryd.prog 3 #[.string s, .string b] w fun e w' => e = .returned (.bool true) ∧ Below w.heap.size w w' := by
  go_enter Tryd.func3, Tryd.ntmps3
  go_wp2_with fail
  refine (address_any ⟨#[120, 46, 121, 43, 122, 64, 65, 46, 98, 45, 49]⟩ m _ (by decide) hm).mono ?_
  rintro e w1 ⟨x, y, f, rfl, hc, hb1⟩
  obtain ⟨rfl, rfl, rfl⟩ : x = ⟨#[120, 46, 121, 43, 122]⟩ ∧ y = ⟨#[97, 46, 98, 45, 49]⟩ ∧ f = true := by
    have := known_address.symm.trans hc
    simp only [Prod.mk.injEq] at this
    exact ⟨ba_of this.1.symm, ba_of this.2.1.symm, this.2.2.symm⟩
  clear hc
  have hm1 : w1.cell? ⟨0, 0, none⟩ = some (.int .i64 m) := (hb1.cell h0).trans hm
  go_wp2_with fail
  refine (base64_any ⟨#[65, 72, 85, 65, 100, 119, 61, 61]⟩ _ (by decide)).mono ?_
  rintro e w2 ⟨he, hb2⟩
  have hk : dec64 (ByteArray.mk #[65, 72, 85, 65, 100, 119, 61, 61]).data.toList = some [0, 117, 0, 119] := known_base64
  rw [hk] at he
  simp only at he
  subst he
  clear hk
  have hbel2 := hb1.trans (hb2.mono hb1.size)
  have h02 : 0 < w1.heap.size := Nat.lt_of_lt_of_le h0 hb1.size
  have hm2 : w2.cell? ⟨0, 0, none⟩ = some (.int .i64 m) := (hb2.cell h02).trans hm1
  clear hm1 hb1 hb2 h02
  go_wp2_with fail
  refine (address_any s m _ (by omega) hm2).mono ?_
  rintro e w3 ⟨x, y, f, rfl, hc, hb3⟩
  have HC := Lib.hid hc
  clear hc
  go_wp2_with fail
  refine (refAddress_any s _ (by unfold maxLen; omega)).mono ?_
  rintro e w4 ⟨x', y', f', rfl, hc', hb4⟩
  obtain ⟨rfl, rfl, rfl⟩ : x' = x ∧ y' = y ∧ f' = f := by
    have := hc'.symm.trans HC.out
    simp only [Prod.mk.injEq] at this
    exact ⟨(ba_of this.1).trans (Lib.mk_data _), (ba_of this.2.1).trans (Lib.mk_data _), this.2.2⟩
  clear hc' HC
  have hbel4 := hbel2.trans ((hb3.trans (hb4.mono hb3.size)).mono hbel2.size)
  clear hbel2 hb3 hb4 hm2 hm
  go_wp2_with fail
  refine (base64_any b _ (by omega)).mono ?_
  have HE := Lib.hid (ref64_eq b.data.toList)
  obtain ⟨O, hO⟩ : ∃ O, dec64 b.data.toList = O := ⟨_, rfl⟩
  rw [hO] at HE ⊢
  clear hO
  rintro e w5 ⟨he, hb5⟩
  have hbel5 := hbel4.trans (hb5.mono hbel4.size)
  cases O with
  | none =>
    simp only at he
    subst he
    go_wp2_with fail
    refine (refBase64_any b _ hb).mono ?_
    rintro e w6 ⟨rfl, hb6⟩
    rw [HE.out]
    have hbel6 := hbel5.trans (hb6.mono hbel5.size)
    clear hb5 hb6 hbel4 hbel5 HE
    go_wp2_with fail
    go_ret
    exact ⟨rfl, hbel6⟩
  | some g =>
    simp only at he
    subst he
    go_wp2_with fail
    refine (refBase64_any b _ hb).mono ?_
    rintro e w6 ⟨rfl, hb6⟩
    rw [HE.out]
    have hbel6 := hbel5.trans (hb6.mono hbel5.size)
    clear hb5 hb6 hbel4 hbel5 HE
    go_wp2_with fail
    go_ret
    exact ⟨rfl, hbel6⟩
end Go.Proofs.YtnfhdbmmoicilaaDoor
