import Derived.Test.YtponhohdpophlaaGreatDoorS00
import Derived.Shelf.SlIterI.Nil
import Derived.Shelf.SortM.Plain
import Derived.Shelf.SortM.SortNone
import Derived.Test.YtponhohdpophlaaGreatDoorProg
import Derived.Shelf.Spec.BytesIndexFunc
namespace Go.Proofs
set_option maxHeartbeats 8000000
set_option maxRecDepth 1000000
open YtponhohdpophlaaGreatDoor
open Go.Proofs.Tryz
open Go.Shelf
set_option maxHeartbeats 8000000
set_option maxRecDepth 1000000
def Tryz.keysA_ren:Go.Shelf.Ren:=⟨λ| 7=>117 | 10=>193 | n=>n,λ| 23=>99 | 26=>3 | 3=>181 | 28=>205 | 0=>0 | 27=>204 | 33=>73 | 4=>4 | n=>n,λ| n=>n⟩
theorem Tryz.keysA:Go.Proofs.SlLaysZI.n7 prog Tryz.keysA_ren:=by
 constructor
 case f7=>exact ⟨Tryz.f117.name,by decide,Tryz.func117.trans (congrArg some (by kernel_rfl))⟩
 case f10=>exact ⟨Tryz.f193.name,by decide,Tryz.func193.trans (congrArg some (by kernel_rfl))⟩
 all_goals first | kernel_rfl | (simp [Tryz.keysA_ren,go_sem];done) | (constructor <;> first | kernel_rfl | simp [Tryz.keysA_ren,go_sem])
def Tryz.sortedA_ren:Go.Shelf.Ren:=⟨λ| 6=>116 | 8=>191 | 9=>192 | 11=>246 | 13=>248 | 12=>247 | 23=>298 | 24=>299 | 14=>289 | 15=>290 | 16=>291 | 17=>292 | 18=>293 | 19=>294 | 20=>295 | 21=>296 | 22=>297 | 25=>326 | 26=>327 | 27=>328 | 28=>329 | 29=>330 | 30=>256 | 31=>349 | n=>n,λ| 26=>3 | 28=>205 | 24=>33 | 0=>0 | 3=>3 | 37=>214 | 48=>168 | 50=>265 | 4=>4 | 40=>308 | 39=>307 | 45=>274 | 5=>5 | 9=>9 | 51=>331 | 55=>335 | 57=>363 | 58=>364 | 33=>73 | n=>n,λ| n=>n⟩
theorem Tryz.sortedA:Go.Proofs.SlLaysZI.n6 prog Tryz.sortedA_ren:=by
 constructor
 case f6=>exact ⟨Tryz.f116.name,by decide,Tryz.func116.trans (congrArg some (by kernel_rfl))⟩
 case f8=>exact ⟨Tryz.f191.name,by decide,Tryz.func191.trans (congrArg some (by kernel_rfl))⟩
 case f11=>exact ⟨Tryz.f246.name,by decide,Tryz.func246.trans (congrArg some (by kernel_rfl))⟩
 all_goals first | kernel_rfl | (simp [Tryz.sortedA_ren,go_sem];done) | (constructor <;> first | kernel_rfl | simp [Tryz.sortedA_ren,go_sem])
def Tryz.sortA_ren:Go.Shelf.Ren:=⟨λ| 5=>192 | 8=>248 | 7=>247 | 19=>298 | 20=>299 | 10=>289 | 11=>290 | 12=>291 | 13=>292 | 14=>293 | 15=>294 | 16=>295 | 17=>296 | 18=>297 | 30=>326 | 31=>327 | 32=>328 | 33=>329 | 34=>330 | 35=>256 | 40=>349 | n=>n,λ| 23=>33 | 25=>3 | 3=>3 | 32=>214 | 22=>33 | 0=>0 | 44=>168 | 46=>265 | 4=>4 | 36=>308 | 35=>307 | 41=>274 | 5=>5 | 9=>9 | 53=>331 | 57=>335 | 63=>363 | 64=>364 | n=>n,λ| n=>n⟩
theorem Tryz.sortA:Go.Proofs.SlLaysM.n5 prog Tryz.sortA_ren:=by
 constructor
 case f5=>exact ⟨Tryz.f192.name,by decide,Tryz.func192.trans (congrArg some (by kernel_rfl))⟩
 case f7=>exact ⟨Tryz.f247.name,by decide,Tryz.func247.trans (congrArg some (by kernel_rfl))⟩
 case f10=>exact ⟨Tryz.f289.name,by decide,Tryz.func289.trans (congrArg some (by kernel_rfl))⟩
 case f11=>exact ⟨Tryz.f290.name,by decide,Tryz.func290.trans (congrArg some (by kernel_rfl))⟩
 case f12=>exact ⟨Tryz.f291.name,by decide,Tryz.func291.trans (congrArg some (by kernel_rfl))⟩
 case f13=>exact ⟨Tryz.f292.name,by decide,Tryz.func292.trans (congrArg some (by kernel_rfl))⟩
 case f14=>exact ⟨Tryz.f293.name,by decide,Tryz.func293.trans (congrArg some (by kernel_rfl))⟩
 case f15=>exact ⟨Tryz.f294.name,by decide,Tryz.func294.trans (congrArg some (by kernel_rfl))⟩
 case f16=>exact ⟨Tryz.f295.name,by decide,Tryz.func295.trans (congrArg some (by kernel_rfl))⟩
 case f17=>exact ⟨Tryz.f296.name,by decide,Tryz.func296.trans (congrArg some (by kernel_rfl))⟩
 case f18=>exact ⟨Tryz.f297.name,by decide,Tryz.func297.trans (congrArg some (by kernel_rfl))⟩
 case f30=>exact ⟨Tryz.f326.name,by decide,Tryz.func326.trans (congrArg some (by kernel_rfl))⟩
 case f33=>exact ⟨Tryz.f329.name,by decide,Tryz.func329.trans (congrArg some (by kernel_rfl))⟩
 case f34=>exact ⟨Tryz.f330.name,by decide,Tryz.func330.trans (congrArg some (by kernel_rfl))⟩
 case f35=>exact ⟨Tryz.f256.name,by decide,Tryz.func256.trans (congrArg some (by kernel_rfl))⟩
 case f40=>exact ⟨Tryz.f349.name,by decide,Tryz.func349.trans (congrArg some (by kernel_rfl))⟩
 all_goals first | kernel_rfl | (simp [Tryz.sortA_ren,go_sem];done) | (constructor <;> first | kernel_rfl | simp [Tryz.sortA_ren,go_sem])
set_option maxHeartbeats 8000000
set_option maxRecDepth 1000000
def Tryz.lays755_ren:Go.Shelf.Ren:=⟨λ| 55=>269 | 32=>307 | 49=>331 | n=>n,λ| 30=>100 | 48=>239 | 4=>4 | 3=>3 | 33=>301 | 21=>21 | 0=>0 | 5=>5 | 66=>344 | 25=>214 | 69=>347 | 68=>346 | n=>n,λ| 2=>2 | 3=>3 | n=>n⟩
theorem Tryz.lays755:Go.Proofs.Lays7.n55 prog Tryz.lays755_ren:=by
 constructor
 all_goals first | kernel_rfl | (simp [Tryz.lays755_ren,go_sem];done) | (constructor <;> first | kernel_rfl | simp [Tryz.lays755_ren,go_sem])
end Go.Proofs
