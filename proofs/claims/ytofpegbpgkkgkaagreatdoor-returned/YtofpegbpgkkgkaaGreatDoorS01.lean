import Derived.Test.YtofpegbpgkkgkaaGreatDoorS00
import Derived.Shelf.Strings.Builder1
import Derived.Shelf.Strings.Builder2
import Derived.Shelf.Strings.OnBuilder
import Derived.Shelf.Small.Utf8
import Derived.Shelf.Small.Bits
import Derived.Shelf.Small.Strs
import Derived.Shelf.Small.Wraps
import Derived.Shelf.Strings.BuilderF
import Derived.Shelf.Strings.BuilderK
import Derived.Shelf.Strconv.Atoi
import Derived.Shelf.Strconv.Itoa0
import Derived.Shelf.Strconv.Itoa1
import Derived.Shelf.LaysM
import Derived.Shelf.Strconv.Itoa2
import Derived.Shelf.Strconv.Itoa3
import Derived.Shelf.Strconv.Clone
import Derived.Shelf.Strings.Search1
import Derived.Shelf.Strings.Search2
import Derived.Shelf.Strings.Search3
import Derived.Shelf.Strings.Cut
import Derived.Shelf.Strings.Count
import Derived.Shelf.Strings.Shaped
import Derived.Shelf.Strings.Prefix
import Derived.Shelf.Strings.Split
import Derived.Shelf.Strings.Fold
import Derived.Shelf.Strings.SplitShaped
import Derived.Shelf.Unicode.Latin
import Derived.Shelf.Unicode.DecodeSlow
import Derived.Shelf.Unicode.DecodeAny
import Derived.Shelf.Unicode.CaseLookup
import Derived.Shelf.Unicode.CaseConvert
import Derived.Shelf.Unicode.CaseTo
import Derived.Shelf.Unicode.CaseLaid
import Derived.Shelf.Bytes.Small
import Derived.Test.YtofpegbpgkkgkaaGreatDoorProg
import Derived.Shelf.Spec.BytesIndexFunc
import Derived.Shelf.SlIterI.Nil
import Derived.Shelf.SortM.Plain
import Derived.Shelf.SortM.SortNone
namespace Go.Proofs
set_option maxHeartbeats 8000000
set_option maxRecDepth 1000000
open YtofpegbpgkkgkaaGreatDoor
open Go.Shelf
set_option maxHeartbeats 8000000
set_option maxRecDepth 1000000
def Tryz.lays169_ren:Go.Shelf.Ren:=⟨fun | 169=>64 | n=>n,fun | 70=>131 | 9=>9 | 0=>0 | 72=>133 | 37=>114 | 127=>170 | 3=>3 | 5=>5 | n=>n,fun | n=>n⟩
theorem Tryz.lays169:Go.Proofs.Lays.n169 Tryz.prog Tryz.lays169_ren:=by
 constructor
 all_goals first | kernel_rfl | (simp [Tryz.lays169_ren,go_sem];done) | (constructor <;> first | kernel_rfl | simp [Tryz.lays169_ren,go_sem])
theorem Tryz.Builder_Extra_169:Builder.Extra Tryz.prog Tryz.lays169_ren:={
 sizeBuilder:=by kernel_rfl
 liesBuilder:=by kernel_rfl
 t5:=Tryz.underlying5
 a5:=Tryz.isAgg5
 z5:=Tryz.sizeOf5
 v5:=Tryz.zeroValue5
 infoByte:=by kernel_rfl
 cellsByte:=by kernel_rfl
 sizeByte:=by kernel_rfl
 neB5:=by decide}
open Go.RowKit in
theorem Tryz.Builder_String_any (B b:Nat) (l:List UInt8) (w:World) (h:Lib.IsBuilder 133 5 B b (Lib.byteCells l) w) (a:B≤w.heap.size):
  Calls Tryz.prog 64 #[.pointer (some ⟨b,0,none⟩)] w fun e c=>e= .returned (.string ⟨l.toArray⟩)∧Below B w c:=Any.Builder_String_any Tryz.lays169 Tryz.Builder_Extra_169 B b l w h a
def Tryz.lays158_ren:Go.Shelf.Ren:=⟨fun | 158=>151 | 165=>204 | 166=>96 | 167=>205 | 169=>64 | 230=>206 | 203=>207 | 240=>135 | 241=>240 | 197=>241 | 118=>242 | 168=>243 | 270=>244 | 262=>245 | 276=>191 | 277=>270 | 260=>271 | 242=>272 | 313=>273 | 278=>291 | 274=>292 | 275=>293 | n=>n,fun | 9=>9 | 4=>4 | 3=>3 | 5=>5 | 72=>133 | 0=>0 | 76=>168 | 75=>167 | 107=>259 | 70=>131 | 20=>20 | 37=>114 | 127=>170 | 21=>21 | 105=>277 | 164=>249 | 162=>297 | 203=>295 | 119=>311 | 46=>210 | 139=>314 | 138=>313 | 51=>188 | 160=>315 | 208=>336 | 206=>334 | 80=>98 | n=>n,fun | 13=>1 | 3=>2 | 4=>3 | n=>n⟩
theorem Tryz.lays158:Go.Proofs.Lays.n158 Tryz.prog Tryz.lays158_ren:=by
 constructor
 all_goals first | kernel_rfl | (simp [Tryz.lays158_ren,go_sem];done) | (constructor <;> first | kernel_rfl | simp [Tryz.lays158_ren,go_sem])
theorem Tryz.Builder_Extra_158:Builder.Extra Tryz.prog Tryz.lays158_ren:={
 sizeBuilder:=by kernel_rfl
 liesBuilder:=by kernel_rfl
 t5:=Tryz.underlying5
 a5:=Tryz.isAgg5
 z5:=Tryz.sizeOf5
 v5:=Tryz.zeroValue5
 infoByte:=by kernel_rfl
 cellsByte:=by kernel_rfl
 sizeByte:=by kernel_rfl
 neB5:=by decide}
open Go.RowKit in
theorem Tryz.strings_ToUpper_ascii (s:ByteArray) (w:World) (c:s.size≤140737488355328) (a:∀(j:Nat) (b:UInt8),s.data.toList[j]? =some b→b.toNat < 128):
  Calls Tryz.prog 151 #[.string s] w fun e d=>e= .returned (.string ⟨(Lib.toUpperA s.data.toList).toArray⟩)∧Below w.heap.size w d:=Any.strings_ToUpper_ascii Tryz.lays158 Tryz.Builder_Extra_158 s w c a
def Tryz.lays159_ren:Go.Shelf.Ren:=⟨fun | 159=>225 | 165=>204 | 166=>96 | 167=>205 | 169=>64 | 230=>206 | 204=>260 | 240=>135 | 241=>240 | 197=>241 | 118=>242 | 168=>243 | 270=>244 | 262=>245 | 276=>191 | 277=>270 | 260=>271 | 242=>272 | 313=>273 | 278=>291 | 274=>292 | 275=>293 | n=>n,fun | 9=>9 | 4=>4 | 3=>3 | 5=>5 | 72=>133 | 0=>0 | 76=>168 | 75=>167 | 107=>259 | 70=>131 | 20=>20 | 37=>114 | 127=>170 | 21=>21 | 105=>277 | 164=>249 | 162=>297 | 203=>295 | 119=>311 | 46=>210 | 139=>314 | 138=>313 | 51=>188 | 160=>315 | 208=>336 | 206=>334 | 80=>98 | n=>n,fun | 13=>1 | 3=>2 | 4=>3 | n=>n⟩
theorem Tryz.lays159:Go.Proofs.Lays.n159 Tryz.prog Tryz.lays159_ren:=by
 constructor
 all_goals first | kernel_rfl | (simp [Tryz.lays159_ren,go_sem];done) | (constructor <;> first | kernel_rfl | simp [Tryz.lays159_ren,go_sem])
theorem Tryz.Builder_Extra_159:Builder.Extra Tryz.prog Tryz.lays159_ren:={
 sizeBuilder:=by kernel_rfl
 liesBuilder:=by kernel_rfl
 t5:=Tryz.underlying5
 a5:=Tryz.isAgg5
 z5:=Tryz.sizeOf5
 v5:=Tryz.zeroValue5
 infoByte:=by kernel_rfl
 cellsByte:=by kernel_rfl
 sizeByte:=by kernel_rfl
 neB5:=by decide}
open Go.RowKit in
theorem Tryz.strings_ToLower_ascii (s:ByteArray) (w:World) (c:s.size≤140737488355328) (a:∀(j:Nat) (b:UInt8),s.data.toList[j]? =some b→b.toNat < 128):
  Calls Tryz.prog 225 #[.string s] w fun e d=>e= .returned (.string ⟨(Lib.toLowerA s.data.toList).toArray⟩)∧Below w.heap.size w d:=Any.strings_ToLower_ascii Tryz.lays159 Tryz.Builder_Extra_159 s w c a
def Tryz.lays156_ren:Go.Shelf.Ren:=⟨fun | 156=>179 | 165=>204 | 166=>96 | 169=>64 | 240=>135 | 241=>240 | 276=>191 | 277=>270 | n=>n,fun | 31=>25 | 9=>9 | 3=>3 | 4=>4 | 0=>0 | 20=>20 | 72=>133 | 76=>168 | 70=>131 | 37=>114 | 75=>167 | 127=>170 | 164=>249 | 5=>5 | 80=>98 | n=>n,fun | n=>n⟩
theorem Tryz.lays156:Go.Proofs.Lays.n156 Tryz.prog Tryz.lays156_ren:=by
 constructor
 all_goals first | kernel_rfl | (simp [Tryz.lays156_ren,go_sem];done) | (constructor <;> first | kernel_rfl | simp [Tryz.lays156_ren,go_sem])
theorem Tryz.Builder_Extra_156:Builder.Extra Tryz.prog Tryz.lays156_ren:={
 sizeBuilder:=by kernel_rfl
 liesBuilder:=by kernel_rfl
 t5:=Tryz.underlying5
 a5:=Tryz.isAgg5
 z5:=Tryz.sizeOf5
 v5:=Tryz.zeroValue5
 infoByte:=by kernel_rfl
 cellsByte:=by kernel_rfl
 sizeByte:=by kernel_rfl
 neB5:=by decide}
open Go.RowKit in
theorem Tryz.strings_Join_none (a:Option Addr) (c:Nat) (b:ByteArray) (w:World):
  Calls Tryz.prog 179 #[.slice a 0 c,.string b] w fun e d=>e= .returned (.string ⟨#[]⟩)∧d=w:=Any.strings_Join_none Tryz.lays156 Tryz.Builder_Extra_156 a c b w
open Go.RowKit in
theorem Tryz.strings_Join (h o c:Nat) (d:List ByteArray) (b:ByteArray) (w:World) (a:∀(j:Nat) x,d[j]? =some x→w.cell? ⟨h,o+j,none⟩=some (.string x)) (i:h < w.heap.size) (k:d.length≤140737488355328) (f:d.length≤c) (g:(Lib.join (d.map (·.data.toList)) b.data.toList).length≤140737488355328):
  Calls Tryz.prog 179 #[.slice (some ⟨h,o,none⟩) d.length c,.string b] w fun e l=>e= .returned (.string ⟨(Lib.join (d.map (·.data.toList)) b.data.toList).toArray⟩)∧Below w.heap.size w l:=Any.strings_Join Tryz.lays156 Tryz.Builder_Extra_156 h o c d b w a i k f g
def Tryz.lays137_ren:Go.Shelf.Ren:=⟨fun | 137=>216 | 217=>256 | 266=>281 | n=>n,fun | 9=>9 | 5=>5 | 3=>3 | n=>n,fun | n=>n⟩
theorem Tryz.lays137:Go.Proofs.Lays.n137 Tryz.prog Tryz.lays137_ren:=by
 constructor
 all_goals first | kernel_rfl | (simp [Tryz.lays137_ren,go_sem];done) | (constructor <;> first | kernel_rfl | simp [Tryz.lays137_ren,go_sem])
open Go.RowKit in
theorem Tryz.strings_IndexByte (s:ByteArray) (c:Int) (w:World):
  Calls Tryz.prog 216 #[.string s,.int .u8 c] w fun e a=>e= .returned (.int .i64 (Lib.indexByte s.data.toList c.toNat.toUInt8))∧a=w:=Any.strings_IndexByte Tryz.lays137 s c w
def Tryz.lays104_ren:Go.Shelf.Ren:=⟨fun | 104=>212 | 211=>250 | 207=>254 | n=>n,fun | 9=>9 | 4=>4 | 24=>260 | 3=>3 | n=>n,fun | n=>n⟩
theorem Tryz.lays104:Go.Proofs.Lays.n104 Tryz.prog Tryz.lays104_ren:=by
 constructor
 all_goals first | kernel_rfl | (simp [Tryz.lays104_ren,go_sem];done) | (constructor <;> first | kernel_rfl | simp [Tryz.lays104_ren,go_sem])
open Go.RowKit in
theorem Tryz.strings_CutSuffix (s p:ByteArray) (w:World) (a:s.size≤9223372036854775807):
  Calls Tryz.prog 212 #[.string s,.string p] w fun e b=>e= .returned (.tuple #[.string ⟨(Lib.trimSuffix s.data.toList p.data.toList).toArray⟩,.bool (Lib.hasSuffix s.data.toList p.data.toList)])∧b=w:=Any.strings_CutSuffix Tryz.lays104 s p w a
def Tryz.lays172_ren:Go.Shelf.Ren:=⟨fun | 172=>249 | 244=>277 | 245=>278 | 247=>295 | 279=>296 | 280=>297 | 281=>298 | 282=>299 | 287=>304 | 316=>110 | 171=>196 | 205=>305 | 321=>308 | 322=>309 | 243=>235 | 246=>264 | 283=>285 | 284=>286 | 285=>287 | 286=>288 | 129=>190 | 317=>300 | 318=>301 | 319=>302 | 320=>303 | 337=>306 | 338=>307 | n=>n,fun | 9=>9 | 3=>3 | 75=>167 | 76=>168 | 4=>4 | 5=>5 | 167=>324 | 37=>114 | 0=>0 | 85=>325 | 2=>2 | 168=>327 | 53=>248 | 175=>337 | 46=>210 | 210=>340 | 127=>170 | 145=>345 | 143=>343 | 21=>21 | 171=>304 | 173=>306 | 212=>331 | 51=>188 | 20=>20 | 213=>332 | 232=>346 | 233=>347 | 80=>98 | n=>n,fun | 15=>7 | 16=>8 | 17=>6 | 18=>9 | 19=>10 | n=>n⟩
theorem Tryz.lays172:Go.Proofs.Lays.n172 Tryz.prog Tryz.lays172_ren:=by
 constructor
 all_goals first | kernel_rfl | (simp [Tryz.lays172_ren,go_sem];done) | (constructor <;> first | kernel_rfl | simp [Tryz.lays172_ren,go_sem])
open Go.RowKit in
theorem Tryz.strconv_Atoi (s:ByteArray) (n:Int) (a:s.size≤18) (h:Lib.atoi s.data.toList=some n) (w:World):
  Calls Tryz.prog 249 #[.string s] w fun e b=>e= .returned (.tuple #[.int .i64 n,.nilIface])∧∃t,b=Lib.bytesWorld w 5 t:=Any.strconv_Atoi Tryz.lays172 s n a h w
def Tryz.laysM171_ren:Go.Shelf.Ren:=⟨fun | 171=>196 | 243=>235 | 246=>264 | 283=>285 | 284=>286 | 285=>287 | 286=>288 | 129=>190 | 317=>300 | 318=>301 | 319=>302 | 320=>303 | 337=>306 | 338=>307 | n=>n,fun | 3=>3 | 9=>9 | 2=>2 | 4=>4 | 171=>304 | 0=>0 | 53=>248 | 37=>114 | 5=>5 | 173=>306 | 212=>331 | 51=>188 | 20=>20 | 213=>332 | 46=>210 | 232=>346 | 233=>347 | n=>n,fun | 17=>6 | 18=>9 | 19=>10 | n=>n⟩
theorem Tryz.laysM171:Go.Proofs.LaysM.n171 Tryz.prog Tryz.laysM171_ren:=by
 constructor
 all_goals first | kernel_rfl | (simp [Tryz.laysM171_ren,go_sem];done) | (constructor <;> first | kernel_rfl | simp [Tryz.laysM171_ren,go_sem])
open Go.RowKit Go.Sort Go.Lib in
theorem Tryz.strconv_Itoa (n:Int) (b: -9223372036854775808≤n) (c:n≤9223372036854775807) (w:World) (a:Lib.TabIs Tryz.prog w "internal/strconv.uint64pow10" .u64 Lib.pow10Tab):
  Calls Tryz.prog 196 #[.int .i64 n] w fun e f=>e= .returned (.string ⟨(Lib.itoa n).toArray⟩)∧∃k d,f=grow (w.drewN k) d:=Any.strconv_Itoa Tryz.laysM171 n b c w a
def Tryz.laysM316_ren:Go.Shelf.Ren:=⟨fun | 316=>110 | n=>n,fun | 9=>9 | 3=>3 | 4=>4 | 37=>114 | 0=>0 | 127=>170 | 5=>5 | n=>n,fun | n=>n⟩
theorem Tryz.laysM316:Go.Proofs.LaysM.n316 Tryz.prog Tryz.laysM316_ren:=by
 constructor
 all_goals first | kernel_rfl | (simp [Tryz.laysM316_ren,go_sem];done) | (constructor <;> first | kernel_rfl | simp [Tryz.laysM316_ren,go_sem])
open Go.RowKit in
theorem Tryz.stringslite_Clone (s:ByteArray) (w:World) (a:s.size≤281474976710656):
  Calls Tryz.prog 110 #[.string s] w fun e b=>e= .returned (.string s)∧Below w.heap.size w b:=Any.stringslite_Clone Tryz.laysM316 s w a
def Tryz.lays219_ren:Go.Shelf.Ren:=⟨fun | 219=>239 | 217=>256 | 225=>267 | 224=>268 | 267=>269 | 266=>281 | 314=>290 | n=>n,fun | 9=>9 | 3=>3 | 4=>4 | 5=>5 | 46=>210 | 146=>309 | 51=>188 | n=>n,fun | 1=>0 | n=>n⟩
theorem Tryz.lays219:Go.Proofs.Lays.n219 Tryz.prog Tryz.lays219_ren:=by
 constructor
 all_goals first | kernel_rfl | (simp [Tryz.lays219_ren,go_sem];done) | (constructor <;> first | kernel_rfl | simp [Tryz.lays219_ren,go_sem])
open Go.RowKit Go.Lib in
theorem Tryz.stringslite_Index_one (s:ByteArray) (c:UInt8) (w:World):
  Calls Tryz.prog 239 #[.string s,.string ⟨#[c]⟩] w fun e a=>e= .returned (.int .i64 (Lib.indexByte s.data.toList c))∧a=w:=Any.stringslite_Index_one Tryz.lays219 s c w
def Tryz.lays144_ren:Go.Shelf.Ren:=⟨fun | 144=>224 | 143=>253 | 219=>239 | 217=>256 | 225=>267 | 224=>268 | 267=>269 | 266=>281 | 314=>290 | n=>n,fun | 9=>9 | 4=>4 | 3=>3 | 5=>5 | 46=>210 | 146=>309 | 51=>188 | n=>n,fun | 1=>0 | n=>n⟩
theorem Tryz.lays144:Go.Proofs.Lays.n144 Tryz.prog Tryz.lays144_ren:=by
 constructor
 all_goals first | kernel_rfl | (simp [Tryz.lays144_ren,go_sem];done) | (constructor <;> first | kernel_rfl | simp [Tryz.lays144_ren,go_sem])
open Go.RowKit Go.Lib in
theorem Tryz.strings_Contains (s a:ByteArray) (m:Int) (w:World) (c:s.size < 4294967281) (b:w.cell? ⟨0,0,none⟩=some (.int .i64 m)):
  Calls Tryz.prog 224 #[.string s,.string a] w fun e d=>e= .returned (.bool (Lib.contains s.data.toList a.data.toList))∧d=w:=Any.strings_Contains Tryz.lays144 s a m w c b
def Tryz.lays99_ren:Go.Shelf.Ren:=⟨fun | 99=>178 | 206=>226 | n=>n,fun | 9=>9 | 4=>4 | 3=>3 | n=>n,fun | n=>n⟩
theorem Tryz.lays99:Go.Proofs.Lays.n99 Tryz.prog Tryz.lays99_ren:=by
 constructor
 all_goals first | kernel_rfl | (simp [Tryz.lays99_ren,go_sem];done) | (constructor <;> first | kernel_rfl | simp [Tryz.lays99_ren,go_sem])
open Go.RowKit Go.Lib in
theorem Tryz.strings_HasPrefix (s p:ByteArray) (w:World):
  Calls Tryz.prog 178 #[.string s,.string p] w fun e a=>e= .returned (.bool (Lib.hasPrefix s.data.toList p.data.toList))∧a=w:=Any.strings_HasPrefix Tryz.lays99 s p w
def Tryz.lays100_ren:Go.Shelf.Ren:=⟨fun | 100=>214 | 207=>254 | n=>n,fun | 9=>9 | 4=>4 | 3=>3 | n=>n,fun | n=>n⟩
theorem Tryz.lays100:Go.Proofs.Lays.n100 Tryz.prog Tryz.lays100_ren:=by
 constructor
 all_goals first | kernel_rfl | (simp [Tryz.lays100_ren,go_sem];done) | (constructor <;> first | kernel_rfl | simp [Tryz.lays100_ren,go_sem])
open Go.RowKit Go.Lib in
theorem Tryz.strings_HasSuffix (s p:ByteArray) (w:World) (a:s.size≤9223372036854775807):
  Calls Tryz.prog 214 #[.string s,.string p] w fun e b=>e= .returned (.bool (Lib.hasSuffix s.data.toList p.data.toList))∧b=w:=Any.strings_HasSuffix Tryz.lays100 s p w a
def Tryz.lays101_ren:Go.Shelf.Ren:=⟨fun | 101=>197 | 208=>236 | 206=>226 | n=>n,fun | 9=>9 | 4=>4 | 3=>3 | n=>n,fun | n=>n⟩
theorem Tryz.lays101:Go.Proofs.Lays.n101 Tryz.prog Tryz.lays101_ren:=by
 constructor
 all_goals first | kernel_rfl | (simp [Tryz.lays101_ren,go_sem];done) | (constructor <;> first | kernel_rfl | simp [Tryz.lays101_ren,go_sem])
open Go.RowKit Go.Lib in
theorem Tryz.strings_TrimPrefix (s p:ByteArray) (w:World):
  Calls Tryz.prog 197 #[.string s,.string p] w fun e a=>e= .returned (.string ⟨(Lib.trimPrefix s.data.toList p.data.toList).toArray⟩)∧a=w:=Any.strings_TrimPrefix Tryz.lays101 s p w
def Tryz.lays146_ren:Go.Shelf.Ren:=⟨fun | 146=>157 | 221=>213 | 268=>251 | 138=>252 | 143=>253 | 195=>279 | 197=>241 | 218=>280 | 219=>239 | 260=>271 | 217=>256 | 225=>267 | 224=>268 | 267=>269 | 266=>281 | 314=>290 | n=>n,fun | 9=>9 | 31=>25 | 3=>3 | 4=>4 | 0=>0 | 105=>277 | 21=>21 | 5=>5 | 46=>210 | 119=>311 | 139=>314 | 138=>313 | 146=>309 | 51=>188 | n=>n,fun | 1=>0 | 3=>2 | 4=>3 | n=>n⟩
theorem Tryz.lays146:Go.Proofs.Lays.n146 Tryz.prog Tryz.lays146_ren:=by
 constructor
 all_goals first | kernel_rfl | (simp [Tryz.lays146_ren,go_sem];done) | (constructor <;> first | kernel_rfl | simp [Tryz.lays146_ren,go_sem])
open Go.RowKit Go.Lib in
theorem Tryz.strings_Split (s a:ByteArray) (m:Int) (w:World) (d:s.size < 4294967281) (c:w.cell? ⟨0,0,none⟩=some (.int .i64 m)) (b:1≤a.size):
  Calls Tryz.prog 157 #[.string s,.string a] w fun e f=>
   e= .returned (.slice (some ⟨w.heap.size,0,none⟩) (Lib.countB s a+1) (Lib.countB s a+1))∧f=w.alloc (.cells ((Lib.splitB a 0 (Lib.countB s a) s).map Value.string).toArray 9):=Any.strings_Split Tryz.lays146 (by kernel_rfl) s a m w d c b
def Tryz.lays164_ren:Go.Shelf.Ren:=⟨fun | 164=>246 | 197=>241 | 239=>274 | 260=>271 | 274=>292 | 275=>293 | n=>n,fun | 9=>9 | 4=>4 | 3=>3 | 5=>5 | 0=>0 | 21=>21 | 105=>277 | 156=>319 | 49=>318 | 157=>320 | 46=>210 | 159=>322 | 162=>297 | 160=>315 | 119=>311 | 139=>314 | 138=>313 | 208=>336 | 51=>188 | 206=>334 | n=>n,fun | 11=>4 | 12=>5 | 13=>1 | 3=>2 | 4=>3 | n=>n⟩
theorem Tryz.lays164:Go.Proofs.Lays.n164 Tryz.prog Tryz.lays164_ren:=by
 constructor
 all_goals first | kernel_rfl | (simp [Tryz.lays164_ren,go_sem];done) | (constructor <;> first | kernel_rfl | simp [Tryz.lays164_ren,go_sem])
open Go.RowKit Go.Lib in
theorem Tryz.strings_EqualFold (s t:ByteArray) (w:World) (d:s.size < 4294967281) (a:∀(j:Nat) b,s.data.toList[j]? =some b→b.toNat < 128) (c:∀(j:Nat) b,t.data.toList[j]? =some b→b.toNat < 128):
  Calls Tryz.prog 246 #[.string s,.string t] w fun e f=>e= .returned (.bool (Lib.equalFold s.data.toList t.data.toList))∧f=w:=Any.strings_EqualFold Tryz.lays164 s t w d a c
def Tryz.laysnb142_ren:Go.Shelf.Ren:=⟨fun | 142=>97 | 117=>136 | 115=>192 | n=>n,fun | 37=>114 | 4=>4 | 3=>3 | 9=>9 | 5=>5 | n=>n,fun | n=>n⟩
theorem Tryz.laysnb142:Go.Proofs.Lays.nb142 Tryz.prog Tryz.laysnb142_ren:=by
 constructor
 all_goals first | kernel_rfl | (simp [Tryz.laysnb142_ren,go_sem];done) | (constructor <;> first | kernel_rfl | simp [Tryz.laysnb142_ren,go_sem])
theorem Tryz.bytes_CutSuffix (g h n c j p m d:Nat) (b f:List Int) (w:World) (q:b.length=n) (r:f.length=m) (o:n≤c) (a:n≤9223372036854775807) (k:∀i,i < n→w.cell? ⟨g,h+i,none⟩=some (.int .u8 (b.getD i 0))) (l:∀i,i < m→w.cell? ⟨j,p+i,none⟩=some (.int .u8 (f.getD i 0))):
  Calls Tryz.prog 97 #[.slice (some ⟨g,h,none⟩) n c,.slice (some ⟨j,p,none⟩) m d] w fun e s=>e= .returned (.tuple #[Lib.bytesTrimSuffix g h n c b f,.bool (Lib.hasSuffix (Lib.bytesOf b) (Lib.bytesOf f))])∧s=w:=Any.bytes_CutSuffix Tryz.laysnb142 g h n c j p m d b f w q r o a k l
set_option maxHeartbeats 8000000
set_option maxRecDepth 1000000
def Tryz.lays755_ren:Go.Shelf.Ren:=⟨fun | 55=>232 | 32=>262 | 49=>284 | n=>n,fun | 30=>114 | 48=>213 | 4=>4 | 3=>3 | 33=>277 | 21=>21 | 0=>0 | 5=>5 | 66=>311 | 25=>210 | 69=>314 | 68=>313 | n=>n,fun | 2=>2 | 3=>3 | n=>n⟩
theorem Tryz.lays755:Go.Proofs.Lays7.n55 Tryz.prog Tryz.lays755_ren:=by
 constructor
 all_goals first | kernel_rfl | (simp [Tryz.lays755_ren,go_sem];done) | (constructor <;> first | kernel_rfl | simp [Tryz.lays755_ren,go_sem])
set_option maxHeartbeats 8000000
set_option maxRecDepth 1000000
def Tryz.keysA_ren:Go.Shelf.Ren:=⟨fun | 7=>59 | 10=>95 | n=>n,fun | 23=>115 | 26=>3 | 3=>122 | 28=>120 | 0=>0 | 27=>119 | 33=>95 | 4=>4 | n=>n,fun | n=>n⟩
theorem Tryz.keysA:Go.Proofs.SlLaysZI.n7 Tryz.prog Tryz.keysA_ren:=by
 constructor
 case f7=>exact ⟨Tryz.f59.name,by decide,Tryz.func59.trans (congrArg some (by kernel_rfl))⟩
 case f10=>exact ⟨Tryz.f95.name,by decide,Tryz.func95.trans (congrArg some (by kernel_rfl))⟩
 all_goals first | kernel_rfl | (simp [Tryz.keysA_ren,go_sem];done) | (constructor <;> first | kernel_rfl | simp [Tryz.keysA_ren,go_sem])
def Tryz.sortedA_ren:Go.Shelf.Ren:=⟨fun | 6=>58 | 8=>93 | 9=>94 | 11=>132 | 13=>134 | 12=>133 | 23=>189 | 24=>190 | 14=>180 | 15=>181 | 16=>182 | 17=>183 | 18=>184 | 19=>185 | 20=>186 | 21=>187 | 22=>188 | 25=>227 | 26=>228 | 27=>229 | 28=>230 | 29=>231 | 30=>172 | 31=>261 | n=>n,fun | 26=>3 | 28=>120 | 24=>28 | 0=>0 | 3=>3 | 37=>210 | 48=>188 | 50=>248 | 4=>4 | 40=>239 | 39=>238 | 45=>244 | 5=>5 | 9=>9 | 51=>268 | 55=>272 | 57=>286 | 58=>287 | 33=>95 | n=>n,fun | n=>n⟩
theorem Tryz.sortedA:Go.Proofs.SlLaysZI.n6 Tryz.prog Tryz.sortedA_ren:=by
 constructor
 case f6=>exact ⟨Tryz.f58.name,by decide,Tryz.func58.trans (congrArg some (by kernel_rfl))⟩
 case f8=>exact ⟨Tryz.f93.name,by decide,Tryz.func93.trans (congrArg some (by kernel_rfl))⟩
 case f11=>exact ⟨Tryz.f132.name,by decide,Tryz.func132.trans (congrArg some (by kernel_rfl))⟩
 all_goals first | kernel_rfl | (simp [Tryz.sortedA_ren,go_sem];done) | (constructor <;> first | kernel_rfl | simp [Tryz.sortedA_ren,go_sem])
def Tryz.sortA_ren:Go.Shelf.Ren:=⟨fun | 5=>94 | 8=>134 | 7=>133 | 19=>189 | 20=>190 | 10=>180 | 11=>181 | 12=>182 | 13=>183 | 14=>184 | 15=>185 | 16=>186 | 17=>187 | 18=>188 | 30=>227 | 31=>228 | 32=>229 | 33=>230 | 34=>231 | 35=>172 | 40=>261 | n=>n,fun | 23=>28 | 25=>3 | 3=>3 | 32=>210 | 22=>28 | 0=>0 | 44=>188 | 46=>248 | 4=>4 | 36=>239 | 35=>238 | 41=>244 | 5=>5 | 9=>9 | 53=>268 | 57=>272 | 63=>286 | 64=>287 | n=>n,fun | n=>n⟩
theorem Tryz.sortA:Go.Proofs.SlLaysM.n5 Tryz.prog Tryz.sortA_ren:=by
 constructor
 case f5=>exact ⟨Tryz.f94.name,by decide,Tryz.func94.trans (congrArg some (by kernel_rfl))⟩
 case f7=>exact ⟨Tryz.f133.name,by decide,Tryz.func133.trans (congrArg some (by kernel_rfl))⟩
 case f10=>exact ⟨Tryz.f180.name,by decide,Tryz.func180.trans (congrArg some (by kernel_rfl))⟩
 case f11=>exact ⟨Tryz.f181.name,by decide,Tryz.func181.trans (congrArg some (by kernel_rfl))⟩
 case f12=>exact ⟨Tryz.f182.name,by decide,Tryz.func182.trans (congrArg some (by kernel_rfl))⟩
 case f13=>exact ⟨Tryz.f183.name,by decide,Tryz.func183.trans (congrArg some (by kernel_rfl))⟩
 case f14=>exact ⟨Tryz.f184.name,by decide,Tryz.func184.trans (congrArg some (by kernel_rfl))⟩
 case f15=>exact ⟨Tryz.f185.name,by decide,Tryz.func185.trans (congrArg some (by kernel_rfl))⟩
 case f16=>exact ⟨Tryz.f186.name,by decide,Tryz.func186.trans (congrArg some (by kernel_rfl))⟩
 case f17=>exact ⟨Tryz.f187.name,by decide,Tryz.func187.trans (congrArg some (by kernel_rfl))⟩
 case f18=>exact ⟨Tryz.f188.name,by decide,Tryz.func188.trans (congrArg some (by kernel_rfl))⟩
 case f30=>exact ⟨Tryz.f227.name,by decide,Tryz.func227.trans (congrArg some (by kernel_rfl))⟩
 case f33=>exact ⟨Tryz.f230.name,by decide,Tryz.func230.trans (congrArg some (by kernel_rfl))⟩
 case f34=>exact ⟨Tryz.f231.name,by decide,Tryz.func231.trans (congrArg some (by kernel_rfl))⟩
 case f35=>exact ⟨Tryz.f172.name,by decide,Tryz.func172.trans (congrArg some (by kernel_rfl))⟩
 case f40=>exact ⟨Tryz.f261.name,by decide,Tryz.func261.trans (congrArg some (by kernel_rfl))⟩
 all_goals first | kernel_rfl | (simp [Tryz.sortA_ren,go_sem];done) | (constructor <;> first | kernel_rfl | simp [Tryz.sortA_ren,go_sem])
end Go.Proofs
