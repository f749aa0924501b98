import Derived.Test.YtponhohdpophlaaGreatDoorS00
import Derived.Shelf.Strings.Builder1
import Derived.Shelf.Strings.Builder2
import Derived.Shelf.Strings.OnBuilder
import Derived.Shelf.Small.Utf8
import Derived.Shelf.Small.Strs
import Derived.Shelf.Small.Wraps
import Derived.Shelf.Strings.BuilderF
import Derived.Shelf.Strings.BuilderK
import Derived.Shelf.Strconv.Atoi
import Derived.Shelf.Strconv.Itoa0
import Derived.Shelf.Strconv.Itoa1
import Derived.Shelf.LaysM
import Derived.Shelf.Strconv.Itoa2
import Derived.Shelf.Strconv.Itoa3
import Derived.Shelf.Strconv.Clone
import Derived.Shelf.Strings.Search1
import Derived.Shelf.Strings.Search2
import Derived.Shelf.Strings.Search3
import Derived.Shelf.Strings.Cut
import Derived.Shelf.Strings.Count
import Derived.Shelf.Strings.Shaped
import Derived.Shelf.Strings.Prefix
import Derived.Shelf.Strings.Split
import Derived.Shelf.Strings.Fold
import Derived.Shelf.Strings.SplitShaped
import Derived.Shelf.Unicode.Latin
import Derived.Shelf.Unicode.DecodeSlow
import Derived.Shelf.Unicode.DecodeAny
import Derived.Shelf.Unicode.CaseLookup
import Derived.Shelf.Unicode.CaseConvert
import Derived.Shelf.Unicode.CaseTo
import Derived.Shelf.Unicode.CaseLaid
import Derived.Shelf.Bytes.Small
import Derived.Test.YtponhohdpophlaaGreatDoorProg
namespace Go.Proofs
set_option maxHeartbeats 8000000
set_option maxRecDepth 1000000
open Go.Proofs.Tryz renaming underlying5->Ux,prog->Ys,zeroValue5->aaj
open YtponhohdpophlaaGreatDoor
open Go.Proofs.Tryz
open Go.Shelf
set_option maxHeartbeats 8000000
set_option maxRecDepth 1000000
def Tryz.lays169_ren:Go.Shelf.Ren:=⟨λ| 169=>59 | n=>n,λ| 70=>113 | 9=>9 | 0=>0 | 72=>115 | 37=>100 | 127=>188 | 3=>3 | 5=>5 | n=>n,λ| n=>n⟩
theorem Tryz.lays169:Go.Proofs.Lays.n169 Ys Tryz.lays169_ren:=by
 constructor
 all_goals first | kernel_rfl | (simp [Tryz.lays169_ren,go_sem];done) | (constructor <;> first | kernel_rfl | simp [Tryz.lays169_ren,go_sem])
theorem Tryz.Builder_Extra_169:Builder.Extra Ys Tryz.lays169_ren:={
 sizeBuilder:=by kernel_rfl
 liesBuilder:=by kernel_rfl
 t5:=underlying5
 a5:=Tryz.isAgg5
 z5:=Tryz.sizeOf5
 v5:=zeroValue5
 infoByte:=by kernel_rfl
 cellsByte:=by kernel_rfl
 sizeByte:=by kernel_rfl
 neB5:=by decide}
open Go.RowKit in
theorem Tryz.Builder_String_any(B b:Nat)(l:QF)(w:QI)(h:Lib.IsBuilder 115 5 B b (Lib.byteCells l) w)(a:B<=w.heap.size):Calls Ys 59 #[.pointer (some ⟨b,0,none⟩)] w λe c=>e= .returned (.string ⟨l.toArray⟩)/\Below B w c:=Any.Builder_String_any Tryz.lays169 Tryz.Builder_Extra_169 B b l w h a
def Tryz.lays158_ren:Go.Shelf.Ren:=⟨λ| 158=>175 | 165=>235 | 166=>102 | 167=>236 | 169=>59 | 230=>237 | 203=>238 | 240=>159 | 241=>277 | 197=>278 | 118=>279 | 168=>280 | 270=>281 | 262=>282 | 276=>222 | 277=>315 | 260=>316 | 242=>317 | 313=>318 | 278=>338 | 274=>339 | 275=>340 | n=>n,λ| 9=>9 | 4=>4 | 3=>3 | 5=>5 | 72=>115 | 0=>0 | 76=>186 | 75=>185 | 107=>281 | 70=>113 | 20=>20 | 37=>100 | 127=>188 | 21=>21 | 105=>301 | 164=>269 | 162=>326 | 203=>324 | 119=>344 | 46=>214 | 139=>347 | 138=>346 | 51=>168 | 160=>348 | 208=>372 | 206=>370 | 80=>118 | n=>n,λ| 13=>1 | 3=>2 | 4=>3 | n=>n⟩
theorem Tryz.lays158:Go.Proofs.Lays.n158 Ys Tryz.lays158_ren:=by
 constructor
 all_goals first | kernel_rfl | (simp [Tryz.lays158_ren,go_sem];done) | (constructor <;> first | kernel_rfl | simp [Tryz.lays158_ren,go_sem])
theorem Tryz.Builder_Extra_158:Builder.Extra Ys Tryz.lays158_ren:={
 sizeBuilder:=by kernel_rfl
 liesBuilder:=by kernel_rfl
 t5:=underlying5
 a5:=Tryz.isAgg5
 z5:=Tryz.sizeOf5
 v5:=zeroValue5
 infoByte:=by kernel_rfl
 cellsByte:=by kernel_rfl
 sizeByte:=by kernel_rfl
 neB5:=by decide}
open Go.RowKit in
theorem Tryz.strings_ToUpper_ascii(s:QL)(w:QI)(c:s.size<=140737488355328)(a:∀(j:Nat) (b:UInt8),s.data.toList[j]? =some b->b.toNat < 128):Calls Ys 175 #[.string s] w λe d=>e= .returned (.string ⟨(Lib.toUpperA s.data.toList).toArray⟩)/\Below w.heap.size w d:=Any.strings_ToUpper_ascii Tryz.lays158 Tryz.Builder_Extra_158 s w c a
def Tryz.lays159_ren:Go.Shelf.Ren:=⟨λ| 159=>343 | 165=>235 | 166=>102 | 167=>236 | 169=>59 | 230=>237 | 204=>354 | 240=>159 | 241=>277 | 197=>278 | 118=>279 | 168=>280 | 270=>281 | 262=>282 | 276=>222 | 277=>315 | 260=>316 | 242=>317 | 313=>318 | 278=>338 | 274=>339 | 275=>340 | n=>n,λ| 9=>9 | 4=>4 | 3=>3 | 5=>5 | 72=>115 | 0=>0 | 76=>186 | 75=>185 | 107=>281 | 70=>113 | 20=>20 | 37=>100 | 127=>188 | 21=>21 | 105=>301 | 164=>269 | 162=>326 | 203=>324 | 119=>344 | 46=>214 | 139=>347 | 138=>346 | 51=>168 | 160=>348 | 208=>372 | 206=>370 | 80=>118 | n=>n,λ| 13=>1 | 3=>2 | 4=>3 | n=>n⟩
theorem Tryz.lays159:Go.Proofs.Lays.n159 Ys Tryz.lays159_ren:=by
 constructor
 all_goals first | kernel_rfl | (simp [Tryz.lays159_ren,go_sem];done) | (constructor <;> first | kernel_rfl | simp [Tryz.lays159_ren,go_sem])
theorem Tryz.Builder_Extra_159:Builder.Extra Ys Tryz.lays159_ren:={
 sizeBuilder:=by kernel_rfl
 liesBuilder:=by kernel_rfl
 t5:=underlying5
 a5:=Tryz.isAgg5
 z5:=Tryz.sizeOf5
 v5:=zeroValue5
 infoByte:=by kernel_rfl
 cellsByte:=by kernel_rfl
 sizeByte:=by kernel_rfl
 neB5:=by decide}
open Go.RowKit in
theorem Tryz.strings_ToLower_ascii(s:QL)(w:QI)(c:s.size<=140737488355328)(a:∀(j:Nat) (b:UInt8),s.data.toList[j]? =some b->b.toNat < 128):Calls Ys 343 #[.string s] w λe d=>e= .returned (.string ⟨(Lib.toLowerA s.data.toList).toArray⟩)/\Below w.heap.size w d:=Any.strings_ToLower_ascii Tryz.lays159 Tryz.Builder_Extra_159 s w c a
def Tryz.lays137_ren:Go.Shelf.Ren:=⟨λ| 137=>214 | 217=>265 | 266=>304 | n=>n,λ| 9=>9 | 5=>5 | 3=>3 | n=>n,λ| n=>n⟩
theorem Tryz.lays137:Go.Proofs.Lays.n137 Ys Tryz.lays137_ren:=by
 constructor
 all_goals first | kernel_rfl | (simp [Tryz.lays137_ren,go_sem];done) | (constructor <;> first | kernel_rfl | simp [Tryz.lays137_ren,go_sem])
open Go.RowKit in
theorem Tryz.strings_IndexByte(s:QL)(c:Int)(w:QI):Calls Ys 214 #[.string s,.int .u8 c] w λe a=>e= .returned (.int .i64 (Lib.indexByte s.data.toList c.toNat.toUInt8))/\a=w:=Any.strings_IndexByte Tryz.lays137 s c w
def Tryz.lays104_ren:Go.Shelf.Ren:=⟨λ| 104=>243 | 211=>288 | 207=>263 | n=>n,λ| 9=>9 | 4=>4 | 24=>282 | 3=>3 | n=>n,λ| n=>n⟩
theorem Tryz.lays104:Go.Proofs.Lays.n104 Ys Tryz.lays104_ren:=by
 constructor
 all_goals first | kernel_rfl | (simp [Tryz.lays104_ren,go_sem];done) | (constructor <;> first | kernel_rfl | simp [Tryz.lays104_ren,go_sem])
open Go.RowKit in
theorem Tryz.strings_CutSuffix(s p:QL)(w:QI)(a:s.size<=9223372036854775807):Calls Ys 243 #[.string s,.string p] w λe b=>e= .returned (.tuple #[.string ⟨(Lib.trimSuffix s.data.toList p.data.toList).toArray⟩,.bool (Lib.hasSuffix s.data.toList p.data.toList)])/\b=w:=Any.strings_CutSuffix Tryz.lays104 s p w a
def Tryz.lays172_ren:Go.Shelf.Ren:=⟨λ| 172=>287 | 244=>324 | 245=>325 | 247=>344 | 279=>345 | 280=>346 | 281=>347 | 282=>348 | 287=>355 | 316=>92 | 171=>227 | 205=>356 | 321=>359 | 322=>360 | 243=>272 | 246=>309 | 283=>332 | 284=>333 | 285=>334 | 286=>335 | 129=>299 | 317=>350 | 318=>351 | 319=>352 | 320=>353 | 337=>357 | 338=>358 | n=>n,λ| 9=>9 | 3=>3 | 75=>185 | 76=>186 | 4=>4 | 5=>5 | 167=>357 | 37=>100 | 0=>0 | 85=>358 | 2=>2 | 168=>360 | 53=>265 | 175=>373 | 46=>214 | 210=>376 | 127=>188 | 145=>381 | 143=>379 | 21=>21 | 171=>337 | 173=>339 | 212=>367 | 51=>168 | 20=>20 | 213=>368 | 232=>382 | 233=>383 | 80=>118 | n=>n,λ| 15=>7 | 16=>8 | 17=>6 | 18=>9 | 19=>10 | n=>n⟩
theorem Tryz.lays172:Go.Proofs.Lays.n172 Ys Tryz.lays172_ren:=by
 constructor
 all_goals first | kernel_rfl | (simp [Tryz.lays172_ren,go_sem];done) | (constructor <;> first | kernel_rfl | simp [Tryz.lays172_ren,go_sem])
open Go.RowKit in
theorem Tryz.strconv_Atoi(s:QL)(n:Int)(a:s.size<=18)(h:Lib.atoi s.data.toList=some n)(w:QI):Calls Ys 287 #[.string s] w λe b=>e= .returned (.tuple #[.int .i64 n,.nilIface])/\∃t,b=Lib.bytesWorld w 5 t:=Any.strconv_Atoi Tryz.lays172 s n a h w
def Tryz.laysM171_ren:Go.Shelf.Ren:=⟨λ| 171=>227 | 243=>272 | 246=>309 | 283=>332 | 284=>333 | 285=>334 | 286=>335 | 129=>299 | 317=>350 | 318=>351 | 319=>352 | 320=>353 | 337=>357 | 338=>358 | n=>n,λ| 3=>3 | 9=>9 | 2=>2 | 4=>4 | 171=>337 | 0=>0 | 53=>265 | 37=>100 | 5=>5 | 173=>339 | 212=>367 | 51=>168 | 20=>20 | 213=>368 | 46=>214 | 232=>382 | 233=>383 | n=>n,λ| 17=>6 | 18=>9 | 19=>10 | n=>n⟩
theorem Tryz.laysM171:Go.Proofs.LaysM.n171 Ys Tryz.laysM171_ren:=by
 constructor
 all_goals first | kernel_rfl | (simp [Tryz.laysM171_ren,go_sem];done) | (constructor <;> first | kernel_rfl | simp [Tryz.laysM171_ren,go_sem])
open Go.RowKit Go.Sort Go.Lib in
theorem Tryz.strconv_Itoa(n:Int)(b: -9223372036854775808<=n)(c:n<=9223372036854775807)(w:QI)(a:Lib.TabIs Ys w "internal/strconv.uint64pow10" .u64 Lib.pow10Tab):Calls Ys 227 #[.int .i64 n] w λe f=>e= .returned (.string ⟨(Lib.itoa n).toArray⟩)/\∃k d,f=grow (w.drewN k) d:=Any.strconv_Itoa Tryz.laysM171 n b c w a
def Tryz.laysM316_ren:Go.Shelf.Ren:=⟨λ| 316=>92 | n=>n,λ| 9=>9 | 3=>3 | 4=>4 | 37=>100 | 0=>0 | 127=>188 | 5=>5 | n=>n,λ| n=>n⟩
theorem Tryz.laysM316:Go.Proofs.LaysM.n316 Ys Tryz.laysM316_ren:=by
 constructor
 all_goals first | kernel_rfl | (simp [Tryz.laysM316_ren,go_sem];done) | (constructor <;> first | kernel_rfl | simp [Tryz.laysM316_ren,go_sem])
open Go.RowKit in
theorem Tryz.stringslite_Clone(s:QL)(w:QI)(a:s.size<=281474976710656):Calls Ys 92 #[.string s] w λe b=>e= .returned (.string s)/\Below w.heap.size w b:=Any.stringslite_Clone Tryz.laysM316 s w a
def Tryz.lays219_ren:Go.Shelf.Ren:=⟨λ| 219=>276 | 217=>265 | 225=>312 | 224=>313 | 267=>314 | 266=>304 | 314=>337 | n=>n,λ| 9=>9 | 3=>3 | 4=>4 | 5=>5 | 46=>214 | 146=>342 | 51=>168 | n=>n,λ| 1=>0 | n=>n⟩
theorem Tryz.lays219:Go.Proofs.Lays.n219 Ys Tryz.lays219_ren:=by
 constructor
 all_goals first | kernel_rfl | (simp [Tryz.lays219_ren,go_sem];done) | (constructor <;> first | kernel_rfl | simp [Tryz.lays219_ren,go_sem])
open Go.RowKit Go.Lib in
theorem Tryz.stringslite_Index_one(s:QL)(c:UInt8)(w:QI):Calls Ys 276 #[.string s,.string ⟨#[c]⟩] w λe a=>e= .returned (.int .i64 (Lib.indexByte s.data.toList c))/\a=w:=Any.stringslite_Index_one Tryz.lays219 s c w
def Tryz.lays144_ren:Go.Shelf.Ren:=⟨λ| 144=>342 | 143=>261 | 219=>276 | 217=>265 | 225=>312 | 224=>313 | 267=>314 | 266=>304 | 314=>337 | n=>n,λ| 9=>9 | 4=>4 | 3=>3 | 5=>5 | 46=>214 | 146=>342 | 51=>168 | n=>n,λ| 1=>0 | n=>n⟩
theorem Tryz.lays144:Go.Proofs.Lays.n144 Ys Tryz.lays144_ren:=by
 constructor
 all_goals first | kernel_rfl | (simp [Tryz.lays144_ren,go_sem];done) | (constructor <;> first | kernel_rfl | simp [Tryz.lays144_ren,go_sem])
open Go.RowKit Go.Lib in
theorem Tryz.strings_Contains(s a:QL)(m:Int)(w:QI)(c:s.size < 4294967281)(b:w.cell? ⟨0,0,none⟩=some (.int .i64 m)):Calls Ys 342 #[.string s,.string a] w λe d=>e= .returned (.bool (Lib.contains s.data.toList a.data.toList))/\d=w:=Any.strings_Contains Tryz.lays144 s a m w c b
def Tryz.lays99_ren:Go.Shelf.Ren:=⟨λ| 99=>211 | 206=>262 | n=>n,λ| 9=>9 | 4=>4 | 3=>3 | n=>n,λ| n=>n⟩
theorem Tryz.lays99:Go.Proofs.Lays.n99 Ys Tryz.lays99_ren:=by
 constructor
 all_goals first | kernel_rfl | (simp [Tryz.lays99_ren,go_sem];done) | (constructor <;> first | kernel_rfl | simp [Tryz.lays99_ren,go_sem])
open Go.RowKit Go.Lib in
theorem Tryz.strings_HasPrefix(s p:QL)(w:QI):Calls Ys 211 #[.string s,.string p] w λe a=>e= .returned (.bool (Lib.hasPrefix s.data.toList p.data.toList))/\a=w:=Any.strings_HasPrefix Tryz.lays99 s p w
def Tryz.lays100_ren:Go.Shelf.Ren:=⟨λ| 100=>212 | 207=>263 | n=>n,λ| 9=>9 | 4=>4 | 3=>3 | n=>n,λ| n=>n⟩
theorem Tryz.lays100:Go.Proofs.Lays.n100 Ys Tryz.lays100_ren:=by
 constructor
 all_goals first | kernel_rfl | (simp [Tryz.lays100_ren,go_sem];done) | (constructor <;> first | kernel_rfl | simp [Tryz.lays100_ren,go_sem])
open Go.RowKit Go.Lib in
theorem Tryz.strings_HasSuffix(s p:QL)(w:QI)(a:s.size<=9223372036854775807):Calls Ys 212 #[.string s,.string p] w λe b=>e= .returned (.bool (Lib.hasSuffix s.data.toList p.data.toList))/\b=w:=Any.strings_HasSuffix Tryz.lays100 s p w a
def Tryz.lays101_ren:Go.Shelf.Ren:=⟨λ| 101=>228 | 208=>273 | 206=>262 | n=>n,λ| 9=>9 | 4=>4 | 3=>3 | n=>n,λ| n=>n⟩
theorem Tryz.lays101:Go.Proofs.Lays.n101 Ys Tryz.lays101_ren:=by
 constructor
 all_goals first | kernel_rfl | (simp [Tryz.lays101_ren,go_sem];done) | (constructor <;> first | kernel_rfl | simp [Tryz.lays101_ren,go_sem])
open Go.RowKit Go.Lib in
theorem Tryz.strings_TrimPrefix(s p:QL)(w:QI):Calls Ys 228 #[.string s,.string p] w λe a=>e= .returned (.string ⟨(Lib.trimPrefix s.data.toList p.data.toList).toArray⟩)/\a=w:=Any.strings_TrimPrefix Tryz.lays101 s p w
def Tryz.lays146_ren:Go.Shelf.Ren:=⟨λ| 146=>145 | 221=>210 | 268=>259 | 138=>260 | 143=>261 | 195=>302 | 197=>278 | 218=>303 | 219=>276 | 260=>316 | 217=>265 | 225=>312 | 224=>313 | 267=>314 | 266=>304 | 314=>337 | n=>n,λ| 9=>9 | 31=>30 | 3=>3 | 4=>4 | 0=>0 | 105=>301 | 21=>21 | 5=>5 | 46=>214 | 119=>344 | 139=>347 | 138=>346 | 146=>342 | 51=>168 | n=>n,λ| 1=>0 | 3=>2 | 4=>3 | n=>n⟩
theorem Tryz.lays146:Go.Proofs.Lays.n146 Ys Tryz.lays146_ren:=by
 constructor
 all_goals first | kernel_rfl | (simp [Tryz.lays146_ren,go_sem];done) | (constructor <;> first | kernel_rfl | simp [Tryz.lays146_ren,go_sem])
open Go.RowKit Go.Lib in
theorem Tryz.strings_Split(s a:QL)(m:Int)(w:QI)(d:s.size < 4294967281)(c:w.cell? ⟨0,0,none⟩=some (.int .i64 m))(b:1<=a.size):Calls Ys 145 #[.string s,.string a] w λe f=>
   e= .returned (.slice (some ⟨w.heap.size,0,none⟩) (Lib.countB s a+1) (Lib.countB s a+1))/\f=w.alloc (.cells ((Lib.splitB a 0 (Lib.countB s a) s).map Value.string).toArray 9):=Any.strings_Split Tryz.lays146 (by kernel_rfl) s a m w d c b
def Tryz.lays164_ren:Go.Shelf.Ren:=⟨λ| 164=>283 | 197=>278 | 239=>319 | 260=>316 | 274=>339 | 275=>340 | n=>n,λ| 9=>9 | 4=>4 | 3=>3 | 5=>5 | 0=>0 | 21=>21 | 105=>301 | 156=>352 | 49=>351 | 157=>353 | 46=>214 | 159=>355 | 162=>326 | 160=>348 | 119=>344 | 139=>347 | 138=>346 | 208=>372 | 51=>168 | 206=>370 | n=>n,λ| 11=>4 | 12=>5 | 13=>1 | 3=>2 | 4=>3 | n=>n⟩
theorem Tryz.lays164:Go.Proofs.Lays.n164 Ys Tryz.lays164_ren:=by
 constructor
 all_goals first | kernel_rfl | (simp [Tryz.lays164_ren,go_sem];done) | (constructor <;> first | kernel_rfl | simp [Tryz.lays164_ren,go_sem])
open Go.RowKit Go.Lib in
theorem Tryz.strings_EqualFold(s t:QL)(w:QI)(d:s.size < 4294967281)(a:∀(j:Nat) b,s.data.toList[j]? =some b->b.toNat < 128)(c:∀(j:Nat) b,t.data.toList[j]? =some b->b.toNat < 128):Calls Ys 283 #[.string s,.string t] w λe f=>e= .returned (.bool (Lib.equalFold s.data.toList t.data.toList))/\f=w:=Any.strings_EqualFold Tryz.lays164 s t w d a c
def Tryz.laysnb142_ren:Go.Shelf.Ren:=⟨λ| 142=>103 | 117=>160 | 115=>223 | n=>n,λ| 37=>100 | 4=>4 | 3=>3 | 9=>9 | 5=>5 | n=>n,λ| n=>n⟩
theorem Tryz.laysnb142:Go.Proofs.Lays.nb142 Ys Tryz.laysnb142_ren:=by
 constructor
 all_goals first | kernel_rfl | (simp [Tryz.laysnb142_ren,go_sem];done) | (constructor <;> first | kernel_rfl | simp [Tryz.laysnb142_ren,go_sem])
theorem Tryz.bytes_CutSuffix(g h n c j p m d:Nat)(b f:List Int)(w:QI)(q:b.length=n)(r:f.length=m)(o:n<=c)(a:n<=9223372036854775807)(k:∀i,i < n->w.cell? ⟨g,h+i,none⟩=some (.int .u8 (b.getD i 0)))(l:∀i,i < m->w.cell? ⟨j,p+i,none⟩=some (.int .u8 (f.getD i 0))):Calls Ys 103 #[.slice (some ⟨g,h,none⟩) n c,.slice (some ⟨j,p,none⟩) m d] w λe s=>e= .returned (.tuple #[Lib.bytesTrimSuffix g h n c b f,.bool (Lib.hasSuffix (Lib.bytesOf b) (Lib.bytesOf f))])/\s=w:=Any.bytes_CutSuffix Tryz.laysnb142 g h n c j p m d b f w q r o a k l
end Go.Proofs
